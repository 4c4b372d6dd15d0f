/- What two names have in common, label by label. -/
import Derived.Test.YtipabiiffaipdaaOrderMath
namespace Go.Proofs.Ytipabiiffaipdaa.Nm

theorem valid_made {ls : List (List UInt8)} (g : good ls) (h : (made ls).length ≤ 255) : valid (made ls) = true := by
  unfold valid; rw [labs_iff.2 ⟨rfl, g, h⟩]; rfl
theorem labsD_of_made {ls : List (List UInt8)} (g : good ls) (h : (made ls).length ≤ 255) : labsD (made ls) = ls := by
  unfold labsD; rw [labs_iff.2 ⟨rfl, g, h⟩]; rfl
/-- The first part of a that b ends in. -/
def commonL (b : List (List UInt8)) : List (List UInt8) → List (List UInt8)
  | [] => []
  | l :: ls => if (l :: ls).map folded <:+ b.map folded then l :: ls else commonL b ls
theorem find_places {a b : List UInt8} (hb : valid b = true) {p q : List (List UInt8)} (h : a = made (p ++ q)) (g : good (p ++ q)) (hl : a.length ≤ 255) :
    (match (posOf (encL p) q).find? (fun k => under b (a.drop k)) with | some k => a.drop k | none => [0]) = made (commonL (labsD b) q) := by
  induction q generalizing p with
  | nil => rfl
  | cons l q ih =>
    have h' : a = made ((p ++ [l]) ++ q) := by simpa using h
    have g' : good ((p ++ [l]) ++ q) := by simpa using g
    have i := ih h' g'
    rw [encL_append] at i
    simp only [encL, Nat.add_zero] at i
    have hd := at_rest h
    have gq := good_suffix g
    have hlq : (made (l :: q)).length ≤ 255 := by rw [← hd, List.length_drop]; omega
    have hu : under b (a.drop (encL p)) = decide ((l :: q).map folded <:+ (labsD b).map folded) := by
      rw [hd, under_valid hb (valid_made gq hlq), labsD_of_made gq hlq]
    rw [posOf, List.find?_cons, hu]
    by_cases hs : (l :: q).map folded <:+ (labsD b).map folded
    · rw [decide_eq_true hs, commonL, if_pos hs]
      exact hd
    · rw [decide_eq_false hs, commonL, if_neg hs]
      exact i
theorem commonC_valid {a b : List UInt8} (ha : valid a = true) (hb : valid b = true) : commonC a b = made (commonL (labsD b) (labsD a)) := by
  obtain ⟨_, e, g, hl⟩ := labs_of_valid ha
  have := find_places hb (a := a) (p := []) (q := labsD a) e g hl
  simp only [encL] at this
  exact this
theorem commonL_self (a : List (List UInt8)) : commonL a a = a := by
  cases a with
  | nil => rfl
  | cons l a => rw [commonL, if_pos (List.suffix_refl _)]
theorem commonL_suffix {a b : List (List UInt8)} (h : a.map folded <:+ b.map folded) : commonL b a = a := by
  cases a with
  | nil => rfl
  | cons l a => rw [commonL, if_pos h]
theorem commonL_app (more a : List (List UInt8)) : commonL a (more ++ a) = a := by
  induction more with
  | nil => exact commonL_self a
  | cons l more ih =>
    rw [List.cons_append, commonL, if_neg, ih]
    intro h
    have := h.length_le
    simp at this
    omega
/-- Labels put ahead. -/
theorem ahead {n o : List UInt8} {more : List (List UInt8)} (hn : valid n = true) (ho : join (more ++ labsD n) = some o) :
    valid o = true ∧ labsD o = more ++ labsD n ∧ o.length ≤ 255 ∧ under o n = true ∧ commonC o n = n ∧ commonC n o = n ∧ under n o = decide (more = []) ∧ (more ≠ [] → less n o = true ∧ under (parent o) n = true) := by
  obtain ⟨eo, go', lo⟩ := join_some.1 ho
  obtain ⟨_, en, gn, ln⟩ := labs_of_valid hn
  have hv : valid o = true := by rw [eo] at lo ⊢; exact valid_made go' lo
  have hd : labsD o = more ++ labsD n := by rw [eo] at lo ⊢; exact labsD_of_made go' lo
  have hu : under o n = true := by
    rw [under_valid hv hn, hd, decide_eq_true_eq, List.map_append]
    exact List.suffix_append _ _
  refine ⟨hv, hd, lo, hu, ?_, ?_, ?_, fun hm => ⟨?_, ?_⟩⟩
  · rw [commonC_valid hv hn, hd, commonL_app, ← en]
  · rw [commonC_valid hn hv, commonL_suffix, ← en]
    rw [hd, List.map_append]
    exact List.suffix_append _ _
  · rw [under_valid hn hv, hd, Bool.eq_iff_iff, decide_eq_true_eq, decide_eq_true_eq]
    constructor
    · intro h
      have := h.length_le
      simp at this
      exact List.length_eq_zero_iff.1 (by omega)
    · rintro rfl
      exact List.suffix_refl _
  · rcases order_under hv hn hu with h | h
    · rw [same_valid hv hn, hd, decide_eq_true_eq] at h
      have := congrArg List.length h
      simp at this
      exact absurd this hm
    · exact h
  · cases more with
    | nil => exact absurd rfl hm
    | cons m ms =>
      have gp : good (ms ++ labsD n) := fun x hx => go' x (by rw [List.cons_append]; exact List.mem_cons_of_mem _ hx)
      have lp : (made (ms ++ labsD n)).length ≤ 255 := by
        have : (made (m :: (ms ++ labsD n))).length ≤ 255 := by rw [List.cons_append] at eo; rw [← eo]; exact lo
        rw [made_length] at this ⊢
        simp only [encL] at this
        omega
      have ep : parent o = made (ms ++ labsD n) := by unfold parent; rw [hd]; rfl
      rw [ep, under_valid (valid_made gp lp) hn, labsD_of_made gp lp, decide_eq_true_eq, List.map_append]
      exact List.suffix_append _ _
theorem parent_le (n : List UInt8) : (parent n).length ≤ n.length + 1 := by
  cases h : labsD n with
  | nil => rw [parent_nil h]; simp
  | cons l ls =>
    obtain ⟨_, _, _, e⟩ := parent_cons h
    rw [e, List.length_drop]; omega
end Go.Proofs.Ytipabiiffaipdaa.Nm
