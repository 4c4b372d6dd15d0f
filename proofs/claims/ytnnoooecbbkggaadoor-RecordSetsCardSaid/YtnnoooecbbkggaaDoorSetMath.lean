/- What maps.Equal says of two sets of records: each is in the other. -/
import Derived.Test.YtnnoooecbbkggaaDoorKeys
namespace Go.Proofs.YtnnoooecbbkggaaDoor
open Go.RowKit Go.Shelf Go.Maps

namespace Rd
def ddF (acc : List RR) (r : RR) : List RR := if r ∈ acc then acc else acc ++ [r]
def dd (l : List RR) : List RR := l.foldl ddF []
theorem ddF_mem (acc : List RR) (r x : RR) : x ∈ ddF acc r ↔ x ∈ acc ∨ x = r := by
  unfold ddF
  split
  · rename_i h
    constructor
    · exact .inl
    · rintro (h' | rfl)
      · exact h'
      · exact h
  · simp
theorem ddF_nodup {acc : List RR} {r : RR} (h : acc.Nodup) : (ddF acc r).Nodup := by
  unfold ddF
  split
  · exact h
  · rename_i hr
    rw [List.nodup_append]
    exact ⟨h, by simp, fun a ha b hb => by rw [List.mem_singleton] at hb; subst hb; intro e; subst e; exact hr ha⟩
theorem dd_fold : ∀ (l acc : List RR), acc.Nodup → (l.foldl ddF acc).Nodup ∧ ∀ x, x ∈ l.foldl ddF acc ↔ x ∈ acc ∨ x ∈ l
  | [], acc, h => ⟨h, fun x => by simp⟩
  | r :: l, acc, h => by
    obtain ⟨h1, h2⟩ := dd_fold l (ddF acc r) (ddF_nodup h)
    refine ⟨h1, fun x => ?_⟩
    rw [List.foldl_cons, h2, ddF_mem, List.mem_cons, or_assoc]
theorem dd_nodup (l : List RR) : (dd l).Nodup := (dd_fold l [] List.nodup_nil).1
theorem dd_mem (l : List RR) (x : RR) : x ∈ dd l ↔ x ∈ l := by
  have := (dd_fold l [] List.nodup_nil).2 x
  simpa [dd] using this
theorem nodup_sub_len : ∀ (A B : List RR), A.Nodup → (∀ x ∈ A, x ∈ B) → A.length ≤ B.length
  | [], _, _, _ => Nat.zero_le _
  | a :: A, B, hn, hs => by
    obtain ⟨h1, h2⟩ := List.nodup_cons.1 hn
    have ha := hs a (by simp)
    have h3 := nodup_sub_len A (B.erase a) h2 (fun x hx => (List.mem_erase_of_ne (fun (e : x = a) => h1 (by rw [← e]; exact hx))).2 (hs x (List.mem_cons_of_mem _ hx)))
    rw [List.length_erase_of_mem ha] at h3
    have : 0 < B.length := List.length_pos_of_mem ha
    rw [List.length_cons]
    omega
theorem nodup_back {A B : List RR} (hA : A.Nodup) (hs : ∀ x ∈ A, x ∈ B) (hl : A.length = B.length) : ∀ x ∈ B, x ∈ A := by
  intro x hx
  by_cases h : x ∈ A
  · exact h
  · have h3 := nodup_sub_len (x :: A) B (List.nodup_cons.2 ⟨h, hA⟩) (fun y hy => (List.mem_cons.1 hy).elim (fun e => e ▸ hx) (hs y))
    rw [List.length_cons] at h3
    omega
end Rd

theorem addKey_map {acc : List Rd.RR} {r : Rd.RR} (ha : ∀ x ∈ acc, Fine x) (hr : Fine r) : addKey (acc.map klOf) (klOf r) = (Rd.ddF acc r).map klOf := by
  have e : (acc.map klOf).any (fun y => y.sameKey (klOf r)) = decide (r ∈ acc) := by
    rw [Bool.eq_iff_iff, List.any_eq_true, decide_eq_true_iff]
    constructor
    · rintro ⟨x, hx, hs⟩
      obtain ⟨r', hr', rfl⟩ := List.mem_map.1 hx
      have := klOf_inj (ha r' hr') hr (WideAt.sameKey_eq hs)
      rw [← this]; exact hr'
    · intro hm
      exact ⟨klOf r, List.mem_map.2 ⟨r, hm, rfl⟩, WideAt.sameKey_self (klOf_lit hr)⟩
  unfold addKey Rd.ddF
  rw [e]
  by_cases h : r ∈ acc <;> simp [h]
theorem addKey_fold : ∀ (l acc : List Rd.RR), (∀ x ∈ acc, Fine x) → (∀ x ∈ l, Fine x) → (l.map klOf).foldl addKey (acc.map klOf) = (l.foldl Rd.ddF acc).map klOf
  | [], acc, _, _ => rfl
  | r :: l, acc, ha, hl => by
    have hr := hl r (by simp)
    rw [List.map_cons, List.foldl_cons, List.foldl_cons, addKey_map ha hr]
    exact addKey_fold l (Rd.ddF acc r) (fun x hx => ((Rd.ddF_mem acc r x).1 hx).elim (ha x) (fun e => e ▸ hr)) (fun x hx => hl x (List.mem_cons_of_mem _ hx))
theorem size_setD {l : List Rd.RR} (h : ∀ r ∈ l, Fine r) : size (setD l) = (Rd.dd l).length := by
  unfold setD
  rw [size_setOf unitD (l.map klOf) (keys_lit h)]
  have := addKey_fold l [] (fun x hx => by cases hx) h
  rw [List.map_nil] at this
  rw [this, List.length_map]
  rfl

theorem mem_put {es : List (Lit × DataW Unit)} {k : Lit} {d : DataW Unit} {p : Lit × DataW Unit} (h : p ∈ Lib.entriesD ((DataW.map es).put k d)) : p.1 = k ∨ p ∈ es := by
  rcases Go.ChangeMaps.mem_insert_iff.1 (show p ∈ DataW.insert (k, d) (es.filter _) from h) with rfl | h'
  · exact .inl rfl
  · exact .inr (List.mem_filter.1 h').1
theorem fold_keys : ∀ (acc : List Lit) (es : List (Lit × DataW Unit)), (∀ x ∈ acc, WideAt.IsKeyLit x) → (∀ p ∈ es, WideAt.IsKeyLit p.1) → ∀ p ∈ Lib.entriesD (acc.foldl (fun m x => m.put x unitD) (.map es)), WideAt.IsKeyLit p.1
  | [], es, _, h => h
  | x :: acc, es, ha, h => by
    obtain ⟨es', he⟩ := IsMap.put (D := .map es) ⟨es, rfl⟩ x unitD
    rw [List.foldl_cons, he]
    refine fold_keys acc es' (fun y hy => ha y (List.mem_cons_of_mem _ hy)) (fun p hp => ?_)
    have hp' : p ∈ Lib.entriesD ((DataW.map es).put x unitD) := by rw [he]; exact hp
    rcases mem_put hp' with e | h'
    · rw [e]; exact ha x (by simp)
    · exact h p h'

def setEq : DataW Unit → DataW Unit → Bool := Lib.equalFuncD (fun _ _ => true)
theorem setEq_iff {a b : List Rd.RR} (ha : ∀ r ∈ a, Fine r) (hb : ∀ r ∈ b, Fine r) : setEq (setD a) (setD b) = true ↔ (∀ r ∈ a, r ∈ b) ∧ ∀ r ∈ b, r ∈ a := by
  obtain ⟨es, hes, hap⟩ := tidy_setOf unitD (a.map klOf) (keys_lit ha)
  have hD : setD a = .map es := hes
  have hkeys : ∀ p ∈ es, ∃ r ∈ a, p.1 = klOf r := by
    intro p hp
    have hk : WideAt.IsKeyLit p.1 := fold_keys (a.map klOf) [] (keys_lit ha) (fun p hp => by cases hp) p (by
      show p ∈ Lib.entriesD (setOf unitD (a.map klOf))
      rw [hes]; exact hp)
    have h1 : has (setD a) p.1 = true := by
      rw [hD, has_eq, List.any_eq_true]
      exact ⟨p, hp, WideAt.sameKey_self hk⟩
    unfold setD at h1
    rw [has_setOf unitD p.1 (a.map klOf) (keys_lit ha), List.any_eq_true] at h1
    obtain ⟨x, hx, hs⟩ := h1
    obtain ⟨r, hr, rfl⟩ := List.mem_map.1 hx
    exact ⟨r, hr, (WideAt.sameKey_eq hs).symm⟩
  have hall : (Lib.entriesD (setD a)).all (Lib.goodD (fun _ _ => true) (setD b)) = true ↔ ∀ r ∈ a, r ∈ b := by
    rw [hD, List.all_eq_true]
    constructor
    · intro h r hr
      have h1 : has (setD a) (klOf r) = true := by rw [has_setD ha (ha r hr)]; simpa using hr
      rw [hD, has_eq, List.any_eq_true] at h1
      obtain ⟨p, hp, hs⟩ := h1
      have h2 := h p hp
      simp only [Lib.goodD, Bool.and_true] at h2
      rw [WideAt.sameKey_eq hs, has_setD hb (ha r hr)] at h2
      simpa using h2
    · intro h p hp
      obtain ⟨r, hr, e⟩ := hkeys p hp
      simp only [Lib.goodD, Bool.and_true]
      rw [e, has_setD hb (ha r hr)]
      simpa using h r hr
  unfold setEq Lib.equalFuncD
  rw [Bool.and_eq_true, hall, decide_eq_true_iff, size_setD ha, size_setD hb]
  constructor
  · rintro ⟨hl, hs⟩
    refine ⟨hs, fun r hr => ?_⟩
    have := Rd.nodup_back (Rd.dd_nodup a) (fun x hx => (Rd.dd_mem b x).2 (hs x ((Rd.dd_mem a x).1 hx))) hl r ((Rd.dd_mem b r).2 hr)
    exact (Rd.dd_mem a r).1 this
  · rintro ⟨h1, h2⟩
    refine ⟨Nat.le_antisymm ?_ ?_, h1⟩
    · exact Rd.nodup_sub_len _ _ (Rd.dd_nodup a) (fun x hx => (Rd.dd_mem b x).2 (h1 x ((Rd.dd_mem a x).1 hx)))
    · exact Rd.nodup_sub_len _ _ (Rd.dd_nodup b) (fun x hx => (Rd.dd_mem a x).2 (h2 x ((Rd.dd_mem b x).1 hx)))
/-- What SameSet says. -/
theorem setEq_same (a b : List Rd.RR) (ha : ∀ r ∈ a, Fine r) (hb : ∀ r ∈ b, Fine r) : setEq (setD (a.map Rd.foldR)) (setD (b.map Rd.foldR)) = Rd.sameSet a b := by
  rw [Bool.eq_iff_iff, setEq_iff (fun r hr => by obtain ⟨x, hx, rfl⟩ := List.mem_map.1 hr; exact fine_fold (ha x hx)) (fun r hr => by obtain ⟨x, hx, rfl⟩ := List.mem_map.1 hr; exact fine_fold (hb x hx))]
  unfold Rd.sameSet Rd.sameR
  simp only [Bool.and_eq_true, List.all_eq_true, List.any_eq_true, beq_iff_eq, List.mem_map, forall_exists_index, and_imp, forall_apply_eq_imp_iff₂]
end Go.Proofs.YtnnoooecbbkggaaDoor
