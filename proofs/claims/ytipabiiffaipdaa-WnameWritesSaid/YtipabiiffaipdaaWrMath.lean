/- The document's own Writer, and that both Writers have the same: plain mathematics. -/
import Derived.Test.YtipabiiffaipdaaBackMath
namespace Go.Proofs.Ytipabiiffaipdaa
open Go.RowKit

structure MS where
  most : Int
  b : List UInt8
  pl : List (List UInt8)
  bad : Bool
def MS.new (most : Int) : MS := { most, b := [], pl := [], bad := false }
def MS.put (M : MS) (x : List UInt8) : MS := { M with b := M.b ++ x, pl := M.pl ++ List.replicate x.length [] }
/-- The first place below 16384 at which k stands. -/
def placeOf (k : List UInt8) (pl : List (List UInt8)) : Option Nat := if pl.findIdx (· == k) < pl.length ∧ pl.findIdx (· == k) < 16384 then some (pl.findIdx (· == k)) else none
def MS.mark (M : MS) (k : Nat) (key : List UInt8) : MS := if k < 16384 then { M with pl := M.pl.set k key } else M
def MS.lab (M : MS) (sq : Bool) (l : List UInt8) (key : List UInt8) : MS := if sq then ((M.put [UInt8.ofNat l.length]).put l).mark M.b.length key else (M.put [UInt8.ofNat l.length]).put l
def MS.nm : MS → Bool → List (List UInt8) → MS
  | M, _, [] => M.put [0]
  | M, sq, l :: r => match (if sq then placeOf (Nm.made (l :: r)) M.pl else none) with
    | some k => M.put (two (49152 + (k : Int)))
    | none => MS.nm (M.lab sq l (Nm.made (l :: r))) sq r
def MS.name (M : MS) (n : List UInt8) (sq : Bool) : MS := if Nm.valid n = false then { M with bad := true } else M.nm sq (Nm.labsD n)

theorem place_iff {k : List UInt8} {pl : List (List UInt8)} {i : Nat} : placeOf k pl = some i ↔ i < 16384 ∧ pl[i]? = some k ∧ ∀ j, j < i → pl[j]? ≠ some k := by
  unfold placeOf
  constructor
  · intro h
    split at h
    · rename_i hc
      cases h
      refine ⟨hc.2, ?_, fun j hj e => ?_⟩
      · have := List.findIdx_getElem (p := (· == k)) (xs := pl) (w := hc.1)
        rw [List.getElem?_eq_getElem hc.1]
        simpa using this
      · have hjl : j < pl.length := by omega
        have := List.not_of_lt_findIdx (p := (· == k)) (xs := pl) hj
        rw [List.getElem?_eq_getElem hjl] at e
        simp at e this
        exact this e
    · cases h
  · rintro ⟨h1, h2, h3⟩
    obtain ⟨hl, he⟩ := List.getElem?_eq_some_iff.1 h2
    have hf : pl.findIdx (· == k) = i := (List.findIdx_eq hl).2 ⟨by simpa using he, fun j hj => by
      have := h3 j hj
      rw [List.getElem?_eq_getElem (by omega)] at this
      simpa using this⟩
    rw [if_pos (by rw [hf]; exact ⟨hl, h1⟩), hf]
theorem place_ext {k : List UInt8} {pl pl' : List (List UInt8)} (h : ∀ i, i < 16384 → (pl[i]? = some k ↔ pl'[i]? = some k)) : placeOf k pl = placeOf k pl' := by
  apply Option.ext
  intro i
  rw [place_iff, place_iff]
  constructor
  · rintro ⟨h1, h2, h3⟩
    exact ⟨h1, (h i h1).1 h2, fun j hj e => h3 j hj ((h j (by omega)).2 e)⟩
  · rintro ⟨h1, h2, h3⟩
    exact ⟨h1, (h i h1).2 h2, fun j hj e => h3 j hj ((h j (by omega)).1 e)⟩
theorem place_none {k : List UInt8} {pl : List (List UInt8)} (h : ∀ j, j < pl.length → j < 16384 → pl[j]? ≠ some k) : placeOf k pl = none := by
  cases hp : placeOf k pl with
  | none => rfl
  | some i =>
    obtain ⟨h1, h2, _⟩ := place_iff.1 hp
    exact absurd h2 (h i (List.getElem?_eq_some_iff.1 h2).1 h1)
theorem rep_at {k : List UInt8} (hk : k ≠ []) (n i : Nat) : (List.replicate n ([] : List UInt8))[i]? ≠ some k := by
  intro e
  obtain ⟨_, h⟩ := List.getElem?_eq_some_iff.1 e
  simp at h
  exact hk h
theorem place_put {k : List UInt8} (hk : k ≠ []) (pl : List (List UInt8)) (n : Nat) : placeOf k (pl ++ List.replicate n []) = placeOf k pl := by
  refine place_ext fun i _ => ?_
  by_cases hi : i < pl.length
  · rw [List.getElem?_append_left hi]
  · rw [List.getElem?_append_right (by omega), List.getElem?_eq_none (l := pl) (by omega)]
    exact ⟨fun e => absurd e (rep_at hk _ _), fun e => by cases e⟩
theorem place_mark_same {k : List UInt8} {pl : List (List UInt8)} (hn : placeOf k pl = none) (h16 : pl.length < 16384) (n : Nat) (h1 : 1 ≤ n) : placeOf k ((pl ++ List.replicate n []).set pl.length k) = some pl.length := by
  refine place_iff.2 ⟨h16, by rw [List.getElem?_set_self (by simp; omega)], fun j hj e => ?_⟩
  rw [List.getElem?_set_ne (by omega), List.getElem?_append_left hj] at e
  have hex : ∃ i, i < pl.length ∧ pl[i]? = some k := ⟨j, hj, e⟩
  have : pl.findIdx (· == k) < pl.length := List.findIdx_lt_length_of_exists ⟨k, by obtain ⟨hl, rfl⟩ := List.getElem?_eq_some_iff.1 e; exact List.getElem_mem hl, by simp⟩
  unfold placeOf at hn
  rw [if_pos ⟨this, by omega⟩] at hn
  cases hn
theorem place_mark_other {k key : List UInt8} (hk : k ≠ []) (hne : key ≠ k) {pl : List (List UInt8)} (n : Nat) (h1 : 1 ≤ n) : placeOf k ((pl ++ List.replicate n []).set pl.length key) = placeOf k pl := by
  refine place_ext fun i _ => ?_
  by_cases hi : i < pl.length
  · rw [List.getElem?_set_ne (by omega), List.getElem?_append_left hi]
  · rw [List.getElem?_eq_none (l := pl) (by omega)]
    refine ⟨fun e => ?_, fun e => by cases e⟩
    by_cases he : i = pl.length
    · subst he
      rw [List.getElem?_set_self (by simp; omega)] at e
      cases e
      exact absurd rfl hne
    · rw [List.getElem?_set_ne (by omega), List.getElem?_append_right (by omega)] at e
      exact absurd e (rep_at hk _ _)

/-- Both have the same. -/
structure Sim (S : WS) (M : MS) : Prop where
  most : S.most = M.most
  bad : S.bad = M.bad
  size : S.size = M.b.length
  even : M.pl.length = M.b.length
  out : (S.size : Int) ≤ S.most → S.out = M.b
  tab : ∀ k, k ≠ [] → look k S.tab = placeOf k M.pl
theorem sim_new (most : Int) : Sim (WS.new most) (MS.new most) := ⟨rfl, rfl, rfl, rfl, fun _ => rfl, fun k _ => by simp [WS.new, MS.new, look, placeOf]⟩
theorem Sim.put {S : WS} {M : MS} (h : Sim S M) (x : List UInt8) : Sim (S.put x) (M.put x) where
  most := h.most
  bad := h.bad
  size := by simp only [WS.put, MS.put, List.length_append]; rw [h.size]
  even := by simp only [MS.put, List.length_append, List.length_replicate]; rw [h.even]
  out := fun hm => by
    simp only [WS.put] at hm ⊢
    rw [if_neg (by omega), h.out (by omega)]
    rfl
  tab := fun k hk => (h.tab k hk).trans (place_put hk _ _).symm
theorem MS.put_put (M : MS) (a b : List UInt8) : (M.put a).put b = M.put (a ++ b) := by
  simp only [MS.put, List.append_assoc, List.replicate_append_replicate, List.length_append]
theorem MS.put_nil (M : MS) : M.put [] = M := by simp [MS.put]
theorem Sim.note {S : WS} {M : MS} (h : Sim S M) {l key : List UInt8} (hkey : key ≠ []) (hn : placeOf key M.pl = none) : Sim ((S.note key).put (UInt8.ofNat l.length :: l)) (M.lab true l key) := by
  have hs : M.lab true l key = (M.put (UInt8.ofNat l.length :: l)).mark M.b.length key := by
    unfold MS.lab
    rw [if_pos rfl, MS.put_put]
    rfl
  have hp := h.put (UInt8.ofNat l.length :: l)
  rw [hs]
  unfold WS.note MS.mark
  by_cases h16 : 16384 ≤ S.size
  · rw [if_pos h16, if_neg (by rw [← h.size]; omega)]
    exact hp
  · rw [if_neg h16, if_pos (by rw [← h.size]; omega)]
    refine ⟨hp.most, hp.bad, hp.size, by simpa using hp.even, hp.out, fun k hk => ?_⟩
    show look k ((key, S.size) :: S.tab) = placeOf k ((M.pl ++ List.replicate (UInt8.ofNat l.length :: l).length []).set M.b.length key)
    rw [← h.even, h.size, ← h.even]
    simp only [look]
    by_cases e : key = k
    · subst e
      rw [if_pos rfl, place_mark_same hn (by rw [h.even, ← h.size]; omega) _ (by simp)]
    · rw [if_neg e, place_mark_other hk e _ (by simp)]
      exact h.tab k hk
theorem made_ne (l : List UInt8) (r : List (List UInt8)) : Nm.made (l :: r) ≠ [] := by
  show UInt8.ofNat l.length :: l ++ Nm.made r ≠ []
  simp
theorem Sim.sq : ∀ (ls : List (List UInt8)) {S : WS} {M : MS}, Sim S M → Sim (S.sq ls) (M.nm true ls)
  | [], S, M, h => by rw [WS.sq, MS.nm]; exact h.put _
  | l :: r, S, M, h => by
    have ht := h.tab _ (made_ne l r)
    rw [WS.sq, MS.nm, if_pos rfl, ht]
    cases hp : placeOf (Nm.made (l :: r)) M.pl with
    | some k => exact h.put _
    | none => exact Sim.sq r (h.note (made_ne l r) hp)
theorem nm_plain : ∀ (ls : List (List UInt8)) (M : MS), M.nm false ls = M.put (Nm.made ls)
  | [], M => rfl
  | l :: r, M => by
    rw [MS.nm]
    simp only [Bool.false_eq_true, if_false]
    rw [nm_plain r]
    unfold MS.lab
    simp only [Bool.false_eq_true, if_false]
    rw [MS.put_put, MS.put_put]
    rfl
theorem Sim.name {S : WS} {M : MS} (h : Sim S M) (n : List UInt8) (sq : Bool) : Sim (S.name n sq) (M.name n sq) := by
  unfold WS.name MS.name
  by_cases hv : Nm.valid n = false
  · rw [if_pos hv, if_pos hv]
    exact ⟨h.most, rfl, h.size, h.even, h.out, h.tab⟩
  · rw [if_neg hv, if_neg hv]
    cases sq with
    | true => rw [if_pos rfl]; exact h.sq _
    | false =>
      rw [if_neg (by simp), nm_plain]
      obtain ⟨_, hm, _, _⟩ := Nm.labs_of_valid (n := n) (by simpa using hv)
      rw [← hm]
      exact h.put n
/-- How much a name adds. -/
theorem sq_size_le : ∀ (ls : List (List UInt8)) (S : WS), Nm.good ls → (S.sq ls).size ≤ S.size + (Nm.encL ls + 1)
  | [], S, _ => by simp [WS.sq, WS.put, Nm.encL]
  | l :: r, S, hg => by
    rw [WS.sq]
    have h1 := (hg l (by simp)).1
    split
    · simp [WS.put, two_len, Nm.encL]; omega
    · have := sq_size_le r ((S.note (Nm.made (l :: r))).put (UInt8.ofNat l.length :: l)) (fun x hx => hg x (by simp [hx]))
      have h2 := note_size S (Nm.made (l :: r))
      simp only [WS.put, List.length_cons, Nm.encL] at this ⊢
      omega
theorem name_size_le (S : WS) (n : List UInt8) (sq : Bool) : (S.name n sq).size ≤ S.size + n.length ∧ (S.name n sq).tab.length ≤ S.tab.length + n.length := by
  unfold WS.name
  by_cases hv : Nm.valid n = false
  · rw [if_pos hv]; exact ⟨Nat.le_add_right _ _, Nat.le_add_right _ _⟩
  · rw [if_neg hv]
    obtain ⟨_, hm, hg, _⟩ := Nm.labs_of_valid (n := n) (by simpa using hv)
    have henc : Nm.encL (Nm.labsD n) + 1 = n.length := by conv => rhs; rw [hm, Nm.made_length]
    have hl := @Nm.length_le_encL (Nm.labsD n)
    cases sq with
    | true =>
      rw [if_pos rfl]
      have h1 := sq_size_le (Nm.labsD n) S hg
      have h2 := sq_tab_len (Nm.labsD n) S
      omega
    | false => rw [if_neg (by simp)]; exact ⟨by simp [WS.put], by simp [WS.put]⟩
end Go.Proofs.Ytipabiiffaipdaa
