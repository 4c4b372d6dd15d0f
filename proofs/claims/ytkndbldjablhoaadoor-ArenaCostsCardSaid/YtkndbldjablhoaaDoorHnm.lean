/- Handles: which are used. -/
import Derived.Test.YtkndbldjablhoaaDoorRelf
import Derived.Test.YtkndbldjablhoaaDoorAblk
set_option maxRecDepth 100000
namespace Go.Proofs.YtkndbldjablhoaaDoor
namespace Ar
theorem bitOn_test' (us : List Nat) (h : Nat) : bitOn us h = (us.getD ((h - 1) / 64) 0).testBit ((h - 1) % 64) := by
  unfold bitOn
  rw [Nat.testBit_eq_decide_div_mod_eq]
theorem or_bit (x c i : Nat) : (x ||| 2 ^ c).testBit i = (x.testBit i || decide (c = i)) := by rw [Nat.testBit_or, Nat.testBit_two_pow]
theorem andNot_bit (x c i : Nat) (hc : c < 64) (hi : i < 64) : (x &&& (18446744073709551615 - 2 ^ c)).testBit i = (x.testBit i && !decide (c = i)) := by
  have h1 := Nat.testBit_two_pow_sub_succ (n := 64) (x := 2 ^ c) (Nat.pow_lt_pow_right (by decide) hc) i
  rw [show (2 : Nat) ^ 64 - (2 ^ c + 1) = 18446744073709551615 - 2 ^ c by omega] at h1
  rw [Nat.testBit_and, h1, Nat.testBit_two_pow]
  simp [hi]
theorem getD_set (l : List Nat) (i j x d : Nat) (hi : i < l.length) : (l.set i x).getD j d = if j = i then x else l.getD j d := by
  by_cases e : j = i
  · subst e; simp [hi]
  · simp [List.getD, List.getElem?_set_ne (Ne.symm e), e]
theorem placeOf_nat (S : St) (k : Nat) : PlaceOf S ((k + 1 : Nat) : Int) = if k < S.pl.length ∧ bitOn S.us (k + 1) = true then some (S.pl.getD k 0) else none := by
  unfold PlaceOf
  rw [Int.toNat_natCast, Nat.add_sub_cancel]
  by_cases h1 : k < S.pl.length
  · rw [if_pos ⟨by omega, by omega⟩]
    by_cases h2 : bitOn S.us (k + 1) = true
    · rw [if_pos h2, if_pos ⟨h1, h2⟩]
    · rw [if_neg h2, if_neg (fun h => h2 h.2)]
  · rw [if_neg (by omega), if_neg (fun h => h1 h.1)]
theorem placeOf_out (S : St) (h : Int) (hh : h < 1 ∨ (S.pl.length : Int) < h) : PlaceOf S h = none := by
  unfold PlaceOf; rw [if_neg (by omega)]
theorem placeOf_some {S : St} {h : Int} {v : Nat} (hp : PlaceOf S h = some v) : ∃ k, h = ((k + 1 : Nat) : Int) ∧ k < S.pl.length ∧ bitOn S.us (k + 1) = true ∧ S.pl.getD k 0 = v := by
  by_cases hh : h < 1 ∨ (S.pl.length : Int) < h
  · rw [placeOf_out S h hh] at hp; cases hp
  · obtain ⟨k, rfl⟩ : ∃ k : Nat, h = ((k + 1 : Nat) : Int) := ⟨h.toNat - 1, by omega⟩
    rw [placeOf_nat] at hp
    split at hp
    · rename_i h1; cases hp; exact ⟨k, rfl, h1.1, h1.2, rfl⟩
    · cases hp
/-- The table's own form. -/
structure Tab (S : St) : Prop where
  plus : S.pl.length = 64 * S.us.length
  lim : S.pl.length ≤ 100000
  us : ∀ x ∈ S.us, x < 18446744073709551616
  place : ∀ x ∈ S.pl, x ≤ 1048576
  low : S.low ≤ S.us.length
  full : ∀ j, j < S.low → S.us.getD j 0 = 18446744073709551615
theorem mem_set_or {l : List Nat} {i x y : Nat} (h : y ∈ l.set i x) : y ∈ l ∨ y = x := by
  rcases List.mem_or_eq_of_mem_set h with h | h
  · exact .inl h
  · exact .inr h
theorem Tab.drop {S : St} (h : Tab S) {k : Nat} (hk : k < S.pl.length) : Tab (dropHd S k) := by
  have hk2 : k / 64 < S.us.length := by have := h.plus; omega
  refine ⟨by simp [dropHd]; exact h.plus, h.lim, ?_, h.place, ?_, ?_⟩
  · intro x hx
    rcases mem_set_or hx with h1 | h1
    · exact h.us x h1
    · rw [h1]
      have h2 : S.us.getD (k / 64) 0 < 18446744073709551616 := by simp only [List.getD, List.getElem?_eq_getElem hk2, Option.getD_some]; exact h.us _ (List.getElem_mem hk2)
      exact Nat.lt_of_le_of_lt Nat.and_le_left h2
  · show min S.low (k / 64) ≤ (S.us.set _ _).length
    rw [List.length_set]; omega
  · intro j hj
    have hj2 : j < S.low ∧ j < k / 64 := by have : j < min S.low (k / 64) := hj; omega
    show (S.us.set _ _).getD j 0 = _
    rw [getD_set _ _ _ _ _ hk2, if_neg (by omega)]
    exact h.full j hj2.1
theorem placeOf_drop {S : St} (h : Tab S) {k : Nat} (hk : k < S.pl.length) (z : Int) : PlaceOf (dropHd S k) z = if z = ((k + 1 : Nat) : Int) then none else PlaceOf S z := by
  have hk2 : k / 64 < S.us.length := by have := h.plus; omega
  by_cases hz : z < 1 ∨ (S.pl.length : Int) < z
  · rw [placeOf_out S z hz, placeOf_out (dropHd S k) z hz]; simp
  · obtain ⟨j, rfl⟩ : ∃ j : Nat, z = ((j + 1 : Nat) : Int) := ⟨z.toNat - 1, by omega⟩
    rw [placeOf_nat, placeOf_nat]
    have hb : bitOn (dropHd S k).us (j + 1) = if j = k then false else bitOn S.us (j + 1) := by
      rw [bitOn_test', bitOn_test', Nat.add_sub_cancel]
      show ((S.us.set _ _).getD (j / 64) 0).testBit _ = _
      rw [getD_set _ _ _ _ _ hk2]
      by_cases e1 : j / 64 = k / 64
      · rw [if_pos e1, andNot_bit _ _ _ (Nat.mod_lt _ (by decide)) (Nat.mod_lt _ (by decide))]
        by_cases e2 : j = k
        · subst e2; simp
        · rw [if_neg e2, e1]
          have : ¬ (k % 64 = j % 64) := by omega
          simp [this]
      · rw [if_neg e1, if_neg (by intro e; exact e1 (by rw [e]))]
    rw [hb]
    by_cases e : j = k
    · subst e; simp
    · rw [if_neg e, if_neg (show ¬ (((j + 1 : Nat) : Int) = ((k + 1 : Nat) : Int)) by omega)]
      rfl
theorem ctz_spec {x : Nat} (h0 : x ≠ 0) (h : x < 18446744073709551616) : x.testBit (Lib.ctz 64 x) = true ∧ ∀ j, j < Lib.ctz 64 x → x.testBit j = false := by
  unfold Lib.ctz
  rw [if_neg h0]
  obtain ⟨m, hm, _⟩ := Lib.ctzFrom_spec 64 x (by omega) h
  generalize Lib.ctzFrom 64 x = c at hm
  have hb : ∀ i, x.testBit i = (decide (c ≤ i) && (2 * m + 1).testBit (i - c)) := fun i => by
    rw [hm, Nat.mul_comm, Nat.testBit_mul_two_pow]
  refine ⟨?_, fun j hj => ?_⟩
  · rw [hb, Nat.sub_self, Nat.testBit_zero]; simp
  · rw [hb]; simp; omega
theorem compl_bit {x i : Nat} (hx : x < 18446744073709551616) (hi : i < 64) : (18446744073709551615 - x).testBit i = !x.testBit i := by
  have h1 := Nat.testBit_two_pow_sub_succ (n := 64) (x := x) hx i
  rw [show (2 : Nat) ^ 64 - (x + 1) = 18446744073709551615 - x by omega] at h1
  rw [h1]; simp [hi]
/-- The handle that take gives, from 0 on. -/
def nextH (S : St) (l : Nat) : Nat := l * 64 + Lib.ctz 64 (18446744073709551615 - S.us.getD l 0)
theorem Tab.word {S : St} (h : Tab S) (l : Nat) : S.us.getD l 0 < 18446744073709551616 := by
  by_cases hl : l < S.us.length
  · simp only [List.getD, List.getElem?_eq_getElem hl, Option.getD_some]; exact h.us _ (List.getElem_mem hl)
  · simp only [List.getD, List.getElem?_eq_none (show S.us.length ≤ l by omega)]; decide
theorem nextH_spec {S : St} (h : Tab S) {l : Nat} (hl : l < S.us.length) (hfull : ∀ j, j < l → S.us.getD j 0 = 18446744073709551615) (hfree : S.us.getD l 0 < 18446744073709551615) :
    nextH S l < S.pl.length ∧ bitOn S.us (nextH S l + 1) = false ∧ (∀ j, j < nextH S l → bitOn S.us (j + 1) = true) ∧ nextH S l / 64 = l ∧ nextH S l % 64 = Lib.ctz 64 (18446744073709551615 - S.us.getD l 0) := by
  have hw := h.word l
  have hc := ctz_lt (x := 18446744073709551615 - S.us.getD l 0) (by omega) (by omega)
  obtain ⟨s1, s2⟩ := ctz_spec (x := 18446744073709551615 - S.us.getD l 0) (by omega) (by omega)
  have hp := h.plus
  unfold nextH
  generalize hcc : Lib.ctz 64 (18446744073709551615 - S.us.getD l 0) = c at *
  have e1 : (l * 64 + c) / 64 = l := by omega
  have e2 : (l * 64 + c) % 64 = c := by omega
  refine ⟨by omega, ?_, fun j hj => ?_, e1, e2⟩
  · rw [bitOn_test', Nat.add_sub_cancel, e1, e2]
    rw [compl_bit hw hc] at s1
    simpa using s1
  · rw [bitOn_test', Nat.add_sub_cancel]
    by_cases e : j / 64 = l
    · rw [e]
      have := s2 (j % 64) (by omega)
      rw [compl_bit hw (Nat.mod_lt _ (by decide))] at this
      simpa using this
    · rw [hfull (j / 64) (by omega)]
      have := Nat.testBit_two_pow_sub_one 64 (j % 64)
      rw [show (2 : Nat) ^ 64 - 1 = 18446744073709551615 by decide] at this
      rw [this]
      simp; omega
theorem Tab.take {S : St} (h : Tab S) {l v : Nat} (hl : l < S.us.length) (hfull : ∀ j, j < l → S.us.getD j 0 = 18446744073709551615) (hfree : S.us.getD l 0 < 18446744073709551615) (hv : v ≤ 1048576) : Tab (takeH S l v) := by
  have hw := h.word l
  have hc := ctz_lt (x := 18446744073709551615 - S.us.getD l 0) (by omega) (by omega)
  refine ⟨by simp [takeH]; exact h.plus, by simp [takeH]; exact h.lim, ?_, ?_, ?_, ?_⟩
  · intro x hx
    rcases mem_set_or hx with h1 | h1
    · exact h.us x h1
    · rw [h1]
      exact Nat.or_lt_two_pow (n := 64) hw (Nat.pow_lt_pow_right (by decide) hc)
  · intro x hx
    rcases mem_set_or hx with h1 | h1
    · exact h.place x h1
    · omega
  · show l ≤ (S.us.set _ _).length
    rw [List.length_set]; omega
  · intro j hj
    show (S.us.set _ _).getD j 0 = _
    rw [getD_set _ _ _ _ _ hl, if_neg (by have : j < l := hj; omega)]
    exact hfull j hj
theorem placeOf_take {S : St} (h : Tab S) {l v : Nat} (hl : l < S.us.length) (hfull : ∀ j, j < l → S.us.getD j 0 = 18446744073709551615) (hfree : S.us.getD l 0 < 18446744073709551615) (z : Int) : PlaceOf (takeH S l v) z = if z = ((nextH S l + 1 : Nat) : Int) then some v else PlaceOf S z := by
  obtain ⟨n1, n2, n3, n4, n5⟩ := nextH_spec h hl hfull hfree
  by_cases hz : z < 1 ∨ (S.pl.length : Int) < z
  · rw [placeOf_out S z hz, placeOf_out (takeH S l v) z (by simpa [takeH] using hz), if_neg (by omega)]
  · obtain ⟨j, rfl⟩ : ∃ j : Nat, z = ((j + 1 : Nat) : Int) := ⟨z.toNat - 1, by omega⟩
    rw [placeOf_nat, placeOf_nat]
    have hb : bitOn (takeH S l v).us (j + 1) = if j = nextH S l then true else bitOn S.us (j + 1) := by
      rw [bitOn_test', bitOn_test', Nat.add_sub_cancel]
      show ((S.us.set _ _).getD (j / 64) 0).testBit _ = _
      rw [getD_set _ _ _ _ _ hl]
      by_cases e1 : j / 64 = l
      · rw [if_pos e1, or_bit, ← n5]
        by_cases e2 : j = nextH S l
        · rw [if_pos e2, e2]; simp
        · rw [if_neg e2, e1]
          have : ¬ (nextH S l % 64 = j % 64) := by omega
          simp [this]
      · rw [if_neg e1, if_neg (by intro e; exact e1 (by rw [e, n4]))]
    have hpl : (takeH S l v).pl.length = S.pl.length := by simp [takeH]
    have hpg : (takeH S l v).pl.getD j 0 = if j = nextH S l then v else S.pl.getD j 0 := by
      show (S.pl.set (nextH S l) v).getD j 0 = _
      exact getD_set _ _ _ _ _ n1
    rw [hb, hpl, hpg]
    by_cases e : j = nextH S l
    · subst e
      rw [if_pos ⟨n1, by simp⟩]; simp
    · rw [if_neg e, if_neg e, if_neg (show ¬ (((j + 1 : Nat) : Int) = ((nextH S l + 1 : Nat) : Int)) by omega)]
end Ar
end Go.Proofs.YtkndbldjablhoaaDoor
