/- Whether a record may be: Check, and the document's own CheckRR. -/
import Derived.Test.YtnnoooecbbkggaaDoorRParts
import Derived.Test.YtnnoooecbbkggaaDoorType
namespace Go.Proofs.YtnnoooecbbkggaaDoor
open Go.RowKit Go.Shelf
attribute [local go_sem] Oper.semAt_some

namespace Rd
theorem check_cases (r : RR) : (valid' : Bool) → (data' : Bool) → Nm.valid r.name = valid' → dataOk r.typ r.data = data' →
    (valid' = false ∧ check r = false) ∨ (valid' = true ∧ r.typ < 1 ∧ check r = false) ∨ (valid' = true ∧ 1 ≤ r.typ ∧ 65535 < r.typ ∧ check r = false) ∨ (valid' = true ∧ 1 ≤ r.typ ∧ r.typ ≤ 65535 ∧ r.typ = 41 ∧ check r = false) ∨
    (valid' = true ∧ 1 ≤ r.typ ∧ r.typ ≤ 65535 ∧ r.typ ≠ 41 ∧ r.cls < 0 ∧ check r = false) ∨ (valid' = true ∧ 1 ≤ r.typ ∧ r.typ ≤ 65535 ∧ r.typ ≠ 41 ∧ 0 ≤ r.cls ∧ 65535 < r.cls ∧ check r = false) ∨
    (valid' = true ∧ 1 ≤ r.typ ∧ r.typ ≤ 65535 ∧ r.typ ≠ 41 ∧ 0 ≤ r.cls ∧ r.cls ≤ 65535 ∧ r.ttl < 0 ∧ check r = false) ∨ (valid' = true ∧ 1 ≤ r.typ ∧ r.typ ≤ 65535 ∧ r.typ ≠ 41 ∧ 0 ≤ r.cls ∧ r.cls ≤ 65535 ∧ 0 ≤ r.ttl ∧ 2147483647 < r.ttl ∧ check r = false) ∨
    (valid' = true ∧ 1 ≤ r.typ ∧ r.typ ≤ 65535 ∧ r.typ ≠ 41 ∧ 0 ≤ r.cls ∧ r.cls ≤ 65535 ∧ 0 ≤ r.ttl ∧ r.ttl ≤ 2147483647 ∧ check r = data') := by
  intro v d hv hd
  unfold check
  rw [hv, hd]
  cases v
  · exact .inl ⟨rfl, rfl⟩
  · by_cases h : 1 ≤ r.typ ∧ r.typ ≤ 65535 ∧ r.typ ≠ 41 ∧ 0 ≤ r.cls ∧ r.cls ≤ 65535 ∧ 0 ≤ r.ttl ∧ r.ttl ≤ 2147483647
    · obtain ⟨h1, h2, h3, h4, h5, h6, h7⟩ := h
      simp [h1, h2, h3, h4, h5, h6, h7]
    · have e : decide (1 ≤ r.typ ∧ r.typ ≤ 65535 ∧ r.typ ≠ 41 ∧ 0 ≤ r.cls ∧ r.cls ≤ 65535 ∧ 0 ≤ r.ttl ∧ r.ttl ≤ 2147483647) = false := by rw [decide_eq_false_iff_not]; exact h
      rw [e]
      simp only [Bool.and_false, Bool.false_and, true_and, and_true]
      omega
end Rd

set_option maxRecDepth 100000 in
set_option maxHeartbeats 4000000 in
theorem check_any (r : Rd.RR) (w : World) (hn : r.name.length ≤ 100000) (hd : r.data.length ≤ 100000) :
    Calls Tryd.prog 13 #[rrV r] w fun e w' => e = .returned (.bool (Rd.check r)) ∧ Below w.heap.size w w' := by
  obtain ⟨x, hx⟩ : ∃ x, Nm.valid r.name = x := ⟨_, rfl⟩
  obtain ⟨y, hy⟩ : ∃ y, Rd.dataOk r.typ r.data = y := ⟨_, rfl⟩
  have hcase := Rd.check_cases r x y hx hy
  obtain ⟨n, t, c, l, d⟩ := r
  simp only at *
  have HX := Lib.hid hx
  have HY := Lib.hid hy
  clear hx hy
  obtain ⟨R, hR⟩ : ∃ R, Rd.check ⟨n, t, c, l, d⟩ = R := ⟨_, rfl⟩
  rw [hR] at hcase ⊢
  clear hR
  unfold rrV
  rcases hcase with ⟨rfl, rfl⟩ | ⟨rfl, h1, rfl⟩ | ⟨rfl, h1, h2, rfl⟩ | ⟨rfl, h1, h2, rfl, rfl⟩ | ⟨rfl, h1, h2, h3, h4, rfl⟩ | ⟨rfl, h1, h2, h3, h4, h5, rfl⟩ | ⟨rfl, h1, h2, h3, h4, h5, h6, rfl⟩ | ⟨rfl, h1, h2, h3, h4, h5, h6, h7, rfl⟩ | ⟨rfl, h1, h2, h3, h4, h5, h6, h7, rfl⟩
  · go_enter Tryd.func13, Tryd.ntmps13
    go_wp2_with (first
      | (go_at_call 43; refine (valid_any n _ hn).mono ?_; rw [HX.out]; rintro e w' ⟨rfl, rfl⟩)
      | (go_at_call 12; refine (data_any _ d _ hd).mono ?_; rw [HY.out]; rintro e w' ⟨rfl, b1⟩))
    go_ret
    exact ⟨rfl, (Below.refl _ w).alloc (Nat.le_refl _) _⟩
  · have g1 : decide (1 ≤ t) = false := by rw [decide_eq_false_iff_not]; omega
    go_enter Tryd.func13, Tryd.ntmps13
    go_wp2_with (first
      | (go_at_call 43; refine (valid_any n _ hn).mono ?_; rw [HX.out]; rintro e w' ⟨rfl, rfl⟩)
      | (go_at_call 12; refine (data_any _ d _ hd).mono ?_; rw [HY.out]; rintro e w' ⟨rfl, b1⟩))
    go_ret
    exact ⟨rfl, (Below.refl _ w).alloc (Nat.le_refl _) _⟩
  · have g1 : decide (t ≤ 65535) = false := by rw [decide_eq_false_iff_not]; omega
    go_enter Tryd.func13, Tryd.ntmps13
    go_wp2_with (first
      | (go_at_call 43; refine (valid_any n _ hn).mono ?_; rw [HX.out]; rintro e w' ⟨rfl, rfl⟩)
      | (go_at_call 12; refine (data_any _ d _ hd).mono ?_; rw [HY.out]; rintro e w' ⟨rfl, b1⟩))
    go_ret
    exact ⟨rfl, (Below.refl _ w).alloc (Nat.le_refl _) _⟩
  · go_enter Tryd.func13, Tryd.ntmps13
    go_wp2_with (first
      | (go_at_call 43; refine (valid_any n _ hn).mono ?_; rw [HX.out]; rintro e w' ⟨rfl, rfl⟩)
      | (go_at_call 12; refine (data_any _ d _ hd).mono ?_; rw [HY.out]; rintro e w' ⟨rfl, b1⟩))
    go_ret
    exact ⟨rfl, (Below.refl _ w).alloc (Nat.le_refl _) _⟩
  · have t41 : ((t : Int) != 41) = true := by rw [bne_iff_ne]; exact h3
    clear h3
    have g1 : decide (0 ≤ c) = false := by rw [decide_eq_false_iff_not]; omega
    go_enter Tryd.func13, Tryd.ntmps13
    go_wp2_with (first
      | (go_at_call 43; refine (valid_any n _ hn).mono ?_; rw [HX.out]; rintro e w' ⟨rfl, rfl⟩)
      | (go_at_call 12; refine (data_any _ d _ hd).mono ?_; rw [HY.out]; rintro e w' ⟨rfl, b1⟩))
    go_ret
    exact ⟨rfl, (Below.refl _ w).alloc (Nat.le_refl _) _⟩
  · have t41 : ((t : Int) != 41) = true := by rw [bne_iff_ne]; exact h3
    clear h3
    have g1 : decide (c ≤ 65535) = false := by rw [decide_eq_false_iff_not]; omega
    go_enter Tryd.func13, Tryd.ntmps13
    go_wp2_with (first
      | (go_at_call 43; refine (valid_any n _ hn).mono ?_; rw [HX.out]; rintro e w' ⟨rfl, rfl⟩)
      | (go_at_call 12; refine (data_any _ d _ hd).mono ?_; rw [HY.out]; rintro e w' ⟨rfl, b1⟩))
    go_ret
    exact ⟨rfl, (Below.refl _ w).alloc (Nat.le_refl _) _⟩
  · have t41 : ((t : Int) != 41) = true := by rw [bne_iff_ne]; exact h3
    clear h3
    have g1 : decide (0 ≤ l) = false := by rw [decide_eq_false_iff_not]; omega
    go_enter Tryd.func13, Tryd.ntmps13
    go_wp2_with (first
      | (go_at_call 43; refine (valid_any n _ hn).mono ?_; rw [HX.out]; rintro e w' ⟨rfl, rfl⟩)
      | (go_at_call 12; refine (data_any _ d _ hd).mono ?_; rw [HY.out]; rintro e w' ⟨rfl, b1⟩))
    go_ret
    exact ⟨rfl, (Below.refl _ w).alloc (Nat.le_refl _) _⟩
  · have t41 : ((t : Int) != 41) = true := by rw [bne_iff_ne]; exact h3
    clear h3
    have g1 : decide (l ≤ 2147483647) = false := by rw [decide_eq_false_iff_not]; omega
    go_enter Tryd.func13, Tryd.ntmps13
    go_wp2_with (first
      | (go_at_call 43; refine (valid_any n _ hn).mono ?_; rw [HX.out]; rintro e w' ⟨rfl, rfl⟩)
      | (go_at_call 12; refine (data_any _ d _ hd).mono ?_; rw [HY.out]; rintro e w' ⟨rfl, b1⟩))
    go_ret
    exact ⟨rfl, (Below.refl _ w).alloc (Nat.le_refl _) _⟩
  · have t41 : ((t : Int) != 41) = true := by rw [bne_iff_ne]; exact h3
    clear h3
    go_enter Tryd.func13, Tryd.ntmps13
    go_wp2_with (first
      | (go_at_call 43; refine (valid_any n _ hn).mono ?_; rw [HX.out]; rintro e w' ⟨rfl, rfl⟩)
      | (go_at_call 12; refine (data_any _ d _ hd).mono ?_; rw [HY.out]; rintro e w' ⟨rfl, b1⟩))
    go_ret
    exact ⟨rfl, ((Below.refl _ w).alloc (Nat.le_refl _) _).trans (b1.mono (by simp))⟩

set_option maxRecDepth 100000 in
set_option maxHeartbeats 4000000 in
theorem rcheck_any (r : Rd.RR) (w : World) (hn : r.name.length ≤ 100000) (hd : r.data.length ≤ 100000) :
    Calls Tryd.prog 14 #[rrV r] w fun e w' => e = .returned (.bool (Rd.check r)) ∧ Below w.heap.size w w' := by
  obtain ⟨x, hx⟩ : ∃ x, Nm.valid r.name = x := ⟨_, rfl⟩
  obtain ⟨y, hy⟩ : ∃ y, Rd.dataOk r.typ r.data = y := ⟨_, rfl⟩
  have hcase := Rd.check_cases r x y hx hy
  have hno : y = false → Rd.check r = false := fun e => by
    unfold Rd.check
    rw [hy, e, Bool.and_false]
  obtain ⟨n, t, c, l, d⟩ := r
  simp only at *
  have HX := Lib.hid hx
  have HY := Lib.hid hy
  clear hx hy
  obtain ⟨R, hR⟩ : ∃ R, Rd.check ⟨n, t, c, l, d⟩ = R := ⟨_, rfl⟩
  rw [hR] at hcase hno ⊢
  clear hR
  unfold rrV
  cases y
  · obtain rfl := hno rfl
    clear hno hcase
    go_enter Tryd.func14, Tryd.ntmps14
    go_wp2_with (go_at_call 10; refine (rparts_any _ d _ hd).mono ?_; rintro e w' ⟨v, rfl, _, b1⟩; rw [HY.out])
    go_ret
    exact ⟨rfl, ((Below.refl _ w).alloc (Nat.le_refl _) _).trans (b1.mono (by simp))⟩
  clear hno
  rcases hcase with ⟨rfl, rfl⟩ | ⟨rfl, h1, rfl⟩ | ⟨rfl, h1, h2, rfl⟩ | ⟨rfl, h1, h2, rfl, rfl⟩ | ⟨rfl, h1, h2, h3, h4, rfl⟩ | ⟨rfl, h1, h2, h3, h4, h5, rfl⟩ | ⟨rfl, h1, h2, h3, h4, h5, h6, rfl⟩ | ⟨rfl, h1, h2, h3, h4, h5, h6, h7, rfl⟩ | ⟨rfl, h1, h2, h3, h4, h5, h6, h7, rfl⟩
  · go_enter Tryd.func14, Tryd.ntmps14
    go_wp2_with (first
      | (go_at_call 10; refine (rparts_any _ d _ hd).mono ?_; rintro e w1 ⟨v, rfl, _, b1⟩; rw [HY.out]; obtain ⟨hc, hf⟩ := bcell b1; have hz : w.heap.size < w1.heap.size := Nat.lt_of_lt_of_le (by simp) b1.size; replace b1 := ((Below.refl _ w).alloc (Nat.le_refl _) _).trans (b1.mono (by simp)))
      | (go_at_call 35; refine (rvalid_any n _ hn).mono ?_; rw [HX.out]; rintro e w2 ⟨rfl, b2⟩; obtain ⟨hc2, hf2⟩ := bcell b2))
    go_ret
    exact ⟨rfl, below_trans b1 b2⟩
  · have g1 : decide (1 ≤ t) = false := by rw [decide_eq_false_iff_not]; omega
    go_enter Tryd.func14, Tryd.ntmps14
    go_wp2_with (first
      | (go_at_call 10; refine (rparts_any _ d _ hd).mono ?_; rintro e w1 ⟨v, rfl, _, b1⟩; rw [HY.out]; obtain ⟨hc, hf⟩ := bcell b1; have hz : w.heap.size < w1.heap.size := Nat.lt_of_lt_of_le (by simp) b1.size; replace b1 := ((Below.refl _ w).alloc (Nat.le_refl _) _).trans (b1.mono (by simp)))
      | (go_at_call 35; refine (rvalid_any n _ hn).mono ?_; rw [HX.out]; rintro e w2 ⟨rfl, b2⟩; obtain ⟨hc2, hf2⟩ := bcell b2))
    go_ret
    exact ⟨rfl, below_trans b1 b2⟩
  · have g1 : decide (t ≤ 65535) = false := by rw [decide_eq_false_iff_not]; omega
    go_enter Tryd.func14, Tryd.ntmps14
    go_wp2_with (first
      | (go_at_call 10; refine (rparts_any _ d _ hd).mono ?_; rintro e w1 ⟨v, rfl, _, b1⟩; rw [HY.out]; obtain ⟨hc, hf⟩ := bcell b1; have hz : w.heap.size < w1.heap.size := Nat.lt_of_lt_of_le (by simp) b1.size; replace b1 := ((Below.refl _ w).alloc (Nat.le_refl _) _).trans (b1.mono (by simp)))
      | (go_at_call 35; refine (rvalid_any n _ hn).mono ?_; rw [HX.out]; rintro e w2 ⟨rfl, b2⟩; obtain ⟨hc2, hf2⟩ := bcell b2))
    go_ret
    exact ⟨rfl, below_trans b1 b2⟩
  · go_enter Tryd.func14, Tryd.ntmps14
    go_wp2_with (first
      | (go_at_call 10; refine (rparts_any _ d _ hd).mono ?_; rintro e w1 ⟨v, rfl, _, b1⟩; rw [HY.out]; obtain ⟨hc, hf⟩ := bcell b1; have hz : w.heap.size < w1.heap.size := Nat.lt_of_lt_of_le (by simp) b1.size; replace b1 := ((Below.refl _ w).alloc (Nat.le_refl _) _).trans (b1.mono (by simp)))
      | (go_at_call 35; refine (rvalid_any n _ hn).mono ?_; rw [HX.out]; rintro e w2 ⟨rfl, b2⟩; obtain ⟨hc2, hf2⟩ := bcell b2))
    go_ret
    exact ⟨rfl, below_trans b1 b2⟩
  · have t41 : ((t : Int) != 41) = true := by rw [bne_iff_ne]; exact h3
    clear h3
    have g1 : decide (0 ≤ c) = false := by rw [decide_eq_false_iff_not]; omega
    go_enter Tryd.func14, Tryd.ntmps14
    go_wp2_with (first
      | (go_at_call 10; refine (rparts_any _ d _ hd).mono ?_; rintro e w1 ⟨v, rfl, _, b1⟩; rw [HY.out]; obtain ⟨hc, hf⟩ := bcell b1; have hz : w.heap.size < w1.heap.size := Nat.lt_of_lt_of_le (by simp) b1.size; replace b1 := ((Below.refl _ w).alloc (Nat.le_refl _) _).trans (b1.mono (by simp)))
      | (go_at_call 35; refine (rvalid_any n _ hn).mono ?_; rw [HX.out]; rintro e w2 ⟨rfl, b2⟩; obtain ⟨hc2, hf2⟩ := bcell b2))
    go_ret
    exact ⟨rfl, below_trans b1 b2⟩
  · have t41 : ((t : Int) != 41) = true := by rw [bne_iff_ne]; exact h3
    clear h3
    have g1 : decide (c ≤ 65535) = false := by rw [decide_eq_false_iff_not]; omega
    go_enter Tryd.func14, Tryd.ntmps14
    go_wp2_with (first
      | (go_at_call 10; refine (rparts_any _ d _ hd).mono ?_; rintro e w1 ⟨v, rfl, _, b1⟩; rw [HY.out]; obtain ⟨hc, hf⟩ := bcell b1; have hz : w.heap.size < w1.heap.size := Nat.lt_of_lt_of_le (by simp) b1.size; replace b1 := ((Below.refl _ w).alloc (Nat.le_refl _) _).trans (b1.mono (by simp)))
      | (go_at_call 35; refine (rvalid_any n _ hn).mono ?_; rw [HX.out]; rintro e w2 ⟨rfl, b2⟩; obtain ⟨hc2, hf2⟩ := bcell b2))
    go_ret
    exact ⟨rfl, below_trans b1 b2⟩
  · have t41 : ((t : Int) != 41) = true := by rw [bne_iff_ne]; exact h3
    clear h3
    have g1 : decide (0 ≤ l) = false := by rw [decide_eq_false_iff_not]; omega
    go_enter Tryd.func14, Tryd.ntmps14
    go_wp2_with (first
      | (go_at_call 10; refine (rparts_any _ d _ hd).mono ?_; rintro e w1 ⟨v, rfl, _, b1⟩; rw [HY.out]; obtain ⟨hc, hf⟩ := bcell b1; have hz : w.heap.size < w1.heap.size := Nat.lt_of_lt_of_le (by simp) b1.size; replace b1 := ((Below.refl _ w).alloc (Nat.le_refl _) _).trans (b1.mono (by simp)))
      | (go_at_call 35; refine (rvalid_any n _ hn).mono ?_; rw [HX.out]; rintro e w2 ⟨rfl, b2⟩; obtain ⟨hc2, hf2⟩ := bcell b2))
    go_ret
    exact ⟨rfl, below_trans b1 b2⟩
  · have t41 : ((t : Int) != 41) = true := by rw [bne_iff_ne]; exact h3
    clear h3
    have g1 : decide (l < 2147483648) = false := by rw [decide_eq_false_iff_not]; omega
    go_enter Tryd.func14, Tryd.ntmps14
    go_wp2_with (first
      | (go_at_call 10; refine (rparts_any _ d _ hd).mono ?_; rintro e w1 ⟨v, rfl, _, b1⟩; rw [HY.out]; obtain ⟨hc, hf⟩ := bcell b1; have hz : w.heap.size < w1.heap.size := Nat.lt_of_lt_of_le (by simp) b1.size; replace b1 := ((Below.refl _ w).alloc (Nat.le_refl _) _).trans (b1.mono (by simp)))
      | (go_at_call 35; refine (rvalid_any n _ hn).mono ?_; rw [HX.out]; rintro e w2 ⟨rfl, b2⟩; obtain ⟨hc2, hf2⟩ := bcell b2))
    go_ret
    exact ⟨rfl, below_trans b1 b2⟩
  · have t41 : ((t : Int) != 41) = true := by rw [bne_iff_ne]; exact h3
    clear h3
    have g9 : l < 2147483648 := by omega
    go_enter Tryd.func14, Tryd.ntmps14
    go_wp2_with (first
      | (go_at_call 10; refine (rparts_any _ d _ hd).mono ?_; rintro e w1 ⟨v, rfl, _, b1⟩; rw [HY.out]; obtain ⟨hc, hf⟩ := bcell b1; have hz : w.heap.size < w1.heap.size := Nat.lt_of_lt_of_le (by simp) b1.size; replace b1 := ((Below.refl _ w).alloc (Nat.le_refl _) _).trans (b1.mono (by simp)))
      | (go_at_call 35; refine (rvalid_any n _ hn).mono ?_; rw [HX.out]; rintro e w2 ⟨rfl, b2⟩; obtain ⟨hc2, hf2⟩ := bcell b2))
    go_ret
    exact ⟨rfl, below_trans b1 b2⟩
end Go.Proofs.YtnnoooecbbkggaaDoor
