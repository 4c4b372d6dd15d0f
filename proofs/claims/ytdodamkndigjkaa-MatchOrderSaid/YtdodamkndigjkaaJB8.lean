/- 3 texts put together: Check, SeqB, Places. -/
import Derived.RangeFuncNested
import Derived.RangeFuncBound
import Derived.RangeFuncLeaves
import Derived.RangeFuncFrom
import Derived.RangeFuncWrites
import Derived.RangeFuncCalls
import Derived.Shelf.Abstract
import Derived.Shelf.RegionOpen
import Derived.OwnWalkIn
import Derived.TacticsInMore
import Derived.LoopNIn
import Derived.LoopIn
import Derived.Test.YtdodamkndigjkaaJB1
import Derived.Test.YtdodamkndigjkaaJB4
import Derived.Test.YtdodamkndigjkaaJB7
/- Whether a record may be: Check, and the document's own CheckRR. -/
namespace Go.Proofs.Ytdodamkndigjkaa
open Go.RowKit Go.Shelf
attribute [local go_sem] Oper.semAt_some

namespace Rd
theorem check_cases (r : RR) : (valid' : Bool) → (data' : Bool) → Nm.valid r.name = valid' → dataOk r.typ r.data = data' →
    (valid' = false ∧ check r = false) ∨ (valid' = true ∧ r.typ < 1 ∧ check r = false) ∨ (valid' = true ∧ 1 ≤ r.typ ∧ 65535 < r.typ ∧ check r = false) ∨ (valid' = true ∧ 1 ≤ r.typ ∧ r.typ ≤ 65535 ∧ r.typ = 41 ∧ check r = false) ∨
    (valid' = true ∧ 1 ≤ r.typ ∧ r.typ ≤ 65535 ∧ r.typ ≠ 41 ∧ r.cls < 0 ∧ check r = false) ∨ (valid' = true ∧ 1 ≤ r.typ ∧ r.typ ≤ 65535 ∧ r.typ ≠ 41 ∧ 0 ≤ r.cls ∧ 65535 < r.cls ∧ check r = false) ∨
    (valid' = true ∧ 1 ≤ r.typ ∧ r.typ ≤ 65535 ∧ r.typ ≠ 41 ∧ 0 ≤ r.cls ∧ r.cls ≤ 65535 ∧ r.ttl < 0 ∧ check r = false) ∨ (valid' = true ∧ 1 ≤ r.typ ∧ r.typ ≤ 65535 ∧ r.typ ≠ 41 ∧ 0 ≤ r.cls ∧ r.cls ≤ 65535 ∧ 0 ≤ r.ttl ∧ 2147483647 < r.ttl ∧ check r = false) ∨
    (valid' = true ∧ 1 ≤ r.typ ∧ r.typ ≤ 65535 ∧ r.typ ≠ 41 ∧ 0 ≤ r.cls ∧ r.cls ≤ 65535 ∧ 0 ≤ r.ttl ∧ r.ttl ≤ 2147483647 ∧ check r = data') := by
  intro v d hv hd
  unfold check
  rw [hv, hd]
  cases v
  · exact .inl ⟨rfl, rfl⟩
  · by_cases h : 1 ≤ r.typ ∧ r.typ ≤ 65535 ∧ r.typ ≠ 41 ∧ 0 ≤ r.cls ∧ r.cls ≤ 65535 ∧ 0 ≤ r.ttl ∧ r.ttl ≤ 2147483647
    · obtain ⟨h1, h2, h3, h4, h5, h6, h7⟩ := h
      simp [h1, h2, h3, h4, h5, h6, h7]
    · have e : decide (1 ≤ r.typ ∧ r.typ ≤ 65535 ∧ r.typ ≠ 41 ∧ 0 ≤ r.cls ∧ r.cls ≤ 65535 ∧ 0 ≤ r.ttl ∧ r.ttl ≤ 2147483647) = false := by rw [decide_eq_false_iff_not]; exact h
      rw [e]
      simp only [Bool.and_false, Bool.false_and, true_and, and_true]
      omega
end Rd

set_option maxRecDepth 100000 in
set_option maxHeartbeats 4000000 in
theorem check_any (r : Rd.RR) (w : World) (hn : r.name.length ≤ 100000) (hd : r.data.length ≤ 100000) :
    Calls Try.prog 56 #[rrV r] w fun e w' => e = .returned (.bool (Rd.check r)) ∧ Below w.heap.size w w' := by
  obtain ⟨x, hx⟩ : ∃ x, Nm.valid r.name = x := ⟨_, rfl⟩
  obtain ⟨y, hy⟩ : ∃ y, Rd.dataOk r.typ r.data = y := ⟨_, rfl⟩
  have hcase := Rd.check_cases r x y hx hy
  obtain ⟨n, t, c, l, d⟩ := r
  simp only at *
  have HX := Lib.hid hx
  have HY := Lib.hid hy
  clear hx hy
  obtain ⟨R, hR⟩ : ∃ R, Rd.check ⟨n, t, c, l, d⟩ = R := ⟨_, rfl⟩
  rw [hR] at hcase ⊢
  clear hR
  unfold rrV
  rcases hcase with ⟨rfl, rfl⟩ | ⟨rfl, h1, rfl⟩ | ⟨rfl, h1, h2, rfl⟩ | ⟨rfl, h1, h2, rfl, rfl⟩ | ⟨rfl, h1, h2, h3, h4, rfl⟩ | ⟨rfl, h1, h2, h3, h4, h5, rfl⟩ | ⟨rfl, h1, h2, h3, h4, h5, h6, rfl⟩ | ⟨rfl, h1, h2, h3, h4, h5, h6, h7, rfl⟩ | ⟨rfl, h1, h2, h3, h4, h5, h6, h7, rfl⟩
  · go_enter Try.func56, Try.ntmps56
    go_wp2_with (first
      | (go_at_call 74; refine (valid_any n _ hn).mono ?_; rw [HX.out]; rintro e w' ⟨rfl, rfl⟩)
      | (go_at_call 83; refine (data_any _ d _ hd).mono ?_; rw [HY.out]; rintro e w' ⟨rfl, b1⟩))
    go_ret
    exact ⟨rfl, (Below.refl _ w).alloc (Nat.le_refl _) _⟩
  · have g1 : decide (1 ≤ t) = false := by rw [decide_eq_false_iff_not]; omega
    go_enter Try.func56, Try.ntmps56
    go_wp2_with (first
      | (go_at_call 74; refine (valid_any n _ hn).mono ?_; rw [HX.out]; rintro e w' ⟨rfl, rfl⟩)
      | (go_at_call 83; refine (data_any _ d _ hd).mono ?_; rw [HY.out]; rintro e w' ⟨rfl, b1⟩))
    go_ret
    exact ⟨rfl, (Below.refl _ w).alloc (Nat.le_refl _) _⟩
  · have g1 : decide (t ≤ 65535) = false := by rw [decide_eq_false_iff_not]; omega
    go_enter Try.func56, Try.ntmps56
    go_wp2_with (first
      | (go_at_call 74; refine (valid_any n _ hn).mono ?_; rw [HX.out]; rintro e w' ⟨rfl, rfl⟩)
      | (go_at_call 83; refine (data_any _ d _ hd).mono ?_; rw [HY.out]; rintro e w' ⟨rfl, b1⟩))
    go_ret
    exact ⟨rfl, (Below.refl _ w).alloc (Nat.le_refl _) _⟩
  · go_enter Try.func56, Try.ntmps56
    go_wp2_with (first
      | (go_at_call 74; refine (valid_any n _ hn).mono ?_; rw [HX.out]; rintro e w' ⟨rfl, rfl⟩)
      | (go_at_call 83; refine (data_any _ d _ hd).mono ?_; rw [HY.out]; rintro e w' ⟨rfl, b1⟩))
    go_ret
    exact ⟨rfl, (Below.refl _ w).alloc (Nat.le_refl _) _⟩
  · have t41 : ((t : Int) != 41) = true := by rw [bne_iff_ne]; exact h3
    clear h3
    have g1 : decide (0 ≤ c) = false := by rw [decide_eq_false_iff_not]; omega
    go_enter Try.func56, Try.ntmps56
    go_wp2_with (first
      | (go_at_call 74; refine (valid_any n _ hn).mono ?_; rw [HX.out]; rintro e w' ⟨rfl, rfl⟩)
      | (go_at_call 83; refine (data_any _ d _ hd).mono ?_; rw [HY.out]; rintro e w' ⟨rfl, b1⟩))
    go_ret
    exact ⟨rfl, (Below.refl _ w).alloc (Nat.le_refl _) _⟩
  · have t41 : ((t : Int) != 41) = true := by rw [bne_iff_ne]; exact h3
    clear h3
    have g1 : decide (c ≤ 65535) = false := by rw [decide_eq_false_iff_not]; omega
    go_enter Try.func56, Try.ntmps56
    go_wp2_with (first
      | (go_at_call 74; refine (valid_any n _ hn).mono ?_; rw [HX.out]; rintro e w' ⟨rfl, rfl⟩)
      | (go_at_call 83; refine (data_any _ d _ hd).mono ?_; rw [HY.out]; rintro e w' ⟨rfl, b1⟩))
    go_ret
    exact ⟨rfl, (Below.refl _ w).alloc (Nat.le_refl _) _⟩
  · have t41 : ((t : Int) != 41) = true := by rw [bne_iff_ne]; exact h3
    clear h3
    have g1 : decide (0 ≤ l) = false := by rw [decide_eq_false_iff_not]; omega
    go_enter Try.func56, Try.ntmps56
    go_wp2_with (first
      | (go_at_call 74; refine (valid_any n _ hn).mono ?_; rw [HX.out]; rintro e w' ⟨rfl, rfl⟩)
      | (go_at_call 83; refine (data_any _ d _ hd).mono ?_; rw [HY.out]; rintro e w' ⟨rfl, b1⟩))
    go_ret
    exact ⟨rfl, (Below.refl _ w).alloc (Nat.le_refl _) _⟩
  · have t41 : ((t : Int) != 41) = true := by rw [bne_iff_ne]; exact h3
    clear h3
    have g1 : decide (l ≤ 2147483647) = false := by rw [decide_eq_false_iff_not]; omega
    go_enter Try.func56, Try.ntmps56
    go_wp2_with (first
      | (go_at_call 74; refine (valid_any n _ hn).mono ?_; rw [HX.out]; rintro e w' ⟨rfl, rfl⟩)
      | (go_at_call 83; refine (data_any _ d _ hd).mono ?_; rw [HY.out]; rintro e w' ⟨rfl, b1⟩))
    go_ret
    exact ⟨rfl, (Below.refl _ w).alloc (Nat.le_refl _) _⟩
  · have t41 : ((t : Int) != 41) = true := by rw [bne_iff_ne]; exact h3
    clear h3
    go_enter Try.func56, Try.ntmps56
    go_wp2_with (first
      | (go_at_call 74; refine (valid_any n _ hn).mono ?_; rw [HX.out]; rintro e w' ⟨rfl, rfl⟩)
      | (go_at_call 83; refine (data_any _ d _ hd).mono ?_; rw [HY.out]; rintro e w' ⟨rfl, b1⟩))
    go_ret
    exact ⟨rfl, ((Below.refl _ w).alloc (Nat.le_refl _) _).trans (b1.mono (by simp))⟩

set_option maxRecDepth 100000 in
set_option maxHeartbeats 4000000 in
theorem rcheck_any (r : Rd.RR) (w : World) (hn : r.name.length ≤ 100000) (hd : r.data.length ≤ 100000) :
    Calls Try.prog 35 #[rrV r] w fun e w' => e = .returned (.bool (Rd.check r)) ∧ Below w.heap.size w w' := by
  obtain ⟨x, hx⟩ : ∃ x, Nm.valid r.name = x := ⟨_, rfl⟩
  obtain ⟨y, hy⟩ : ∃ y, Rd.dataOk r.typ r.data = y := ⟨_, rfl⟩
  have hcase := Rd.check_cases r x y hx hy
  have hno : y = false → Rd.check r = false := fun e => by
    unfold Rd.check
    rw [hy, e, Bool.and_false]
  obtain ⟨n, t, c, l, d⟩ := r
  simp only at *
  have HX := Lib.hid hx
  have HY := Lib.hid hy
  clear hx hy
  obtain ⟨R, hR⟩ : ∃ R, Rd.check ⟨n, t, c, l, d⟩ = R := ⟨_, rfl⟩
  rw [hR] at hcase hno ⊢
  clear hR
  unfold rrV
  cases y
  · obtain rfl := hno rfl
    clear hno hcase
    go_enter Try.func35, Try.ntmps35
    go_wp2_with (go_at_call 64; refine (rparts_any _ d _ hd).mono ?_; rintro e w' ⟨v, rfl, _, b1⟩; rw [HY.out])
    go_ret
    exact ⟨rfl, ((Below.refl _ w).alloc (Nat.le_refl _) _).trans (b1.mono (by simp))⟩
  clear hno
  rcases hcase with ⟨rfl, rfl⟩ | ⟨rfl, h1, rfl⟩ | ⟨rfl, h1, h2, rfl⟩ | ⟨rfl, h1, h2, rfl, rfl⟩ | ⟨rfl, h1, h2, h3, h4, rfl⟩ | ⟨rfl, h1, h2, h3, h4, h5, rfl⟩ | ⟨rfl, h1, h2, h3, h4, h5, h6, rfl⟩ | ⟨rfl, h1, h2, h3, h4, h5, h6, h7, rfl⟩ | ⟨rfl, h1, h2, h3, h4, h5, h6, h7, rfl⟩
  · go_enter Try.func35, Try.ntmps35
    go_wp2_with (first
      | (go_at_call 64; refine (rparts_any _ d _ hd).mono ?_; rintro e w1 ⟨v, rfl, _, b1⟩; rw [HY.out]; obtain ⟨hc, hf⟩ := bcell b1; have hz : w.heap.size < w1.heap.size := Nat.lt_of_lt_of_le (by simp) b1.size; replace b1 := ((Below.refl _ w).alloc (Nat.le_refl _) _).trans (b1.mono (by simp)))
      | (go_at_call 65; refine (rvalid_any n _ hn).mono ?_; rw [HX.out]; rintro e w2 ⟨rfl, b2⟩; obtain ⟨hc2, hf2⟩ := bcell b2))
    go_ret
    exact ⟨rfl, below_trans b1 b2⟩
  · have g1 : decide (1 ≤ t) = false := by rw [decide_eq_false_iff_not]; omega
    go_enter Try.func35, Try.ntmps35
    go_wp2_with (first
      | (go_at_call 64; refine (rparts_any _ d _ hd).mono ?_; rintro e w1 ⟨v, rfl, _, b1⟩; rw [HY.out]; obtain ⟨hc, hf⟩ := bcell b1; have hz : w.heap.size < w1.heap.size := Nat.lt_of_lt_of_le (by simp) b1.size; replace b1 := ((Below.refl _ w).alloc (Nat.le_refl _) _).trans (b1.mono (by simp)))
      | (go_at_call 65; refine (rvalid_any n _ hn).mono ?_; rw [HX.out]; rintro e w2 ⟨rfl, b2⟩; obtain ⟨hc2, hf2⟩ := bcell b2))
    go_ret
    exact ⟨rfl, below_trans b1 b2⟩
  · have g1 : decide (t ≤ 65535) = false := by rw [decide_eq_false_iff_not]; omega
    go_enter Try.func35, Try.ntmps35
    go_wp2_with (first
      | (go_at_call 64; refine (rparts_any _ d _ hd).mono ?_; rintro e w1 ⟨v, rfl, _, b1⟩; rw [HY.out]; obtain ⟨hc, hf⟩ := bcell b1; have hz : w.heap.size < w1.heap.size := Nat.lt_of_lt_of_le (by simp) b1.size; replace b1 := ((Below.refl _ w).alloc (Nat.le_refl _) _).trans (b1.mono (by simp)))
      | (go_at_call 65; refine (rvalid_any n _ hn).mono ?_; rw [HX.out]; rintro e w2 ⟨rfl, b2⟩; obtain ⟨hc2, hf2⟩ := bcell b2))
    go_ret
    exact ⟨rfl, below_trans b1 b2⟩
  · go_enter Try.func35, Try.ntmps35
    go_wp2_with (first
      | (go_at_call 64; refine (rparts_any _ d _ hd).mono ?_; rintro e w1 ⟨v, rfl, _, b1⟩; rw [HY.out]; obtain ⟨hc, hf⟩ := bcell b1; have hz : w.heap.size < w1.heap.size := Nat.lt_of_lt_of_le (by simp) b1.size; replace b1 := ((Below.refl _ w).alloc (Nat.le_refl _) _).trans (b1.mono (by simp)))
      | (go_at_call 65; refine (rvalid_any n _ hn).mono ?_; rw [HX.out]; rintro e w2 ⟨rfl, b2⟩; obtain ⟨hc2, hf2⟩ := bcell b2))
    go_ret
    exact ⟨rfl, below_trans b1 b2⟩
  · have t41 : ((t : Int) != 41) = true := by rw [bne_iff_ne]; exact h3
    clear h3
    have g1 : decide (0 ≤ c) = false := by rw [decide_eq_false_iff_not]; omega
    go_enter Try.func35, Try.ntmps35
    go_wp2_with (first
      | (go_at_call 64; refine (rparts_any _ d _ hd).mono ?_; rintro e w1 ⟨v, rfl, _, b1⟩; rw [HY.out]; obtain ⟨hc, hf⟩ := bcell b1; have hz : w.heap.size < w1.heap.size := Nat.lt_of_lt_of_le (by simp) b1.size; replace b1 := ((Below.refl _ w).alloc (Nat.le_refl _) _).trans (b1.mono (by simp)))
      | (go_at_call 65; refine (rvalid_any n _ hn).mono ?_; rw [HX.out]; rintro e w2 ⟨rfl, b2⟩; obtain ⟨hc2, hf2⟩ := bcell b2))
    go_ret
    exact ⟨rfl, below_trans b1 b2⟩
  · have t41 : ((t : Int) != 41) = true := by rw [bne_iff_ne]; exact h3
    clear h3
    have g1 : decide (c ≤ 65535) = false := by rw [decide_eq_false_iff_not]; omega
    go_enter Try.func35, Try.ntmps35
    go_wp2_with (first
      | (go_at_call 64; refine (rparts_any _ d _ hd).mono ?_; rintro e w1 ⟨v, rfl, _, b1⟩; rw [HY.out]; obtain ⟨hc, hf⟩ := bcell b1; have hz : w.heap.size < w1.heap.size := Nat.lt_of_lt_of_le (by simp) b1.size; replace b1 := ((Below.refl _ w).alloc (Nat.le_refl _) _).trans (b1.mono (by simp)))
      | (go_at_call 65; refine (rvalid_any n _ hn).mono ?_; rw [HX.out]; rintro e w2 ⟨rfl, b2⟩; obtain ⟨hc2, hf2⟩ := bcell b2))
    go_ret
    exact ⟨rfl, below_trans b1 b2⟩
  · have t41 : ((t : Int) != 41) = true := by rw [bne_iff_ne]; exact h3
    clear h3
    have g1 : decide (0 ≤ l) = false := by rw [decide_eq_false_iff_not]; omega
    go_enter Try.func35, Try.ntmps35
    go_wp2_with (first
      | (go_at_call 64; refine (rparts_any _ d _ hd).mono ?_; rintro e w1 ⟨v, rfl, _, b1⟩; rw [HY.out]; obtain ⟨hc, hf⟩ := bcell b1; have hz : w.heap.size < w1.heap.size := Nat.lt_of_lt_of_le (by simp) b1.size; replace b1 := ((Below.refl _ w).alloc (Nat.le_refl _) _).trans (b1.mono (by simp)))
      | (go_at_call 65; refine (rvalid_any n _ hn).mono ?_; rw [HX.out]; rintro e w2 ⟨rfl, b2⟩; obtain ⟨hc2, hf2⟩ := bcell b2))
    go_ret
    exact ⟨rfl, below_trans b1 b2⟩
  · have t41 : ((t : Int) != 41) = true := by rw [bne_iff_ne]; exact h3
    clear h3
    have g1 : decide (l < 2147483648) = false := by rw [decide_eq_false_iff_not]; omega
    go_enter Try.func35, Try.ntmps35
    go_wp2_with (first
      | (go_at_call 64; refine (rparts_any _ d _ hd).mono ?_; rintro e w1 ⟨v, rfl, _, b1⟩; rw [HY.out]; obtain ⟨hc, hf⟩ := bcell b1; have hz : w.heap.size < w1.heap.size := Nat.lt_of_lt_of_le (by simp) b1.size; replace b1 := ((Below.refl _ w).alloc (Nat.le_refl _) _).trans (b1.mono (by simp)))
      | (go_at_call 65; refine (rvalid_any n _ hn).mono ?_; rw [HX.out]; rintro e w2 ⟨rfl, b2⟩; obtain ⟨hc2, hf2⟩ := bcell b2))
    go_ret
    exact ⟨rfl, below_trans b1 b2⟩
  · have t41 : ((t : Int) != 41) = true := by rw [bne_iff_ne]; exact h3
    clear h3
    have g9 : l < 2147483648 := by omega
    go_enter Try.func35, Try.ntmps35
    go_wp2_with (first
      | (go_at_call 64; refine (rparts_any _ d _ hd).mono ?_; rintro e w1 ⟨v, rfl, _, b1⟩; rw [HY.out]; obtain ⟨hc, hf⟩ := bcell b1; have hz : w.heap.size < w1.heap.size := Nat.lt_of_lt_of_le (by simp) b1.size; replace b1 := ((Below.refl _ w).alloc (Nat.le_refl _) _).trans (b1.mono (by simp)))
      | (go_at_call 65; refine (rvalid_any n _ hn).mono ?_; rw [HX.out]; rintro e w2 ⟨rfl, b2⟩; obtain ⟨hc2, hf2⟩ := bcell b2))
    go_ret
    exact ⟨rfl, below_trans b1 b2⟩
end Go.Proofs.Ytdodamkndigjkaa

/- A range over a function whose body may make a map and write it: the caller's invariant abides the turn of book-keeping alone (a loop's record, a block for deferred calls), and the body keeps no more than that. -/
namespace Go.Proofs.Ytdodamkndigjkaa
open Go Go.RowKit
variable {F : Fence} {n : Nat} {P : Program}

/-- A block of the loops' own book-keeping. -/
def isBook : Obj → Bool
  | .loop _ => true
  | .deferred _ => true
  | _ => false
theorem book_cells {o : Obj} (h : isBook o = true) : o.isCells = false := by cases o <;> simp_all [isBook, Obj.isCells]
theorem bookC {A : World} {r : Nat} (h : ∃ o : Obj, A.heap[r]? = some o ∧ isBook o = true) : ∃ o : Obj, A.heap[r]? = some o ∧ o.isCells = false := by
  obtain ⟨o, ho, hk⟩ := h
  exact ⟨o, ho, book_cells hk⟩
/-- The invariant abides the turn of book-keeping from B on. -/
def OwnBk {β : Type} (B : Nat) (I : β → World → Prop) : Prop :=
  ∀ s W W' row, I s W → W.grownBy W' row → (∀ r, row = some r → B ≤ r ∧ ∃ o : Obj, W.heap[r]? = some o ∧ isBook o = true) → I s W'
theorem ownFrom_book {β : Type} {B : Nat} {I : β → World → Prop} (h : OwnFrom B I) : OwnBk B I := fun s W W' row hs hg hr => h s W W' row hs hg (fun r e => ⟨(hr r e).1, by obtain ⟨o, ho, hk⟩ := (hr r e).2; exact ⟨o, ho, book_cells hk⟩⟩)
theorem OwnBk.putObj {β : Type} {B : Nat} {I : β → World → Prop} (h : OwnBk B I) {s : β} {W : World} {l : Nat} {o : Obj} (o' : Obj) (hs : I s W) (hB : B ≤ l) (hl : W.heap[l]? = some o) (ho : isBook o = true) : I s (W.putObj l o') :=
  h s W _ (some l) hs (grownBy_putObj' W l o') (fun r e => by cases e; exact ⟨hB, o, hl, ho⟩)
theorem OwnBk.alloc {β : Type} {B : Nat} {I : β → World → Prop} (h : OwnBk B I) {s : β} {W : World} (o : Obj) (hs : I s W) : I s (W.alloc o) :=
  h s W _ none hs (World.grownBy_alloc W o none) (fun r e => by cases e)
theorem OwnBk.and {β : Type} {B : Nat} {I I' : β → World → Prop} (h : OwnBk B I) (h' : OwnBk B I') : OwnBk B (fun s W => I s W ∧ I' s W) := fun s W W' row hs hg hr => ⟨h s W W' row hs.1 hg hr, h' s W W' row hs.2 hg hr⟩
theorem ownBk_pure {β : Type} (B : Nat) (p : β → Prop) : OwnBk B (fun s (_ : World) => p s) := fun _ _ _ _ hs _ _ => hs
/-- Book-keeping from B on lies as it lay. -/
structure KeepsBk (B : Nat) (W W' : World) : Prop where
  size : W.heap.size ≤ W'.heap.size
  same : ∀ (k : Nat) (o : Obj), B ≤ k → W.heap[k]? = some o → isBook o = true → W'.heap[k]? = some o
theorem keepsFrom_book {B : Nat} {W W' : World} (h : KeepsFrom B W W') : KeepsBk B W W' := ⟨h.size, fun k o hB hk ho => h.same k o hB hk (book_cells ho)⟩
theorem KeepsBk.refl (B : Nat) (W : World) : KeepsBk B W W := keepsFrom_book (KeepsFrom.refl B W)
theorem KeepsBk.trans {B : Nat} {X Y Z : World} (h : KeepsBk B X Y) (k : KeepsBk B Y Z) : KeepsBk B X Z := ⟨Nat.le_trans h.size k.size, fun i o hB hi ho => k.same i o hB (h.same i o hB hi ho) ho⟩
theorem KeepsBk.of_grownBy {B : Nat} {W W' : World} {row : Option Nat} (hg : W.grownBy W' row) (hrow : ∀ j, row = some j → j < B) : KeepsBk B W W' := keepsFrom_book (KeepsFrom.of_grownBy hg hrow)
def ownPostB {α : Type} (B : Nat) (Kp : World → World → Prop) (I : List α → World → Prop) (Ix : Code → List α → World → Prop) (xs : List α) (W : World) : Exit → Act → World → Prop
  | .normal, _, W' => KeepsBk B W W' ∧ Kp W W' ∧ I xs W'
  | .ret, _, W' => KeepsBk B W W' ∧ Ix .ret xs W'
  | .exit id, _, W' => KeepsBk B W W' ∧ Ix (.exit id) xs W'
  | .goto t, _, W' => KeepsBk B W W' ∧ Ix (.goto t) xs W'
  | .panic _, _, _ => False
  | .outgrown, _, _ => False

/-- The contract of an iterator that loops over another. -/
def SeqStopsB {α : Type} (F : Fence) (n : Nat) (P : Program) (g : Nat) (lb : Array Value) (encs : α → Array Value) (Kp : World → World → Prop) (S Sp : List α → Prop) (N : Nat) (w : World) : Prop :=
  ∀ (l : Nat) (J Jx : List α → World → Prop) (W : World), Below w.heap.size w W → OwnBk W.heap.size J → OwnBk W.heap.size Jx →
    (∀ pre x W1, J pre W1 → pre.length < N → Sp (pre ++ [x]) → YieldAt F (n - 1) P l (encs x) W1 fun e W' =>
      (e = .returned (.bool true) ∧ J (pre ++ [x]) W' ∧ Kp W1 W' ∧ KeepsBk W.heap.size W1 W') ∨ (e = .returned (.bool false) ∧ Jx (pre ++ [x]) W' ∧ KeepsBk W.heap.size W1 W')) →
    J [] W →
    CallsIn F n P g (#[.func (.yield l) #[] #[]] ++ lb) W fun e W' => (∃ v, e = .returned v) ∧ ((∃ xs, S xs ∧ J xs W') ∨ (∃ pre, Sp pre ∧ Jx pre W'))

theorem keeps_put {B l : Nat} {W : World} (o : Obj) (h : l < B) : KeepsBk B W (W.putObj l o) :=
  KeepsBk.of_grownBy (grownBy_putObj' W l o) (fun j e => by cases e; exact h)

theorem wpIn_rangeFunc_ownB {α : Type} {g : Operand} {ps : Array Tmp} {assign body : Code} {Q : Exit → Act → World → Prop} {a : Act} {w : World}
    (hro : F.round = none) (h1 : 1 ≤ n) {gf : Nat} {lb : Array Value} (hg : a.eval g = .func (.func gf) #[] lb) (hFg : F.fn gf) (eg : ∀ args w, (callFunc gf args).run P w = .ok (.enter gf args) w)
    {encs : α → Array Value} {Kp : World → World → Prop} {S Sp : List α → Prop} {N : Nat} {w0 : World} (hseq : SeqStopsB F (n - 1) P gf lb encs Kp S Sp N w0)
    (hKt : ∀ {A B C : World}, Kp A B → Kp B C → Kp A C) (hKb : ∀ (W : World) (l : Nat) (o o' : Obj), w.heap.size ≤ l → W.heap[l]? = some o → o.isCells = false → o.isWalk = false → Kp W (W.putObj l o')) (hb0 : Below w0.heap.size w0 w) (hps : ∀ x, (encs x).size = ps.size)
    (I : List α → World → Prop) (Ix : Code → List α → World → Prop) (hI : OwnBk w.heap.size I) (hIx : ∀ c, OwnBk w.heap.size (Ix c)) (h0 : I [] w) (a₁ : α → Act)
    (hassign : ∀ (l : Nat) (x : α) (W : World) (K : Act → World → Prop), K (a₁ x) W →
      assign.wpIn (F.inRound l) (n - 1 - 1) P (Exit.then K (fun _ _ _ => False)) { tmps := (ps.zip (encs x)).foldl (fun t (p, v) => t.setIfInBounds p v) a.tmps, defers := [] } W)
    (hbody : ∀ (l : Nat) (pre : List α) (x : α) (W : World), I pre W → pre.length < N → Sp (pre ++ [x]) → body.wpIn (F.inRound l) (n - 1 - 1) P (ownPostB w.heap.size Kp I Ix (pre ++ [x]) W) (a₁ x) W)
    (hdone : ∀ (D : Nat) (xs : List α) (W : World), w.heap.size ≤ D → S xs → I xs W → W.heap[D]? = some (.deferred (some [])) → Q .normal { a with defers := { target := .collected D, args := #[] } :: a.defers } W)
    (hstop : ∀ (D : Nat) (c : Code) (pre : List α) (W : World), w.heap.size ≤ D → Sp pre → Ix c pre W → W.heap[D]? = some (.deferred (some [])) → c.wpIn F n P Q { a with defers := { target := .collected D, args := #[] } :: a.defers } W) :
    (Code.rangeFunc g ps assign body).wpIn F n P Q a w := by
  refine wpIn_rangeFunc ?_
  intro fn hfn
  rw [hro]
  obtain ⟨rec, hrec⟩ : ∃ rec : LoopState → Option Code → Loop, rec = fun st pe => { state := st, pending := pe, fn, tmps := a.tmps, params := ps, assign, body, defers := w.heap.size } := ⟨_, rfl⟩
  obtain ⟨W1, hW1⟩ : ∃ W1, (w.alloc (.deferred (some []))).alloc (.loop (rec .ready none)) = W1 := ⟨_, rfl⟩
  have hsz1 : W1.heap.size = w.heap.size + 2 := by rw [← hW1]; simp
  have hL1 : W1.heap[w.heap.size + 1]? = some (.loop (rec .ready none)) := by
    rw [← hW1]; have := World.alloc_heap_new (w.alloc (.deferred (some []))) (.loop (rec .ready none)); rwa [World.size_alloc] at this
  have hK1 : W1.heap[w.heap.size]? = some (.deferred (some [])) := by
    rw [← hW1]; exact (Below.heap_alloc _ _ _ (by simp)).trans (World.alloc_heap_new w _)
  have hI1 : I [] W1 := by rw [← hW1]; exact hI.alloc _ (hI.alloc _ h0)
  have hb1 : Below w0.heap.size w0 W1 := by
    rw [← hW1]; exact hb0.trans ((((Below.refl _ w).alloc (Nat.le_refl _) _).alloc (by simp) _).mono hb0.size)
  refine ⟨w.heap.size + 1, [{ target := .collected w.heap.size, args := #[] }], W1, { target := .fn (.func gf) lb, args := #[.func (.yield (w.heap.size + 1)) #[] #[]] }, W1, gf,
    #[.func (.yield (w.heap.size + 1)) #[] #[]] ++ lb, W1, ?_, ?_, ?_, ?_, fun _ => h1, ?_⟩
  · rw [← hW1, hrec]; exact run_enterLoop_outer _ _ _ _ _
  · simp only [resolve, hg]
    simp [go_sem]
  · intro f' hf'; simp [Target.leads] at hf'; subst hf'; exact hFg
  · simp [invoke, go_sem, eg]
  · have hnw : ∀ {A : World} {row : Option Nat}, (∀ r, row = some r → W1.heap.size ≤ r ∧ ∃ o : Obj, A.heap[r]? = some o ∧ isBook o = true) → (∀ r, row = some r → w.heap.size ≤ r ∧ ∃ o : Obj, A.heap[r]? = some o ∧ isBook o = true) :=
      fun hr r e => ⟨by have := (hr r e).1; omega, (hr r e).2⟩
    have hkeep : ∀ {A B : World} {row : Option Nat} {k : Nat} {o : Obj}, A.grownBy B row → (∀ r, row = some r → W1.heap.size ≤ r ∧ ∃ o : Obj, A.heap[r]? = some o ∧ isBook o = true) → k < W1.heap.size → A.heap[k]? = some o → B.heap[k]? = some o :=
      fun {A B row k o} hg' hr hk h => (hg'.block k (Array.getElem?_eq_some_iff.1 h).1 (fun e => by have := (hr k e.symm).1; omega)).trans h
    refine (hseq (w.heap.size + 1)
      (fun pre W => I pre W ∧ W.heap[w.heap.size + 1]? = some (.loop (rec .ready none)) ∧ W.heap[w.heap.size]? = some (.deferred (some [])))
      (fun pre W => ∃ c, Ix c pre W ∧ W.heap[w.heap.size + 1]? = some (.loop (rec .done (some c))) ∧ W.heap[w.heap.size]? = some (.deferred (some [])))
      W1 hb1
      (fun s A B row hs hg' hr => ⟨hI s A B row hs.1 hg' (hnw hr), hkeep hg' hr (by omega) hs.2.1, hkeep hg' hr (by omega) hs.2.2⟩)
      (fun s A B row hs hg' hr => by
        obtain ⟨c, hc, hl, hk⟩ := hs
        exact ⟨c, hIx c s A B row hc hg' (hnw hr), hkeep hg' hr (by omega) hl, hkeep hg' hr (by omega) hk⟩)
      ?_ ⟨hI1, hL1, hK1⟩).mono ?_
    · rintro pre x W ⟨hi, hl, hk⟩ hlen hsp
      have hlt : w.heap.size + 1 < W.heap.size := (Array.getElem?_eq_some_iff.1 hl).1
      have hy := run_yield (P := P) (args := encs x) hl (by rw [hrec]; exact hps x)
      rw [hrec] at hy
      refine ⟨fn, _, assign, body, hy, roundIn_of_wpIn hfn (hassign _ x W _ ?_)⟩
      clear hy
      refine ⟨_, run_beginRound hl (by rw [hrec]), ?_⟩
      have hl2 : (W.putObj (w.heap.size + 1) (.loop { rec .ready none with state := .busy })).heap[w.heap.size + 1]? = some (.loop { rec .ready none with state := .busy }) := World.putObj_heap_same hlt
      have hk2 : (W.putObj (w.heap.size + 1) (.loop { rec .ready none with state := .busy })).heap[w.heap.size]? = some (.deferred (some [])) := (World.putObj_heap_other (by omega)).trans hk
      have hw2 : Kp W (W.putObj (w.heap.size + 1) (.loop { rec .ready none with state := .busy })) := hKb _ _ _ _ (by omega) hl rfl rfl
      have hf2 : KeepsBk W1.heap.size W (W.putObj (w.heap.size + 1) (.loop { rec .ready none with state := .busy })) := keeps_put _ (by omega)
      refine wpIn_mono (hbody _ pre x _ (hI.putObj _ hi (by omega) hl rfl) hlen hsp) ?_
      have fin : ∀ (jump : Option Code) (W3 : World), KeepsBk w.heap.size (W.putObj (w.heap.size + 1) (.loop { rec .ready none with state := .busy })) W3 →
          (Instr.endRound (w.heap.size + 1) jump).run P W3 = .ok (.bool jump.isNone) (W3.putObj (w.heap.size + 1) (.loop (rec (if jump.isNone then .ready else .done) jump))) ∧
          W3.heap[w.heap.size + 1]? = some (.loop { rec .ready none with state := .busy }) ∧
          (W3.putObj (w.heap.size + 1) (.loop (rec (if jump.isNone then .ready else .done) jump))).heap[w.heap.size + 1]? = some (.loop (rec (if jump.isNone then .ready else .done) jump)) ∧
          (W3.putObj (w.heap.size + 1) (.loop (rec (if jump.isNone then .ready else .done) jump))).heap[w.heap.size]? = some (.deferred (some [])) ∧
          KeepsBk W1.heap.size W (W3.putObj (w.heap.size + 1) (.loop (rec (if jump.isNone then .ready else .done) jump))) := fun jump W3 hk3 => by
        have hl3 := hk3.same _ _ (by omega) hl2 rfl
        have := run_endRound (P := P) jump hl3
        rw [hrec] at this ⊢
        refine ⟨this, by rw [hrec] at hl3; exact hl3, World.putObj_heap_same (Array.getElem?_eq_some_iff.1 hl3).1, (World.putObj_heap_other (by omega)).trans (hk3.same _ _ (Nat.le_refl _) hk2 rfl), ?_⟩
        refine hf2.trans (KeepsBk.trans ⟨hk3.size, fun k o hB hk ho => hk3.same k o (by omega) hk ho⟩ (keeps_put _ (by omega)))
      rintro e a3 W3 hp
      cases e with
      | normal =>
        obtain ⟨hk3, hkp3, hi3⟩ := hp
        obtain ⟨hr, hl3, hl4, hk4, hkf⟩ := fin none W3 hk3
        exact ⟨_, _, hr, .inl ⟨rfl, ⟨hI.putObj _ hi3 (by omega) hl3 rfl, hl4, hk4⟩, hKt (hKt hw2 hkp3) (hKb _ _ _ _ (by omega) hl3 rfl rfl), hkf⟩⟩
      | ret =>
        obtain ⟨hk3, hi3⟩ := hp
        obtain ⟨hr, hl3, hl4, hk4, hkf⟩ := fin (some .ret) W3 hk3
        exact ⟨_, _, hr, .inr ⟨rfl, ⟨.ret, (hIx _).putObj _ hi3 (by omega) hl3 rfl, hl4, hk4⟩, hkf⟩⟩
      | exit id =>
        obtain ⟨hk3, hi3⟩ := hp
        obtain ⟨hr, hl3, hl4, hk4, hkf⟩ := fin (some (.exit id)) W3 hk3
        exact ⟨_, _, hr, .inr ⟨rfl, ⟨.exit id, (hIx _).putObj _ hi3 (by omega) hl3 rfl, hl4, hk4⟩, hkf⟩⟩
      | goto t =>
        obtain ⟨hk3, hi3⟩ := hp
        obtain ⟨hr, hl3, hl4, hk4, hkf⟩ := fin (some (.goto t)) W3 hk3
        exact ⟨_, _, hr, .inr ⟨rfl, ⟨.goto t, (hIx _).putObj _ hi3 (by omega) hl3 rfl, hl4, hk4⟩, hkf⟩⟩
      | panic ch => exact hp.elim
      | outgrown => exact hp.elim
    · rintro e W2 ⟨⟨v, rfl⟩, (⟨xs, hS, hi, hl, hk⟩ | ⟨pre, hSp, c, hi, hl, hk⟩)⟩
      · exact ⟨none, _, by have := run_endLoop (P := P) hl (by rw [hrec]; simp); rw [hrec] at this; exact this, hdone _ xs _ (Nat.le_refl _) hS (hI.putObj _ hi (by omega) hl rfl) ((World.putObj_heap_other (by omega)).trans hk)⟩
      · exact ⟨some c, _, by have := run_endLoop (P := P) hl (by rw [hrec]; simp); rw [hrec] at this; exact this, hstop _ c pre _ (Nat.le_refl _) hSp ((hIx c).putObj _ hi (by omega) hl rfl) ((World.putObj_heap_other (by omega)).trans hk)⟩
end Go.Proofs.Ytdodamkndigjkaa

/- places: the iterator over the labels' places. -/
namespace Go.Proofs.Ytdodamkndigjkaa
open Go.RowKit Go.Shelf
attribute [local go_sem] Oper.semAt_some

set_option maxHeartbeats 400000 in
theorem places_any (n : List UInt8) (w : World) :
    Calls Try.prog 111 #[.string ⟨n.toArray⟩] w fun e w' => e = .returned (.func (.func 117) #[] #[.pointer (some ⟨w.heap.size, 0, none⟩)]) ∧ w' = w.alloc (.cells #[.string ⟨n.toArray⟩] 9) := by
  go_enter Try.func111, Try.ntmps111
  go_wp2
  go_ret
  exact ⟨rfl, rfl⟩

/-- What the iterators ask of a round: the box B holds what it held. -/
def KB (B : Nat) (W W' : World) : Prop := ∀ v, W.cell? ⟨B, 0, none⟩ = some v → W'.cell? ⟨B, 0, none⟩ = some v
theorem KB.refl (B : Nat) (W : World) : KB B W W := fun _ h => h
theorem KB.trans {B : Nat} {A W W' : World} (h : KB B A W) (k : KB B W W') : KB B A W' := fun v e => k v (h v e)
theorem KB.below {B : Nat} {W W' : World} (h : Below W.heap.size W W') : KB B W W' := fun _ e => (h.cell (p := ⟨B, 0, none⟩) (cell_lt e)).trans e
theorem KB.alloc (B : Nat) (W : World) (o : Obj) : KB B W (W.alloc o) := KB.below ((Below.refl _ W).alloc (Nat.le_refl _) o)
theorem KB.setCell {B b : Nat} (h : b ≠ B) (W : World) (v : Value) : KB B W (W.setCell ⟨b, 0, none⟩ v) := fun u e => by
  rw [World.cell?_of_block (w := W) (Below.heap_setCell W ⟨b, 0, none⟩ v B (fun e => h e.symm))]; exact e
theorem kb_t {B : Nat} {A W C : World} (h : KB B A W) (k : KB B W C) : KB B A C := h.trans k
theorem kb_b {B : Nat} {w : World} (W : World) (l : Nat) (o o' : Obj) (_ : w.heap.size ≤ l) (h : W.heap[l]? = some o) (hc : o.isCells = false) (_ : o.isWalk = false) : KB B W (W.putObj l o') := fun _ e =>
  cell_kept e (grownBy_putObj' W l o') (fun r hr => by cases hr; exact ⟨o, h, hc⟩)

set_option maxRecDepth 100000 in
set_option maxHeartbeats 1000000 in
theorem places1_in (m l Bn : Nat) (hm : 1 ≤ m) (n : List UInt8) (hs : n.length ≤ 100000) (J Jx : List (Nm.Pos n) → World → Prop)
    (hY : ∀ pre x W, J pre W → pre.length < 255 → (pre ++ [x]).map Subtype.val <+: Nm.placesN n → YieldAt Fence.wide (m - 1) Try.prog l #[.int .i64 (x.1 : Int)] W fun e W' =>
      (e = .returned (.bool true) ∧ J (pre ++ [x]) W' ∧ KB Bn W W') ∨ (e = .returned (.bool false) ∧ Jx (pre ++ [x]) W'))
    (W : World) (hBn : W.cell? ⟨Bn, 0, none⟩ = some (.string ⟨n.toArray⟩)) (h0 : J [] W) :
    CallsIn Fence.wide m Try.prog 117 #[.func (.yield l) #[] #[], .pointer (some ⟨Bn, 0, none⟩)] W fun e W' => (∃ v, e = .returned v) ∧
      ((∃ ys, ys.map Subtype.val = Nm.placesN n ∧ J ys W') ∨ (∃ pre, pre.map Subtype.val <+: Nm.placesN n ∧ Jx pre W')) := by
  refine callsIn_of_wp Try.func117 rfl trivial ?_ rfl
  simp only [Try.ntmps117, List.size_toArray, List.length_cons, List.length_nil, Nat.reduceAdd, Nat.reduceSub, Array.replicate_succ, Array.replicate_zero, List.push_toArray, List.append_toArray, List.nil_append, List.cons_append]
  cases hl : Nm.labs n with
  | none =>
    have hv : Nm.valid n = false := by simp [Nm.valid, hl]
    have hp : Nm.placesN n = [] := by simp [Nm.placesN, Nm.labsD, hl, Nm.posOf]
    have HV := Lib.hid hv
    have HP := Lib.hid hp
    clear hv hp hl
    gi_wp2_with (refine ⟨trivial, ?_⟩; gi_at_call 74; refine (callsIn_wide.2 (valid_any n _ hs)).mono ?_; rw [HV.out]; rintro e w' ⟨rfl, rfl⟩)
    refine bodyPost_ret (results_none rfl _ _ _) rfl ?_
    exact ⟨⟨_, rfl⟩, .inl ⟨[], by simp [HP.out], h0⟩⟩
  | some ls =>
    have hv : Nm.valid n = true := by simp [Nm.valid, hl]
    have hp : Nm.placesN n = Nm.posOf 0 ls := by simp [Nm.placesN, Nm.labsD, hl]
    obtain ⟨hn, hg, h255⟩ := Nm.labs_iff.1 hl
    have HV := Lib.hid hv
    have HP := Lib.hid hp
    have HN := Lib.hid hn
    have HG := Lib.hid hg
    clear hv hp hl hn hg
    gi_wp2_with (refine ⟨trivial, ?_⟩; gi_at_call 74; refine (callsIn_wide.2 (valid_any n _ hs)).mono ?_; rw [HV.out]; rintro e w' ⟨rfl, rfl⟩)
    gi_loopw [3] (fun p wr => ∃ (pre : List (Nm.Pos n)) (a b : List (List UInt8)), p = .int .i64 (Nm.encL a : Int) ∧ Hid (ls = a ++ b) ∧ Hid (pre.map Subtype.val = Nm.posOf 0 a) ∧ J pre wr ∧ wr.cell? ⟨Bn, 0, none⟩ = some (.string ⟨n.toArray⟩)) (fun p _ => n.length + 1 - (intOf p).toNat)
    case atStart => exact ⟨[], [], ls, rfl, Lib.hid rfl, Lib.hid rfl, h0, hBn⟩
    case round =>
      obtain ⟨pre, a, b, rfl, hab, hpre, hJ, hBr⟩ := hrel
      cases b with
      | nil =>
        obtain ⟨hk, h00⟩ := Nm.at_end (n := n) (a := a) (by rw [HN.out, hab.out, List.append_nil])
        have hc : ((⟨n.toArray⟩ : ByteArray)[Nm.encL a]'hk) = n[Nm.encL a] := rfl
        have hz : ((n[Nm.encL a].toNat : Int) != 0) = false := by rw [h00]; rfl
        clear h00
        gi_wp2
        go_end0
        exact ⟨⟨_, rfl⟩, .inl ⟨pre, by rw [hpre.out, HP.out, hab.out, List.append_nil], hJ⟩⟩
      | cons lb b =>
        obtain ⟨hk, hne, hto, h1, h63, hlen, hlab⟩ := Nm.at_label (n := n) (a := a) (b := b) (l := lb) (by rw [HN.out, hab.out]) (by rw [← hab.out]; exact HG.out)
        have hc : ((⟨n.toArray⟩ : ByteArray)[Nm.encL a]'hk) = n[Nm.encL a] := rfl
        have hz : ((lb.length : Int) != 0) = true := by rw [bne_iff_ne]; omega
        obtain ⟨x, hx⟩ : ∃ x : Nm.Pos n, x.1 = Nm.encL a := ⟨⟨Nm.encL a, hk, by omega⟩, rfl⟩
        obtain ⟨fn, tmps, assign, body, hy, hR⟩ := hY pre x wr hJ (by have h := congrArg List.length hpre.out; rw [List.length_map, Nm.posOf_length] at h; have := Nm.length_le_encL (ls := a); omega) (by rw [List.map_append, hpre.out, HP.out, hab.out, Nm.posOf_append]; exact ⟨Nm.posOf (Nm.encL a + (1 + lb.length)) b, by simp [hx, Nm.posOf]⟩)
        rw [hx] at hy
        have HX := Lib.hid hx
        have HLab := Lib.hid hlab
        clear hne hx hlab
        gi_wp2
        refine hR.mono ?_
        rintro e W3 (⟨rfl, hJ3, hk3⟩ | ⟨rfl, hJx3⟩)
        · have hBr3 : W3.cell? ⟨Bn, 0, none⟩ = some (.string ⟨n.toArray⟩) := hk3 _ hBr
          gi_wp2
          go_roundw
          case rel => exact ⟨pre ++ [x], a ++ [lb], b, by rw [Nm.encL_append]; simp [Nm.encL], Lib.hid (by rw [hab.out]; simp), Lib.hid (by rw [List.map_append, hpre.out, Nm.posOf_append]; simp [HX.out, Nm.posOf]), hJ3, hBr3⟩
          case measure => simp [intOf]; omega
        · gi_wp2
          refine bodyPost_ret (results_none rfl _ _ _) rfl ?_
          exact ⟨⟨_, rfl⟩, .inr ⟨pre ++ [x], by rw [List.map_append, hpre.out, HP.out, hab.out, Nm.posOf_append]; exact ⟨Nm.posOf (Nm.encL a + (1 + lb.length)) b, by simp [HX.out, Nm.posOf]⟩, hJx3⟩⟩

theorem places_stops (m : Nat) (hm : 1 ≤ m) (Bn : Nat) (n : List UInt8) (hs : n.length ≤ 100000) (w : World) (hc : w.cell? ⟨Bn, 0, none⟩ = some (.string ⟨n.toArray⟩)) :
    SeqStopsK Fence.wide m Try.prog 117 #[.pointer (some ⟨Bn, 0, none⟩)] (fun x : Nm.Pos n => #[Value.int .i64 (x.1 : Int)]) (KB Bn) (fun ys => ys.map Subtype.val = Nm.placesN n) (fun pre => pre.map Subtype.val <+: Nm.placesN n) 255 w :=
  fun l J Jx W hW _ _ hY h0 => places1_in m l Bn hm n hs J Jx (fun pre x W1 hJ hl _ => hY pre x W1 hJ hl) W (KB.below hW _ hc) h0
end Go.Proofs.Ytdodamkndigjkaa
