/- What data of a type is put together of: layoutOf; what types are known; what four bytes hold. -/
import Derived.Test.YtnnoooecbbkggaaDoorRdMath
import Derived.Test.YtnnoooecbbkggaaDoorValid
namespace Go.Proofs.YtnnoooecbbkggaaDoor
open Go.RowKit Go.Shelf

def layL (a n b : Nat) : Value := .agg #[.int .i64 (a : Int), .int .i64 (n : Int), .int .i64 (b : Int)]
def layV : Option (Nat × Nat × Nat) → Value
  | some (a, n, b) => layL a n b
  | none => layL 0 0 0
def LayRet (t : Int) (w : World) (e : Ending) (w' : World) : Prop := e = .returned (.tuple #[layV (Rd.lay t), .bool (Rd.lay t).isSome]) ∧ Below w.heap.size w w'
theorem layRet_of {t : Int} {w w' : World} {a n b : Nat} (h : Rd.lay t = some (a, n, b)) (hb : Below w.heap.size w w') : LayRet t w (.returned (.tuple #[.agg #[.int .i64 (a : Int), .int .i64 (n : Int), .int .i64 (b : Int)], .bool true])) w' := ⟨by rw [h]; rfl, hb⟩
theorem layRet_none {t : Int} {w w' : World} (h : Rd.lay t = none) (hb : Below w.heap.size w w') : LayRet t w (.returned (.tuple #[.agg #[.int .i64 0, .int .i64 0, .int .i64 0], .bool false])) w' := ⟨by rw [h]; rfl, hb⟩

set_option maxHeartbeats 1000000 in
theorem layoutOf_any (t : Int) (w : World) : Calls Tryd.prog 41 #[.int .i64 t] w (LayRet t w) := by
  have hb : ∀ o, Below w.heap.size w (w.alloc o) := fun o => (Below.refl _ w).alloc (Nat.le_refl _) o
  have hcase : (t = 1) ∨ t = 28 ∨ t = 2 ∨ t = 5 ∨ t = 12 ∨ t = 15 ∨ t = 33 ∨ t = 6 ∨ (t ≠ 1 ∧ t ≠ 28 ∧ t ≠ 2 ∧ t ≠ 5 ∧ t ≠ 12 ∧ t ≠ 15 ∧ t ≠ 33 ∧ t ≠ 6) := by omega
  rcases hcase with rfl | rfl | rfl | rfl | rfl | rfl | rfl | rfl | ⟨h1, h2, h3, h4, h5, h6, h7, h8⟩
  · go_enter Tryd.func41, Tryd.ntmps41
    go_wp2
    exact bodyPost_ret (v := .tuple #[.agg #[.int .i64 4, .int .i64 0, .int .i64 0], .bool true]) (by simp [results, Tryd.results41, go_sem]) rfl (layRet_of (a := 4) (n := 0) (b := 0) rfl (hb _))
  · go_enter Tryd.func41, Tryd.ntmps41
    go_wp2
    exact bodyPost_ret (v := .tuple #[.agg #[.int .i64 16, .int .i64 0, .int .i64 0], .bool true]) (by simp [results, Tryd.results41, go_sem]) rfl (layRet_of (a := 16) (n := 0) (b := 0) rfl (hb _))
  · go_enter Tryd.func41, Tryd.ntmps41
    go_wp2
    exact bodyPost_ret (v := .tuple #[.agg #[.int .i64 0, .int .i64 1, .int .i64 0], .bool true]) (by simp [results, Tryd.results41, go_sem]) rfl (layRet_of (a := 0) (n := 1) (b := 0) rfl (hb _))
  · go_enter Tryd.func41, Tryd.ntmps41
    go_wp2
    exact bodyPost_ret (v := .tuple #[.agg #[.int .i64 0, .int .i64 1, .int .i64 0], .bool true]) (by simp [results, Tryd.results41, go_sem]) rfl (layRet_of (a := 0) (n := 1) (b := 0) rfl (hb _))
  · go_enter Tryd.func41, Tryd.ntmps41
    go_wp2
    exact bodyPost_ret (v := .tuple #[.agg #[.int .i64 0, .int .i64 1, .int .i64 0], .bool true]) (by simp [results, Tryd.results41, go_sem]) rfl (layRet_of (a := 0) (n := 1) (b := 0) rfl (hb _))
  · go_enter Tryd.func41, Tryd.ntmps41
    go_wp2
    exact bodyPost_ret (v := .tuple #[.agg #[.int .i64 2, .int .i64 1, .int .i64 0], .bool true]) (by simp [results, Tryd.results41, go_sem]) rfl (layRet_of (a := 2) (n := 1) (b := 0) rfl (hb _))
  · go_enter Tryd.func41, Tryd.ntmps41
    go_wp2
    exact bodyPost_ret (v := .tuple #[.agg #[.int .i64 6, .int .i64 1, .int .i64 0], .bool true]) (by simp [results, Tryd.results41, go_sem]) rfl (layRet_of (a := 6) (n := 1) (b := 0) rfl (hb _))
  · go_enter Tryd.func41, Tryd.ntmps41
    go_wp2
    exact bodyPost_ret (v := .tuple #[.agg #[.int .i64 0, .int .i64 2, .int .i64 20], .bool true]) (by simp [results, Tryd.results41, go_sem]) rfl (layRet_of (a := 0) (n := 2) (b := 20) rfl (hb _))
  · have H := Lib.hid (show Rd.lay t = none by unfold Rd.lay; simp [h1, h2, h3, h4, h5, h6, h7, h8])
    replace h1 := beq_eq_false_iff_ne.2 h1
    replace h2 := beq_eq_false_iff_ne.2 h2
    replace h3 := beq_eq_false_iff_ne.2 h3
    replace h4 := beq_eq_false_iff_ne.2 h4
    replace h5 := beq_eq_false_iff_ne.2 h5
    replace h6 := beq_eq_false_iff_ne.2 h6
    replace h7 := beq_eq_false_iff_ne.2 h7
    replace h8 := beq_eq_false_iff_ne.2 h8
    go_enter Tryd.func41, Tryd.ntmps41
    go_wp2
    exact bodyPost_ret (v := .tuple #[.agg #[.int .i64 0, .int .i64 0, .int .i64 0], .bool false]) (by simp [results, Tryd.results41, go_sem]) rfl (layRet_none H.out (hb _))

set_option maxHeartbeats 1000000 in
theorem known_any (t : Int) (w : World) : Calls Tryd.prog 15 #[.int .i64 t] w fun e w' => e = .returned (.bool (Rd.known t)) ∧ w = w' := by
  have hcase : t = 1 ∨ t = 2 ∨ t = 5 ∨ t = 6 ∨ t = 12 ∨ t = 15 ∨ t = 16 ∨ t = 28 ∨ t = 33 ∨ (t ≠ 1 ∧ t ≠ 2 ∧ t ≠ 5 ∧ t ≠ 6 ∧ t ≠ 12 ∧ t ≠ 15 ∧ t ≠ 16 ∧ t ≠ 28 ∧ t ≠ 33) := by omega
  rcases hcase with rfl | rfl | rfl | rfl | rfl | rfl | rfl | rfl | rfl | ⟨h1, h2, h3, h4, h5, h6, h7, h8, h9⟩
  iterate 9
    · go_enter Tryd.func15, Tryd.ntmps15
      go_wp2
      go_ret
      exact ⟨rfl, rfl⟩
  · have H := Lib.hid (show Rd.known t = false by unfold Rd.known; simp [h1, h2, h3, h4, h5, h6, h7, h8, h9])
    replace h1 := beq_eq_false_iff_ne.2 h1
    replace h2 := beq_eq_false_iff_ne.2 h2
    replace h3 := beq_eq_false_iff_ne.2 h3
    replace h4 := beq_eq_false_iff_ne.2 h4
    replace h5 := beq_eq_false_iff_ne.2 h5
    replace h6 := beq_eq_false_iff_ne.2 h6
    replace h7 := beq_eq_false_iff_ne.2 h7
    replace h8 := beq_eq_false_iff_ne.2 h8
    replace h9 := beq_eq_false_iff_ne.2 h9
    go_enter Tryd.func15, Tryd.ntmps15
    go_wp2
    go_ret
    exact ⟨ret_bool H.out.symm, rfl⟩

set_option maxHeartbeats 400000 in
theorem isFour_any (v : Int) (w : World) : Calls Tryd.prog 54 #[.int .i64 v] w fun e w' => e = .returned (.bool (Rd.isFour v)) ∧ w = w' := by
  by_cases h : 0 ≤ v
  · have H := Lib.hid (show Rd.isFour v = decide (v ≤ 4294967295) by unfold Rd.isFour; simp [h])
    go_enter Tryd.func54, Tryd.ntmps54
    go_wp2
    go_ret
    exact ⟨ret_bool H.out.symm, rfl⟩
  · have H := Lib.hid (show Rd.isFour v = false by unfold Rd.isFour; simp; omega)
    have h' : decide (0 ≤ v) = false := by simpa using h
    clear h
    go_enter Tryd.func54, Tryd.ntmps54
    go_wp2
    go_ret
    exact ⟨ret_bool H.out.symm, rfl⟩

set_option maxHeartbeats 400000 in
theorem word_any (v : Int) (w : World) : Calls Tryd.prog 59 #[.int .i64 v] w fun e w' => e = .returned (.bool (Rd.isFour v)) ∧ w = w' := by
  by_cases h : 0 ≤ v
  · have H := Lib.hid (show Rd.isFour v = decide (v < 4294967296) by unfold Rd.isFour; rw [decide_eq_decide]; omega)
    go_enter Tryd.func59, Tryd.ntmps59
    go_wp2
    go_ret
    exact ⟨ret_bool H.out.symm, rfl⟩
  · have H := Lib.hid (show Rd.isFour v = false by unfold Rd.isFour; simp; omega)
    have h' : decide (0 ≤ v) = false := by simpa using h
    clear h
    go_enter Tryd.func59, Tryd.ntmps59
    go_wp2
    go_ret
    exact ⟨ret_bool H.out.symm, rfl⟩
end Go.Proofs.YtnnoooecbbkggaaDoor
