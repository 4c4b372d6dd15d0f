/- RecordMakes: its walk. -/
import Derived.Test.YtnnoooecbbkggaaDoorAwake
import Derived.Test.YtnnoooecbbkggaaDoorRMake
import Derived.Test.YtnnoooecbbkggaaDoorRMakeSOA
namespace Go.Proofs.YtnnoooecbbkggaaDoor
open Go.RowKit Go.Shelf
attribute [local go_sem] Oper.semAt_some

theorem eql_self (r : Rd.RR) (W : World) : (binOp .eql 23 (rrV r) (rrV r)).run Tryd.prog W = .ok (.bool true) W := by
  have h := eql_rr W r r
  rw [decide_eq_true rfl] at h
  exact h

set_option maxRecDepth 100000 in
set_option maxHeartbeats 8000000 in
theorem makes_any (n to : List UInt8) (t ttl x y : Int) (w : World) (hn : n.length ≤ 9223372036854775807) (hto : to.length ≤ 9223372036854775807)
    (hx0 : -9223372036854775808 ≤ x) (hx1 : x ≤ 9223372036854775807) (hy0 : -9223372036854775808 ≤ y) (hy1 : y ≤ 9223372036854775807) (hv : VarsOk w) :
    Calls Tryd.prog 4 #[.string ⟨n.toArray⟩, .int .i64 t, .int .i64 ttl, .string ⟨to.toArray⟩, .int .i64 x, .int .i64 y] w fun e w' => e = .returned (.bool true) ∧ Below w.heap.size w w' := by
  by_cases hg : 300 < n.length ∨ 300 < to.length
  · have hcase : 300 < n.length ∨ (n.length ≤ 300 ∧ 300 < to.length) := by omega
    clear hg
    rcases hcase with g1 | ⟨g1, g2⟩
    all_goals
      go_enter Tryd.func4, Tryd.ntmps4
      go_wp2_with (go_at_call 9; refine (awake_any _ hv).mono ?_; rintro e w1 ⟨rfl, b1⟩)
      go_ret
      exact ⟨rfl, b1⟩
  have g1 : n.length ≤ 300 := by omega
  have g2 : to.length ≤ 300 := by omega
  clear hg
  have m1 := fun W => makeA_any n ttl x W (by omega) hx0 hx1
  have r1 := fun W => rmakeA_any n ttl x W (by omega) hx0 hx1
  have m2 := fun W => makeName_any n t ttl to W (by omega) (by omega)
  have r2 := fun W => rmakeName_any n t ttl to W (by omega) (by omega)
  have m3 := fun W => makeSOA_any n ttl x y W (by omega) hx0 hx1 hy0 hy1
  have r3 := fun W => rmakeSOA_any n ttl x y W (by omega) hx0 hx1 hy0 hy1
  obtain ⟨⟨A0, A1, A2, A3, A4⟩, hA⟩ : ∃ A, Rd.makeA n ttl x = A := ⟨_, rfl⟩
  obtain ⟨⟨B0, B1, B2, B3, B4⟩, hB⟩ : ∃ A, Rd.makeName n t ttl to = A := ⟨_, rfl⟩
  obtain ⟨⟨C0, C1, C2, C3, C4⟩, hC⟩ : ∃ A, Rd.makeSOA n ttl x y = A := ⟨_, rfl⟩
  rw [hA] at m1 r1
  rw [hB] at m2 r2
  rw [hC] at m3 r3
  have e1 := fun W => eql_self ⟨A0, A1, A2, A3, A4⟩ W
  have e2 := fun W => eql_self ⟨B0, B1, B2, B3, B4⟩ W
  have e3 := fun W => eql_self ⟨C0, C1, C2, C3, C4⟩ W
  have k1 := fun W a b => guard_rr W a b ⟨A0, A1, A2, A3, A4⟩ ⟨A0, A1, A2, A3, A4⟩
  have k2 := fun W a b => guard_rr W a b ⟨B0, B1, B2, B3, B4⟩ ⟨B0, B1, B2, B3, B4⟩
  have k3 := fun W a b => guard_rr W a b ⟨C0, C1, C2, C3, C4⟩ ⟨C0, C1, C2, C3, C4⟩
  clear hA hB hC
  unfold rrV at m1 r1 m2 r2 m3 r3 e1 e2 e3 k1 k2 k3
  simp only at m1 r1 m2 r2 m3 r3 e1 e2 e3 k1 k2 k3
  have M1 := Lib.hid m1
  have M2 := Lib.hid m2
  have M3 := Lib.hid m3
  have R1 := Lib.hid r1
  have R2 := Lib.hid r2
  have R3 := Lib.hid r3
  clear m1 m2 m3 r1 r2 r3
  go_enter Tryd.func4, Tryd.ntmps4
  go_wp2_with (go_at_call 29; refine (M1.out _).mono ?_; rintro e w1 ⟨rfl, b1⟩; refine Hid.out ?_)
  refine Lib.hid ?_
  go_wp2_with (go_at_call 30; refine (R1.out _).mono ?_; rintro e w2 ⟨rfl, b2⟩; replace b2 := below_trans b1 b2; clear b1; refine Hid.out ?_)
  refine Lib.hid ?_
  go_wp2_with (go_at_call 31; refine (M2.out _).mono ?_; rintro e w3 ⟨rfl, b3⟩; replace b3 := below_trans b2 b3; clear b2; refine Hid.out ?_)
  refine Lib.hid ?_
  go_wp2_with (go_at_call 32; refine (R2.out _).mono ?_; rintro e w4 ⟨rfl, b4⟩; replace b4 := below_trans b3 b4; clear b3; refine Hid.out ?_)
  refine Lib.hid ?_
  go_wp2_with (go_at_call 33; refine (M3.out _).mono ?_; rintro e w5 ⟨rfl, b5⟩; replace b5 := below_trans b4 b5; clear b4; refine Hid.out ?_)
  refine Lib.hid ?_
  go_wp2_with (go_at_call 34; refine (R3.out _).mono ?_; rintro e w6 ⟨rfl, b6⟩; replace b6 := below_trans b5 b6; clear b5; refine Hid.out ?_)
  refine Lib.hid ?_
  go_wp2_with (go_at_call 9; refine (awake_any _ (hv.below b6)).mono ?_; rintro e w7 ⟨rfl, b7⟩; replace b7 := below_trans b6 b7; refine Hid.out ?_)
  refine Lib.hid ?_
  go_wp2
  go_ret
  exact ⟨rfl, b7⟩
end Go.Proofs.YtnnoooecbbkggaaDoor
