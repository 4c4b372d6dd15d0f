/- WnameGets: its walk. -/
import Derived.Test.YtipabiiffaipdaaAwake
import Derived.Test.YtipabiiffaipdaaRGet
import Derived.Test.YtipabiiffaipdaaFrame
namespace Go.Proofs.Ytipabiiffaipdaa
open Go.RowKit Go.Shelf Go.Maps
attribute [local go_sem] Oper.semAt_some

theorem getRet_none : getRet none = .tuple #[.string ⟨#[]⟩, .int .i64 0, .int .i64 2] := rfl
theorem getRet_some (n : List UInt8) (k : Nat) : getRet (some (n, k)) = .tuple #[.string ⟨n.toArray⟩, .int .i64 (k : Int), .int .i64 0] := rfl
theorem rgetRet_none : rgetRet none = .tuple #[.string ⟨#[]⟩, .int .i64 0, .bool false] := rfl
theorem rgetRet_some (n : List UInt8) (k : Nat) : rgetRet (some (n, k)) = .tuple #[.string ⟨n.toArray⟩, .int .i64 (k : Int), .bool true] := rfl

set_option maxRecDepth 100000 in
set_option maxHeartbeats 4000000 in
theorem gets_any (b : List UInt8) (bv : Value) (z : Int) (w : World) (hr : ReadB bv b w) (hcap : ∀ ao n c, bv = .slice ao n c → n ≤ c) (hlen : b.length ≤ 9223372036854775807) (hz1 : -9223372036854775808 ≤ z) (hz2 : z ≤ 9223372036854775807) :
    Calls Try.prog 3 #[bv, .int .i64 z] w fun e w' => e = .returned (.bool true) ∧ Below w.heap.size w w' := by
  have hr' := hr
  obtain ⟨ao, cap, rfl, _⟩ := hr.form
  by_cases hbig : 1000 < b.length
  · clear hr hr'
    go_enter Try.func3, Try.ntmps3
    go_wp2_with (go_at_call 9; refine (awake_any _).mono ?_; rintro e w1 ⟨rfl, b1⟩)
    go_ret
    exact ⟨rfl, b1⟩
  · obtain ⟨G, hG⟩ : ∃ G, Wn.get b z = G := ⟨_, rfl⟩
    have HG := Lib.hid hG
    have HR := Lib.hid hr'
    have HCAP := Lib.hid hcap
    clear hG hr hr' hcap
    cases G with
    | none =>
      go_enter Try.func3, Try.ntmps3
      go_wp2_with fail
      refine (get_any b _ z _ HR.out HCAP.out (by omega) hz1 hz2).mono ?_
      rw [HG.out, getRet_none]
      rintro e w1 ⟨rfl, b1⟩
      go_wp2_with fail
      refine (rget_any b _ z _ (readB_below HR.out b1) HCAP.out (by omega) hz1 hz2).mono ?_
      rw [HG.out, rgetRet_none]
      rintro e w2 ⟨rfl, rfl⟩
      go_wp2_with (go_at_call 9; refine (awake_any _).mono ?_; rintro e w3 ⟨rfl, b3⟩)
      go_ret
      exact ⟨rfl, below_trans b1 b3⟩
    | some r =>
      obtain ⟨n, k⟩ := r
      go_enter Try.func3, Try.ntmps3
      go_wp2_with fail
      refine (get_any b _ z _ HR.out HCAP.out (by omega) hz1 hz2).mono ?_
      rw [HG.out, getRet_some]
      rintro e w1 ⟨rfl, b1⟩
      go_wp2_with fail
      refine (rget_any b _ z _ (readB_below HR.out b1) HCAP.out (by omega) hz1 hz2).mono ?_
      rw [HG.out, rgetRet_some]
      rintro e w2 ⟨rfl, rfl⟩
      go_wp2_with (go_at_call 9; refine (awake_any _).mono ?_; rintro e w3 ⟨rfl, b3⟩)
      go_ret
      exact ⟨rfl, below_trans b1 b3⟩
end Go.Proofs.Ytipabiiffaipdaa
