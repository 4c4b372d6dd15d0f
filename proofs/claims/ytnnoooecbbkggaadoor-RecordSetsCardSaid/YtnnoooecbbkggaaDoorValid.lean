/- What Valid answers. -/
import Derived.WalkKit
import Derived.Test.YtnnoooecbbkggaaDoorProg
import Derived.Test.YtnnoooecbbkggaaDoorBase
import Derived.Lib.Hide
import Derived.BigQuiet
import Derived.Deep.QuietTactic
namespace Go.Proofs.YtnnoooecbbkggaaDoor
open Go.RowKit


set_option maxHeartbeats 400000 in
theorem valid_any (n : List UInt8) (w : World) (hs : n.length ≤ 100000) :
    Calls Tryd.prog 43 #[.string ⟨n.toArray⟩] w fun e w' => e = .returned (.bool (Nm.valid n)) ∧ w = w' := by
  by_cases h255 : 255 < n.length
  · have H : Nm.valid n = false := by simp [Nm.valid, Nm.labs, h255]
    have HH := Lib.hid H
    clear H
    go_enter Tryd.func43, Tryd.ntmps43
    go_wp2
    go_ret
    exact ⟨ret_bool HH.out.symm, rfl⟩
  · go_enter Tryd.func43, Tryd.ntmps43
    go_wp2
    go_loop [3] (fun i => ∃ k : Nat, k ≤ 400 ∧ i = .int .i64 k ∧ Nm.ValidAt n k) (fun i => n.length + 1 - (intOf i).toNat)
    case atStart => exact ⟨0, by omega, rfl, Nm.validAt_zero n⟩
    case round =>
      obtain ⟨k, hk, rfl, hv⟩ := hrel
      have HV := Lib.hid hv
      clear hv
      by_cases hlt : k < n.length
      · have hc : ((⟨n.toArray⟩ : ByteArray)[k]'hlt) = n[k] := rfl
        go_wp2
        · go_ret
          rename_i h63 _
          exact ⟨ret_bool (by rw [Nm.valid_of_short h255, HV.out.big hlt (by omega)]), rfl⟩
        · rename_i h0 h63
          rw [bne_iff_ne] at h0
          have h0' : n[k] ≠ 0 := fun e => h0 (by rw [e]; rfl)
          exact ⟨⟨k + (1 + n[k].toNat), by omega, by go_num, HV.out.step hlt h0' (by omega)⟩, by simp [intOf]; omega⟩
        · rename_i h0 _
          have h0' : n[k] = 0 := by rw [bne_eq_false_iff_eq] at h0; rw [← UInt8.toNat_inj]; simpa using h0
          go_ret
          exact ⟨ret_bool (by rw [Nm.valid_of_short h255, HV.out.zero hlt h0', Bool.eq_iff_iff]; simp; omega), rfl⟩
      · go_wp2
        go_ret
        exact ⟨ret_bool (by rw [Nm.valid_of_short h255, HV.out.stop (by omega), beq_eq_false_iff_ne]; omega), rfl⟩
end Go.Proofs.YtnnoooecbbkggaaDoor
