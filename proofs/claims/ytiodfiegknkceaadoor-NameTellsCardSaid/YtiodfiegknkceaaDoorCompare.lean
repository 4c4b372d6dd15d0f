/- compare and Same. -/
import Derived.Test.YtiodfiegknkceaaDoorValid
namespace Go.Proofs.YtiodfiegknkceaaDoor
open Go.RowKit

/-- Nothing but draws. -/
def Drew (w w' : World) : Prop := ∃ n, w' = w.drewN n
theorem Drew.refl (w : World) : Drew w w := ⟨0, rfl⟩
theorem Drew.below {B : Nat} {w w' : World} (h : Drew w w') : Below B w w' := by
  obtain ⟨n, rfl⟩ := h
  exact ⟨rfl, rfl, rfl, Nat.le_refl _, fun _ _ => rfl⟩

theorem Drew.drewN {w w' : World} (h : Drew w w') (k : Nat) : Drew w (w'.drewN k) := by
  obtain ⟨n, rfl⟩ := h
  exact ⟨n + k, World.drewN_drewN _ _ _⟩
theorem Drew.trans {w w1 w' : World} (h : Drew w w1) (h' : Drew w1 w') : Drew w w' := by
  obtain ⟨k, rfl⟩ := h'
  exact h.drewN k

set_option maxHeartbeats 1000000 in
theorem compare_any (a b : List UInt8) (w : World) (_ha : a.length ≤ 100000) (_hb : b.length ≤ 100000) :
    Calls Tryd.prog 46 #[.string ⟨a.toArray⟩, .string ⟨b.toArray⟩] w fun e w' => e = .returned (.int .i64 (Nm.cmpN a b)) ∧ Drew w w' := by
  obtain ⟨m, hm⟩ : ∃ m, m = min a.length b.length := ⟨_, rfl⟩
  have hma : m ≤ a.length := by omega
  have hmb : m ≤ b.length := by omega
  have hmin : min (a.length : Int) (b.length : Int) = (m : Int) := by omega
  have HM := Lib.hid hm
  clear hm
  go_enter Tryd.func46, Tryd.ntmps46
  go_wp2
  go_loopw [12] (fun i wr => ∃ k : Nat, k ≤ m ∧ i = .int .i64 k ∧ Hid (Nm.cmpN (a.drop k) (b.drop k) = Nm.cmpN a b) ∧ Drew w wr) (fun i _ => m + 1 - (intOf i).toNat)
  case atStart => exact ⟨0, by omega, rfl, Lib.hid rfl, Drew.refl _⟩
  case round =>
    obtain ⟨k, hk, rfl, hv, hd⟩ := hrel
    by_cases hlt : k < m
    · have hka : k < a.length := by omega
      have hkb : k < b.length := by omega
      have hca : ((⟨a.toArray⟩ : ByteArray)[k]'hka) = a[k] := rfl
      have hcb : ((⟨b.toArray⟩ : ByteArray)[k]'hkb) = b[k] := rfl
      have hst := Nm.cmpN_step hka hkb hv.out
      have HS := Lib.hid hst
      clear hst
      by_cases hz : Nm.cmpI (Nm.small a[k]).toNat (Nm.small b[k]).toNat = 0
      · have HZ := Lib.hid hz
        have hz1 : (Nm.cmpI (Nm.small a[k]).toNat (Nm.small b[k]).toNat != 0) = false := by rw [bne_eq_false_iff_eq]; exact hz
        clear hz
        go_wp2
        go_quiet ((first | (go_at_call 42; exact Calls.quiet_of_same ((small_any _ _).mono fun _ _ h => ⟨h.1, h.2.symm⟩)) | (go_at_call 54; exact Calls.quiet_of_same ((cmpByte_any _ _ _).mono fun _ _ h => ⟨h.1, h.2.symm⟩))))
        go_wp2
        go_roundw
        case rel => exact ⟨k + 1, by omega, by go_num, Lib.hid (HS.out.1 HZ.out), hd.drewN _⟩
        case measure => simp [intOf]; omega
      · have HZ := Lib.hid hz
        have hz1 : (Nm.cmpI (Nm.small a[k]).toNat (Nm.small b[k]).toNat != 0) = true := by rw [bne_iff_ne]; exact hz
        clear hz
        go_wp2
        go_quiet ((first | (go_at_call 42; exact Calls.quiet_of_same ((small_any _ _).mono fun _ _ h => ⟨h.1, h.2.symm⟩)) | (go_at_call 54; exact Calls.quiet_of_same ((cmpByte_any _ _ _).mono fun _ _ h => ⟨h.1, h.2.symm⟩))))
        go_wp2
        go_ret
        exact ⟨ret_int (HS.out.2 HZ.out).symm, hd.drewN _⟩
    · have hf := Nm.cmpN_end (k := k) (by have := HM.out; omega) hv.out
      have HF := Lib.hid hf
      clear hf
      go_wp2_with (go_at_call 55; refine (cmpInt_any _ _ _).mono ?_; rintro e w' ⟨rfl, rfl⟩)
      go_ret
      exact ⟨ret_int HF.out.symm, hd⟩

set_option maxHeartbeats 1000000 in
theorem same_any (a b : List UInt8) (w : World) (ha : a.length ≤ 100000) (hb : b.length ≤ 100000) :
    Calls Tryd.prog 28 #[.string ⟨a.toArray⟩, .string ⟨b.toArray⟩] w fun e w' => e = .returned (.bool (Nm.same a b)) ∧ Drew w w' := by
  by_cases hl : a.length = b.length
  · have hl1 : ((a.length : Int) == (b.length : Int)) = true := by rw [beq_iff_eq]; omega
    cases hva : Nm.valid a
    · have H := Lib.hid (show Nm.same a b = false by simp [Nm.same, hva])
      have HA := Lib.hid hva
      clear hva
      go_enter Tryd.func28, Tryd.ntmps28
      go_wp2_with (go_at_call 15; refine (valid_any _ _ ha).mono ?_; rw [HA.out]; rintro e w' ⟨rfl, rfl⟩)
      go_ret
      exact ⟨ret_bool H.out.symm, Drew.refl _⟩
    · have HA := Lib.hid hva
      cases hvb : Nm.valid b
      · have H := Lib.hid (show Nm.same a b = false by simp [Nm.same, hvb])
        have HB := Lib.hid hvb
        clear hva hvb hl
        go_enter Tryd.func28, Tryd.ntmps28
        go_wp2_with (go_at_call 15; first | ((with_reducible refine (valid_any a _ ha).mono ?_); rw [HA.out]; rintro e w' ⟨rfl, rfl⟩) | ((with_reducible refine (valid_any b _ hb).mono ?_); rw [HB.out]; rintro e w' ⟨rfl, rfl⟩))
        go_ret
        exact ⟨ret_bool H.out.symm, Drew.refl _⟩
      · have H := Lib.hid (show Nm.same a b = (Nm.cmpN a b == 0) by rw [Bool.eq_iff_iff]; simp [Nm.same, hva, hvb, Nm.cmpN_zero])
        have HB := Lib.hid hvb
        clear hva hvb hl
        go_enter Tryd.func28, Tryd.ntmps28
        go_wp2_with (first | (go_at_call 15; first | ((with_reducible refine (valid_any a _ ha).mono ?_); rw [HA.out]; rintro e w' ⟨rfl, rfl⟩) | ((with_reducible refine (valid_any b _ hb).mono ?_); rw [HB.out]; rintro e w' ⟨rfl, rfl⟩)) | (go_at_call 46; refine (compare_any a b _ ha hb).mono ?_; rintro e w' ⟨rfl, hd⟩))
        go_ret
        exact ⟨ret_bool H.out.symm, hd⟩
  · have H := Lib.hid (show Nm.same a b = false by exact Nm.same_len hl)
    have hl1 : ((a.length : Int) == (b.length : Int)) = false := by rw [beq_eq_false_iff_ne]; omega
    clear hl
    go_enter Tryd.func28, Tryd.ntmps28
    go_wp2
    go_ret
    exact ⟨ret_bool H.out.symm, Drew.refl _⟩
end Go.Proofs.YtiodfiegknkceaaDoor
