/- The document's own Fold (freshetref1). -/
import Derived.Test.YtnnoooecbbkggaaDoorRValid
import Derived.Test.YtnnoooecbbkggaaDoorFold
namespace Go.Proofs.YtnnoooecbbkggaaDoor
open Go.RowKit Go.Shelf
attribute [local go_sem] Oper.semAt_some

set_option maxRecDepth 100000 in
set_option maxHeartbeats 2000000 in
theorem rfold_any (n : List UInt8) (w : World) (hs : n.length ≤ 100000) :
    Calls Tryd.prog 37 #[.string ⟨n.toArray⟩] w fun e w' => e = .returned (.string ⟨(Nm.fold n).toArray⟩) ∧ Below w.heap.size w w' := by
  cases hv : Nm.valid n
  · have H := Lib.hid (show Nm.fold n = n by unfold Nm.fold; rw [hv]; rfl)
    have HV := Lib.hid hv
    clear hv
    go_enter Tryd.func37, Tryd.ntmps37
    go_wp2_with (go_at_call 35; refine (rvalid_any n _ hs).mono ?_; rw [HV.out]; rintro e w' ⟨rfl, hb⟩)
    go_ret
    exact ⟨ret_str H.out.symm, hb⟩
  · have H := Lib.hid (show Nm.fold n = Nm.folded n by unfold Nm.fold; rw [hv]; rfl)
    have HV := Lib.hid hv
    clear hv
    go_enter Tryd.func37, Tryd.ntmps37
    go_wp2_with fail
    refine (rvalid_any n _ hs).mono ?_
    rw [HV.out]
    rintro e w1 ⟨rfl, b1⟩
    have hcv := Lib.run_convert_string_bytes (P := Tryd.prog) w1 9 70 5 ⟨n.toArray⟩ Tryd.underlying9 Tryd.underlying70 Tryd.underlying5
    have hr0 := row8_conv w1 5 n
    have hb0 := below_trans b1 (Lib.bytesWorld_below w1 5 ⟨n.toArray⟩)
    have hsz : (⟨n.toArray⟩ : ByteArray).size = n.length := by show n.toArray.size = _; simp
    generalize grownCap w1 (⟨n.toArray⟩ : ByteArray).size 0 5 = cap at hcv
    rw [hsz] at hcv
    generalize Lib.bytesWorld w1 5 ⟨n.toArray⟩ = W0 at *
    clear hsz
    have hw1 := b1.size
    go_wp2
    go_loopw [4] (fun i wr => ∃ k : Nat, k ≤ n.length ∧ i = .int .i64 k ∧ Hid (Row8 w1.heap.size (Nm.foldTo n k) wr) ∧ Below w.heap.size w wr) (fun i _ => n.length + 1 - (intOf i).toNat)
    case atStart => exact ⟨0, by omega, rfl, Lib.hid (by rw [Nm.foldTo_zero]; exact hr0), hb0⟩
    case round =>
      obtain ⟨k, hk, rfl, hr, hb⟩ := hrel
      by_cases hlt : k < n.length
      · obtain ⟨c1, f1⟩ := hr.out k (by rw [Nm.foldTo_length]; exact hlt)
        rw [Nm.foldTo_get hlt] at c1
        have hst := Lib.hid (Nm.foldTo_set hlt)
        have hset := Lib.hid (fun c => hr.out.set (by rw [Nm.foldTo_length]; exact hlt) (c := c) (k := k))
        have hskip : Hid (Nm.small n[k] = n[k] → Row8 w1.heap.size (Nm.foldTo n (k + 1)) wr) := Lib.hid (fun e => by
          have := hr.out
          rw [← hst.out, e, ← Nm.foldTo_get hlt, List.set_getElem_self]
          exact this)
        obtain ⟨c, hcc⟩ : ∃ c, c = n[k] := ⟨_, rfl⟩
        rw [← hcc] at c1 hst hskip
        have hc255 : c.toNat ≤ 255 := by have := c.toNat_lt; omega
        clear hcc
        by_cases h : 65 ≤ c.toNat ∧ c.toNat ≤ 90
        · have h1 := hset.out (Nm.small c)
          rw [hst.out, Nm.small_yes h.1 h.2] at h1
          have H1 := Lib.hid h1
          obtain ⟨h2, h3⟩ := h
          clear h1
          go_wp2
          go_roundw
          case rel => exact ⟨k + 1, by omega, by go_num, H1, hb.setCell (p := ⟨w1.heap.size, k, none⟩) hw1 _⟩
          case measure => simp [intOf]; omega
        · have H1 := Lib.hid (hskip.out (Nm.small_no h))
          have hcase : c.toNat < 65 ∨ (65 ≤ c.toNat ∧ 90 < c.toNat) := by omega
          clear h
          rcases hcase with h1 | ⟨h1, h2⟩
          all_goals
            go_wp2
            go_roundw
            case rel => exact ⟨k + 1, by omega, by go_num, H1, hb⟩
            case measure => simp [intOf]; omega
      · obtain rfl : k = n.length := by omega
        have hst := (hr.out).str (cap := cap) (src := 70) (dst := 9) (P := Tryd.prog) Tryd.underlying70 Tryd.underlying5 Tryd.underlying9
        rw [Nm.foldTo_length, Nm.foldTo_end] at hst
        go_wp2
        go_ret
        exact ⟨ret_str H.out.symm, hb⟩

end Go.Proofs.YtnnoooecbbkggaaDoor
