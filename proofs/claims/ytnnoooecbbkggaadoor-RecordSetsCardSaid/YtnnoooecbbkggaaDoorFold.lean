/- Fold. -/
import Derived.Test.YtnnoooecbbkggaaDoorFoldMath
import Derived.Test.YtnnoooecbbkggaaDoorValid
import Derived.OwnWalkIn
import Derived.TacticsInMore
import Derived.LoopNIn
import Derived.LoopIn
import Derived.Lib.ConvBytes
import Derived.Lib.AtoiErrMem
namespace Go.Proofs.YtnnoooecbbkggaaDoor
open Go.RowKit Go.Shelf
attribute [local go_sem] Oper.semAt_some

/-- A row of bytes that may be written. -/
def Row8 (g : Nat) (L : List UInt8) (W : World) : Prop := ∀ (j : Nat) (h : j < L.length), W.cell? ⟨g, j, none⟩ = some (.int .u8 (L[j].toNat : Int)) ∧ W.frozen? ⟨g, j, none⟩ = false
theorem Row8.set {g k : Nat} {L : List UInt8} {W : World} (h : Row8 g L W) (hk : k < L.length) (c : UInt8) : Row8 g (L.set k c) (W.setCell ⟨g, k, none⟩ (.int .u8 (c.toNat : Int))) := by
  intro j hj
  rw [List.length_set] at hj
  obtain ⟨h1, h2⟩ := h j hj
  refine ⟨?_, by rw [World.frozen?_setCell]; exact h2⟩
  by_cases e : j = k
  · subst e
    rw [World.cell?_setCell_same' _ _ _ (by rw [h1]; rfl)]
    simp
  · rw [World.cell?_setCell_other _ _ _ _ (by intro e'; cases e'; exact e rfl), h1, List.getElem_set_ne (Ne.symm e)]
theorem row8_conv (w : World) (e : TypeId) (l : List UInt8) : Row8 w.heap.size l (Lib.bytesWorld w e ⟨l.toArray⟩) := by
  intro j hj
  have hs : j < (⟨l.toArray⟩ : ByteArray).size := by show j < l.toArray.size; simpa using hj
  refine ⟨?_, ?_⟩
  · rw [Lib.bytesWorld_cell w e ⟨l.toArray⟩ j hs]
    simp [List.getD, hj]
  · simp [World.frozen?, Lib.bytesWorld_at_new]
    have : l.length ≤ (Lib.bytesCells w e ⟨l.toArray⟩).size := by simp [Lib.bytesCells]
    omega
theorem Row8.str {g cap : Nat} {L : List UInt8} {W : World} (h : Row8 g L W) {src dst e : TypeId} {P : Program} (hs : P.underlying src = some (.slice e)) (he : P.underlying e = some (.int .u8)) (hd : P.underlying dst = some .string) :
    (convert src dst (.slice (some ⟨g, 0, none⟩) L.length cap)).run P W = .ok (.string ⟨L.toArray⟩) W :=
  run_convert_bytes_back W src dst e ⟨g, 0, none⟩ cap L hs he hd (fun j hj => by
    have e : (⟨g, 0, none⟩ : Addr).add j = ⟨g, j, none⟩ := by unfold Addr.add; split <;> simp_all
    rw [e]; exact (h j hj).1)


set_option maxHeartbeats 400000 in
theorem small_any (c : UInt8) (w : World) :
    Calls Tryd.prog 67 #[.int .u8 (c.toNat : Int)] w fun e w' => e = .returned (.int .u8 ((Nm.small c).toNat : Int)) ∧ w = w' := by
  by_cases h1 : 65 ≤ c.toNat
  · by_cases h2 : c.toNat ≤ 90
    · have H := Lib.hid (Nm.small_yes h1 h2)
      go_enter Tryd.func67, Tryd.ntmps67
      go_wp2
      go_ret
      exact ⟨ret_int H.out.symm, rfl⟩
    · have H := Lib.hid (Nm.small_no (c := c) (by omega))
      go_enter Tryd.func67, Tryd.ntmps67
      go_wp2
      go_ret
      exact ⟨ret_int (by rw [H.out]), rfl⟩
  · have H := Lib.hid (Nm.small_no (c := c) (by omega))
    go_enter Tryd.func67, Tryd.ntmps67
    go_wp2
    go_ret
    exact ⟨ret_int (by rw [H.out]), rfl⟩

set_option maxRecDepth 100000 in
set_option maxHeartbeats 2000000 in
theorem fold_any (n : List UInt8) (w : World) (hs : n.length ≤ 100000) :
    Calls Tryd.prog 65 #[.string ⟨n.toArray⟩] w fun e w' => e = .returned (.string ⟨(Nm.fold n).toArray⟩) ∧ Below w.heap.size w w' := by
  cases hv : Nm.valid n
  · have H := Lib.hid (show Nm.fold n = n by unfold Nm.fold; rw [hv]; rfl)
    have HV := Lib.hid hv
    clear hv
    go_enter Tryd.func65, Tryd.ntmps65
    go_wp2_with (first | (go_at_call 43; refine (valid_any n _ hs).mono ?_; rw [HV.out]; rintro e w' ⟨rfl, rfl⟩) | (go_at_call 46; refine (clone_any n _ (by omega)).mono ?_; rintro e w2 ⟨rfl, hb⟩))
    go_ret
    exact ⟨ret_str H.out.symm, hb⟩
  · have H := Lib.hid (show Nm.fold n = Nm.folded n by unfold Nm.fold; rw [hv]; rfl)
    have HV := Lib.hid hv
    clear hv
    have hcv := Lib.run_convert_string_bytes (P := Tryd.prog) w 9 70 5 ⟨n.toArray⟩ Tryd.underlying9 Tryd.underlying70 Tryd.underlying5
    have hr0 := row8_conv w 5 n
    have hb0 := Lib.bytesWorld_below w 5 ⟨n.toArray⟩
    have hsz : (⟨n.toArray⟩ : ByteArray).size = n.length := by show n.toArray.size = _; simp
    generalize grownCap w (⟨n.toArray⟩ : ByteArray).size 0 5 = cap at hcv
    rw [hsz] at hcv
    generalize Lib.bytesWorld w 5 ⟨n.toArray⟩ = W0 at *
    clear hsz
    go_enter Tryd.func65, Tryd.ntmps65
    go_wp2_with (go_at_call 43; refine (valid_any n _ hs).mono ?_; rw [HV.out]; rintro e w' ⟨rfl, rfl⟩)
    go_loopw [15] (fun i wr => ∃ k : Nat, k ≤ n.length ∧ i = .int .i64 k ∧ Hid (Row8 w.heap.size (Nm.foldTo n k) wr) ∧ Below w.heap.size w wr) (fun i _ => n.length + 1 - (intOf i).toNat)
    case atStart => exact ⟨0, by omega, rfl, Lib.hid (by rw [Nm.foldTo_zero]; exact hr0), hb0⟩
    case round =>
      obtain ⟨k, hk, rfl, hr, hb⟩ := hrel
      by_cases hlt : k < n.length
      · obtain ⟨c1, f1⟩ := hr.out k (by rw [Nm.foldTo_length]; exact hlt)
        rw [Nm.foldTo_get hlt] at c1
        go_wp2_with (go_at_call 67; refine (small_any n[k] _).mono ?_; rintro e w' ⟨rfl, rfl⟩)
        go_roundw
        case rel => exact ⟨k + 1, by omega, by go_num, Lib.hid (by rw [← Nm.foldTo_set hlt]; exact hr.out.set (by rw [Nm.foldTo_length]; exact hlt) _), hb.setCell (p := ⟨w.heap.size, k, none⟩) (Nat.le_refl _) _⟩
        case measure => simp [intOf]; omega
      · obtain rfl : k = n.length := by omega
        have hst := (hr.out).str (cap := cap) (src := 70) (dst := 9) (P := Tryd.prog) Tryd.underlying70 Tryd.underlying5 Tryd.underlying9
        rw [Nm.foldTo_length, Nm.foldTo_end] at hst
        go_wp2
        go_ret
        exact ⟨ret_str H.out.symm, hb⟩
end Go.Proofs.YtnnoooecbbkggaaDoor
