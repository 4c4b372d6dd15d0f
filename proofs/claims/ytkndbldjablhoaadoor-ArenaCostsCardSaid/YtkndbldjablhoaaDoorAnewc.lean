/- newChains, newHandles. -/
import Derived.Test.YtkndbldjablhoaaDoorApush
import Derived.Test.YtkndbldjablhoaaDoorAhan
import Derived.Laws.MakeOwn
import Derived.Laws.OwnMore
set_option maxRecDepth 100000
namespace Go.Proofs.YtkndbldjablhoaaDoor
open Go.RowKit Go.Shelf
namespace Ar
def ring (k : Nat) : List Node := (List.range 17).map fun i => if i < k then ⟨0, i, i⟩ else ⟨0, 0, 0⟩
def ring0 : List Node := ring 17
theorem ring_len (k : Nat) : (ring k).length = 17 := by simp [ring]
theorem ring_step : ∀ k : Fin 17, link (ring k.1) k.1 k.1 = ring (k.1 + 1) := by decide +kernel
theorem ring_zero : ring 0 = List.replicate 17 ⟨0, 0, 0⟩ := by decide +kernel
end Ar
theorem make_ring (w : World) : (Instr.makeSlice 68 (.int .i64 17) (.int .i64 17)).run Tryd.prog w = .ok (.slice (some ⟨w.heap.size, 0, none⟩) 17 17) (w.alloc (.cells (encNs (Ar.ring 0)).toArray 99)) := by
  obtain ⟨i, hi, hz0, hz1, hz2⟩ := info_parts infoN
  have h := run_make (P := Tryd.prog) w 68 99 i _ Tryd.underlying68 hi hz0 .i64 .i64 17 17 (by omega) (by omega) (by rw [hz2]; decide) (by decide)
  rw [h, hz1]
  have e : madeCells (Value.agg #[.int .i64 0, .int .i64 0, .int .i64 0]).cells ((17 : Int).toNat * 3) = (encNs (Ar.ring 0)).toArray := by kernel_rfl
  rw [e]
  rfl
def RingRet (w : World) (e : Ending) (w' : World) : Prop := ∃ N, e = .returned (.agg #[.slice (some ⟨N, 0, none⟩) 17 17, .int .i64 0]) ∧ Blk w' N (encNs Ar.ring0) 99 ∧ w.heap.size ≤ N ∧ Below w.heap.size w w'
set_option maxHeartbeats 4000000 in
theorem newChains_any (w : World) : Calls Tryd.prog 30 #[.int .i64 17] w (RingRet w) := by
  go_enter Tryd.func30, Tryd.ntmps30
  have hmk := make_ring
  have h0 : Hid (ChE (w.heap.size + 1 + 1) 0 70 [.slice (some ⟨w.heap.size + 1, 0, none⟩) 17 17, .int .i64 0] (w.heap.size + 1) 17 [] (Ar.ring 0) 0 (((w.alloc (.cells #[.slice none 0 0, .int .i64 0] 70)).alloc (.cells (encNs (Ar.ring 0)).toArray 99)).alloc (.cells #[.slice (some ⟨w.heap.size + 1, 0, none⟩) 17 17, .int .i64 0] 70))) := by
    have b1 := Blk.new (w.alloc (.cells #[.slice none 0 0, .int .i64 0] 70)) (encNs (Ar.ring 0)) 99
    have b2 := Blk.new ((w.alloc (.cells #[.slice none 0 0, .int .i64 0] 70)).alloc (.cells (encNs (Ar.ring 0)).toArray 99)) [.slice (some ⟨w.heap.size + 1, 0, none⟩) 17 17, .int .i64 0] 70
    rw [World.size_alloc] at b1
    rw [World.size_alloc, World.size_alloc] at b2
    exact Lib.hid ⟨b2, rfl, rfl, by rw [List.append_nil]; exact b1.alloc _, by simp [Ar.ring_len], by omega, by simp [Ar.ring_len], by unfold maxLen; omega⟩
  have h1 : Hid (Blk (((w.alloc (.cells #[.slice none 0 0, .int .i64 0] 70)).alloc (.cells (encNs (Ar.ring 0)).toArray 99)).alloc (.cells #[.slice (some ⟨w.heap.size + 1, 0, none⟩) 17 17, .int .i64 0] 70)) w.heap.size [.slice none 0 0, .int .i64 0] 70) := Lib.hid (((Blk.new w [.slice none 0 0, .int .i64 0] 70).alloc _).alloc _)
  have h2 : Hid (Below w.heap.size w (((w.alloc (.cells #[.slice none 0 0, .int .i64 0] 70)).alloc (.cells (encNs (Ar.ring 0)).toArray 99)).alloc (.cells #[.slice (some ⟨w.heap.size + 1, 0, none⟩) 17 17, .int .i64 0] 70))) := Lib.hid ((((Below.refl _ _).alloc (Nat.le_refl _) _).alloc (by simp) _).alloc (by simp; omega) _)
  go_wp2
  generalize hC : w.heap.size + 1 + 1 = C at *
  generalize hN : w.heap.size + 1 = N at *
  have hNw : w.heap.size < N := by omega
  clear hC hN hmk
  go_loopw [11] (fun i wr => ∃ k : Nat, k ≤ 17 ∧ i = .int .i64 (k : Int) ∧ Hid (ChE C 0 70 [.slice (some ⟨N, 0, none⟩) 17 17, .int .i64 0] N 17 [] (Ar.ring k) 0 wr) ∧ Hid (Blk wr w.heap.size [.slice none 0 0, .int .i64 0] 70) ∧ Hid (Below w.heap.size w wr)) (fun i _ => 17 - (intOf i).toNat)
  case atStart => exact ⟨0, by omega, rfl, h0, h1, h2⟩
  case round =>
    obtain ⟨k, hk, rfl, hc, hb, hw⟩ := hrel
    clear h0 h1 h2
    by_cases hlt : k < 17
    · go_wp2_with (go_at_call 50; (refine (link_any C 0 70 _ N 17 [] (Ar.ring k) 0 k k _ hc.out (by rw [Ar.ring_len]; exact hlt) (by rw [Ar.ring_len]; exact hlt)).mono ?_); rintro e w1 ⟨rfl, ht, hc1⟩; have hst := Lib.hid (Ar.ring_step ⟨k, hlt⟩); have hc2 : Hid (ChE C 0 70 [.slice (some ⟨N, 0, none⟩) 17 17, .int .i64 0] N 17 [] (Ar.ring (k + 1)) 0 w1) := Lib.hid (by have := hst.out; simp only at this; rw [← this]; exact hc1); have hb2 := Lib.hid (hb.out.trn ht (fun e => by omega)); have hw2 := Lib.hid (hw.out.trans (ht.below (n := w.heap.size) (fun j e => by omega) hw.out.size)); clear ht hc1 hst)
      go_roundw
      case rel => exact ⟨k + 1, by omega, by go_num, hc2, hb2, hw2⟩
      case measure => simp [intOf]; omega
    · obtain rfl : k = 17 := by omega
      have c0 := hc.out.box0.1
      have c1 := hc.out.box0.2
      have d0 := hb.out.cell (i := 0) rfl
      have d1 := hb.out.cell (i := 1) rfl
      have df := fun i => hb.out.frozen i
      unfold encI at c1
      rw [Ar.ring_len] at c0
      have hbb := (hb.out.set 0 (.slice (some ⟨N, 0, none⟩) 17 17)).set 1 (.int .i64 0)
      have y0 := hbb.cell (i := 0) rfl
      have y1 := hbb.cell (i := 1) rfl
      have hnn := (hc.out.nd.other (B' := w.heap.size) (by omega) 0 (.slice (some ⟨N, 0, none⟩) 17 17)).other (B' := w.heap.size) (by omega) 1 (.int .i64 0)
      rw [List.append_nil] at hnn
      have hww := (hw.out.setCell (p := ⟨w.heap.size, 0, none⟩) (Nat.le_refl _) (.slice (some ⟨N, 0, none⟩) 17 17)).setCell (p := ⟨w.heap.size, 1, none⟩) (Nat.le_refl _) (.int .i64 0)
      have R := Lib.hid (And.intro hnn hww)
      clear hnn hww hbb
      go_wp2
      generalize World.setCell (World.setCell wr _ _) _ _ = W at *
      exact bodyPost_ret (v := .agg #[.slice (some ⟨N, 0, none⟩) 17 17, .int .i64 0]) (by simp [results, Tryd.results30, go_sem, y0, y1]) rfl ⟨N, rfl, R.out.1, by omega, R.out.2⟩
end Go.Proofs.YtkndbldjablhoaaDoor
