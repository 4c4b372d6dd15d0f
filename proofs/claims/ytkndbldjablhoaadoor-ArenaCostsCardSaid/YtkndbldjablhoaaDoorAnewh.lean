/- newHandles. -/
import Derived.Test.YtkndbldjablhoaaDoorAnewc
set_option maxRecDepth 100000
namespace Go.Proofs.YtkndbldjablhoaaDoor
open Go.RowKit Go.Shelf
theorem make_one {t e : TypeId} {z : Value} {bytes : Nat} (h1 : Tryd.prog.underlying t = some (.slice e)) (h2 : (Tryd.prog.info? e).map (fun i => (i.zero, i.size, i.bytes)) = some (some z, 1, bytes)) (hb : bytes ≤ 8) (hz : z.cells = #[z]) (c : Int) (n : Nat) (hc : c = (n : Int)) (hn : n ≤ 10000000) (w : World) :
    (Instr.makeSlice t (.int .i64 c) (.int .i64 c)).run Tryd.prog w = .ok (.slice (some ⟨w.heap.size, 0, none⟩) n n) (w.alloc (.cells (List.replicate n z).toArray e)) := by
  subst hc
  obtain ⟨i, hi, hz0, hz1, hz2⟩ := info_parts h2
  have hle : (bytes : Int) * (n : Int) ≤ 281474976710656 := by
    rw [← Int.natCast_mul]
    have : bytes * n ≤ 8 * 10000000 := Nat.mul_le_mul hb hn
    omega
  have h := run_make (P := Tryd.prog) w t e i z h1 hi hz0 .i64 .i64 n n (by omega) (by omega) (by rw [hz2]; exact hle) (by omega)
  rw [h, hz1, hz]
  have e2 : madeCells #[z] ((n : Int).toNat * 1) = (List.replicate n z).toArray := by
    apply Array.toList_inj.1
    rw [toList_madeCells_one]
    simp
  rw [e2]
  rfl
theorem infoI32 : (Tryd.prog.info? 21).map (fun i => (i.zero, i.size, i.bytes)) = some (some (.int .i32 0), 1, 4) := by kernel_rfl
theorem infoU64 : (Tryd.prog.info? 87).map (fun i => (i.zero, i.size, i.bytes)) = some (some (.int .u64 0), 1, 8) := by kernel_rfl
theorem infoU8 : (Tryd.prog.info? 5).map (fun i => (i.zero, i.size, i.bytes)) = some (some (.int .u8 0), 1, 1) := by kernel_rfl
theorem Blk.at1 (w : World) (o : Obj) (l : List Value) (t : TypeId) : Blk ((w.alloc o).alloc (.cells l.toArray t)) (w.heap.size + 1) l t := by
  have := Blk.new (w.alloc o) l t
  rwa [World.size_alloc] at this
theorem Blk.at2 (w : World) (o o2 : Obj) (l : List Value) (t : TypeId) : Blk (((w.alloc o).alloc o2).alloc (.cells l.toArray t)) (w.heap.size + 1 + 1) l t := by
  have := Blk.new ((w.alloc o).alloc o2) l t
  rwa [World.size_alloc, World.size_alloc] at this
def HandRet (k : Nat) (w : World) (e : Ending) (w' : World) : Prop := ∃ P U, e = .returned (.agg #[.slice (some ⟨P, 0, none⟩) (k * 64) (k * 64), .slice (some ⟨U, 0, none⟩) k k, .int .i64 0]) ∧ Blk w' P (List.replicate (k * 64) (.int .i32 0)) 21 ∧ Blk w' U (List.replicate k (.int .u64 0)) 87 ∧ w.heap.size ≤ P ∧ w.heap.size ≤ U ∧ Below w.heap.size w w'
set_option maxHeartbeats 4000000 in
theorem newHandles_any (z : Int) (most k : Nat) (w : World) (hz : z = (most : Int)) (hm : most ≤ 65536) (hk : k = (most + 63) / 64) : Calls Tryd.prog 29 #[.int .i64 z] w (HandRet k w) := by
  subst hz
  have e1 : ((most : Int) + 64 - 1) / 64 = (k : Int) := by omega
  have hk2 : k ≤ 1024 := by omega
  have m1 := make_one Tryd.underlying63 infoI32 (by omega) rfl ((k : Int) * 64) (k * 64) (by omega) (by omega)
  have m2 := make_one Tryd.underlying64 infoU64 (by omega) rfl (k : Int) k rfl (by omega)
  have hw1 : IntKind.i64.wrap ((k : Int) * 64) = (k : Int) * 64 := by rw [IntKind.wrap_i64]; omega
  have E1 := Lib.hid e1
  clear e1 hk
  go_enter Tryd.func29, Tryd.ntmps29
  go_wp2
  rw [E1.out]
  go_region
  · go_wp2
    simp only [← List.toArray_replicate]
    refine bodyPost_ret (v := .agg #[.slice (some ⟨w.heap.size + 1, 0, none⟩) (k * 64) (k * 64), .slice (some ⟨w.heap.size + 1 + 1, 0, none⟩) k k, .int .i64 0]) (by simp [results, Tryd.results29, go_sem]) rfl ⟨_, _, rfl, ?_, ?_, by omega, by omega, ?_⟩
    · exact ((Blk.at1 w _ (List.replicate (k * 64) (.int .i32 0)) 21).alloc _)
    · exact (Blk.at2 w _ _ (List.replicate k (.int .u64 0)) 87)
    · exact ((((Below.refl _ _).alloc (Nat.le_refl _) _).alloc (by simp) _).alloc (by simp; omega) _).drew
  · go_wp2
    simp only [← List.toArray_replicate]
    refine bodyPost_ret (v := .agg #[.slice (some ⟨w.heap.size + 1 + 1, 0, none⟩) (k * 64) (k * 64), .slice (some ⟨w.heap.size + 1, 0, none⟩) k k, .int .i64 0]) (by simp [results, Tryd.results29, go_sem]) rfl ⟨_, _, rfl, ?_, ?_, by omega, by omega, ?_⟩
    · exact (Blk.at2 w _ _ (List.replicate (k * 64) (.int .i32 0)) 21)
    · exact ((Blk.at1 w _ (List.replicate k (.int .u64 0)) 87).alloc _)
    · exact ((((Below.refl _ _).alloc (Nat.le_refl _) _).alloc (by simp) _).alloc (by simp; omega) _).drew
end Go.Proofs.YtkndbldjablhoaaDoor
