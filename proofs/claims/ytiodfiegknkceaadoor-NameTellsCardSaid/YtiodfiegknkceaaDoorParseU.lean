/- strconv.ParseUint(s, 10, 8) at three bytes. -/
import Derived.Test.YtiodfiegknkceaaDoorPlaces
import Derived.Lib.AtoiErrMem
namespace Go.Proofs.YtiodfiegknkceaaDoor
open Go.RowKit Go.Shelf

/-- The library's two errors lie where they should. -/
def VarsOk (w : World) : Prop :=
  (∃ te pe, w.cell? ⟨0, 0, none⟩ = some (.iface te pe)) ∧ (∃ te pe, w.cell? ⟨1, 0, none⟩ = some (.iface te pe))
theorem VarsOk.below {w w' : World} (h : VarsOk w) (hb : Below w.heap.size w w') : VarsOk w' := by
  obtain ⟨⟨a, b, h1⟩, ⟨c, d, h2⟩⟩ := h
  exact ⟨⟨a, b, (hb.cell (cell_lt h1)).trans h1⟩, ⟨c, d, (hb.cell (cell_lt h2)).trans h2⟩⟩


theorem parseU_ok (q : List UInt8) (u : Nat) (h : Lib.parseUintB 8 q = .ok u) (hq : q.length ≤ 3) (w : World) :
    Calls Tryd.prog 56 #[.string ⟨q.toArray⟩, .int .i64 10, .int .i64 8] w fun e w' => e = .returned (.tuple #[.int .u64 (u : Int), .nilIface]) ∧ Below w.heap.size w w' :=
  (show Calls Tryd.prog 56 #[.string ⟨q.toArray⟩, .int .i64 10, .int .i64 8] w _ from
    Any.strconv_ParseUint_10_at8_ok Tryd.laysPu14 ⟨q.toArray⟩ (by show q.toArray.size ≤ _; simp; omega) u h w).mono fun _ _ ⟨he, hw⟩ =>
      ⟨he, hw.elim (fun e => by rw [e]; exact Below.refl _ _) (fun e => by rw [e]; exact Lib.bytesWorld_below _ _ _)⟩

def BadU (w : World) (e : Ending) (w' : World) : Prop := ∃ (t : TypeId) (N : Nat) (u : Int), e = .returned (.tuple #[.int .u64 u, .iface t (.pointer (some ⟨N, 0, none⟩))]) ∧ Below w.heap.size w w'

theorem parseU_bad (q : List UInt8) (h : ∀ u, Lib.parseUintB 8 q ≠ .ok u) (hq : q.length ≤ 3) (w : World) (hv : VarsOk w) :
    Calls Tryd.prog 56 #[.string ⟨q.toArray⟩, .int .i64 10, .int .i64 8] w (BadU w) := by
  obtain ⟨⟨te, pe, hv1⟩, ⟨te2, pe2, hv2⟩⟩ := hv
  have hs : (⟨q.toArray⟩ : ByteArray).size ≤ 281474976710656 := by show q.toArray.size ≤ _; simp; omega
  cases hp : Lib.parseUintB 8 q with
  | ok u => exact absurd hp (h u)
  | range =>
    exact (show Calls Tryd.prog 56 #[.string ⟨q.toArray⟩, .int .i64 10, .int .i64 8] w _ from
      Any.strconv_ParseUint_10_at8_range Tryd.laysPu14 ⟨q.toArray⟩ hs hp _ w hv2 (.inr ⟨te2, pe2, rfl⟩)).mono fun _ _ ⟨N, he, _, _, hb⟩ => ⟨_, N, _, he, hb⟩
  | _ =>
    exact (show Calls Tryd.prog 56 #[.string ⟨q.toArray⟩, .int .i64 10, .int .i64 8] w _ from
      Any.strconv_ParseUint_10_at8_syntax Tryd.laysPu14 ⟨q.toArray⟩ hs hp _ w hv1 (.inr ⟨te, pe, rfl⟩)).mono fun _ _ ⟨N, he, _, _, hb⟩ => ⟨_, N, _, he, hb⟩
end Go.Proofs.YtiodfiegknkceaaDoor
