/- A slice of booleans as an argument, opened. -/
import Derived.Test.YtipabiiffaipdaaFrame
import Derived.Test.YtipabiiffaipdaaBackOwn
import Derived.Deep.Grids
namespace Go.Proofs.Ytipabiiffaipdaa
open Go.ChangeShapes Go.WideShapes Go.ChangeAt Go.RowKit
theorem arg_bools {H : Type} {enc : TypeId × Value → H} {W : World} {b0 : Nat} {v : Value} {d : DataW H} {ps : List MemPlace} (hval : Value.okWide Try.prog W .any b0 49 v) (hd : DataW.Trod enc Try.prog W 0 (fun _ => true) true 49 v d ps) :
    ∃ bs : List Bool, ReadO v bs W ∧ bs.length ≤ maxLen := by
  obtain ⟨a0, len, cap, rfl⟩ := okWide_slice Try.underlying49 hval
  obtain ⟨fuel, hf⟩ := hd
  rcases Go.Deep.open_bools Try.underlying49 Try.underlying4 (by kernel_rfl) hf with ⟨hcs, _⟩ | ⟨a, len', cap', F, hcs, _, hle, hmax, _, hc⟩
  · simp [Value.cells] at hcs
    obtain ⟨rfl, rfl, rfl⟩ := hcs
    exact ⟨[], ⟨none, 0, rfl, fun j hj => by simp at hj⟩, zero_maxLen⟩
  · simp [Value.cells] at hcs
    obtain ⟨rfl, rfl, rfl⟩ := hcs
    refine ⟨(List.range len).map F, ⟨some a, cap, by simp, fun j hj => ?_⟩, by simp; omega⟩
    rw [List.length_map, List.length_range] at hj
    have h0 := hc 0 (by omega)
    obtain ⟨b, off, spot⟩ := a
    have hspot : spot = none := by simpa [Addr.add] using World.cell?_spot h0
    subst hspot
    refine ⟨b, off, rfl, ?_⟩
    have h1 := hc j (by omega)
    rw [add_plain] at h1
    rw [h1, List.getElem_map, List.getElem_range]
end Go.Proofs.Ytipabiiffaipdaa
