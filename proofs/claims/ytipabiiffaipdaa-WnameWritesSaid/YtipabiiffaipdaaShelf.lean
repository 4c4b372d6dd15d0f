/- The shelf's layings at this translation, in plain words: a table of numbers each, and one theorem, a field a fact of the translation. -/
import Derived.Shelf.Pu.Clone
import Derived.Test.YtipabiiffaipdaaProg
namespace Go.Proofs.Ytipabiiffaipdaa
open Go.Shelf
def Try.laysPu25_ren : Go.Shelf.Ren := ⟨fun | 25 => 40 | n => n, fun | 9 => 9 | 3 => 3 | 4 => 4 | 37 => 22 | 0 => 0 | 47 => 78 | 5 => 5 | n => n, fun | n => n⟩
theorem Try.laysPu25 : Go.Proofs.LaysPu.n25 Try.prog Try.laysPu25_ren := {
  mixed := by kernel_rfl
  f25 := Try.func40.trans (congrArg some (by kernel_rfl))
  t0 := Try.underlying0
  a0 := Try.isAgg0
  z0 := Try.sizeOf0
  v0 := Try.zeroValue0
  i0 := by kernel_rfl
  t3 := Try.underlying3
  a3 := Try.isAgg3
  z3 := Try.sizeOf3
  v3 := Try.zeroValue3
  i3 := by kernel_rfl
  t4 := Try.underlying4
  a4 := Try.isAgg4
  z4 := Try.sizeOf4
  v4 := Try.zeroValue4
  i4 := by kernel_rfl
  t5 := Try.underlying5
  a5 := Try.isAgg5
  z5 := Try.sizeOf5
  v5 := Try.zeroValue5
  i5 := by kernel_rfl
  t9 := Try.underlying9
  a9 := Try.isAgg9
  z9 := Try.sizeOf9
  v9 := Try.zeroValue9
  i9 := by kernel_rfl
  t37 := Try.underlying22
  a37 := Try.isAgg22
  z37 := Try.sizeOf22
  v37 := Try.zeroValue22
  i37 := by kernel_rfl
  t47 := Try.underlying78
  a47 := Try.isAgg78
  z47 := Try.sizeOf78
  v47 := Try.zeroValue78
  i47 := by kernel_rfl }
end Go.Proofs.Ytipabiiffaipdaa
