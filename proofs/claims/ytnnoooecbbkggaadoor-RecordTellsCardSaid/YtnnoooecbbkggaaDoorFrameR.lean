/- An argument that is a record, opened. -/
import Derived.Test.YtnnoooecbbkggaaDoorFrame
namespace Go.Proofs.YtnnoooecbbkggaaDoor
open Go.ChangeShapes Go.WideShapes Go.ChangeAt Go.RowKit

section
variable {H : Type} {enc : TypeId × Value → H} {W : World}
theorem arg_rr {b0 : Nat} {v : Value} {d : DataW H} {ps : List MemPlace} (hval : Value.okWide Tryd.prog W .any b0 23 v) (hd : DataW.Trod enc Tryd.prog W 0 (fun _ => true) true 23 v d ps) :
    ∃ r : Rd.RR, v = rrV r ∧ r.name.length ≤ maxLen ∧ r.data.length ≤ maxLen ∧ (-9223372036854775808 ≤ r.typ ∧ r.typ ≤ 9223372036854775807) ∧ (-9223372036854775808 ≤ r.cls ∧ r.cls ≤ 9223372036854775807) ∧ (-9223372036854775808 ≤ r.ttl ∧ r.ttl ≤ 9223372036854775807) := by
  obtain ⟨cs, rfl, hsz⟩ := okWide_struct Tryd.underlying23 hval
  have h5 : Tryd.prog.cellsOf 23 = 5 := by kernel_rfl
  have hs1 : Tryd.prog.cellsOf 9 = 1 := by kernel_rfl
  have hi1 : Tryd.prog.cellsOf 3 = 1 := by kernel_rfl
  rw [h5] at hsz
  obtain ⟨l⟩ := cs
  obtain ⟨v0, v1, v2, v3, v4, rfl⟩ : ∃ v0 v1 v2 v3 v4, l = [v0, v1, v2, v3, v4] := by
    match l, hsz with
    | [v0, v1, v2, v3, v4], _ => exact ⟨v0, v1, v2, v3, v4, rfl⟩
  obtain ⟨fuel, hf⟩ := hd
  obtain ⟨xs, n, _, _, _, hxl, hff⟩ := DataW.trod_struct Tryd.underlying23 hf
  obtain ⟨y0, y1, y2, y3, y4, rfl⟩ : ∃ y0 y1 y2 y3 y4, xs = [y0, y1, y2, y3, y4] := by
    match xs, hxl with
    | [y0, y1, y2, y3, y4], _ => exact ⟨y0, y1, y2, y3, y4, rfl⟩
  have cut : ∀ k t, Tryd.prog.cellsOf t = 1 → ∀ u, [v0, v1, v2, v3, v4].drop k = u → (List.take (Tryd.prog.cellsOf t) (List.drop k (Value.agg ⟨[v0, v1, v2, v3, v4]⟩).cells.toList)) = u.take 1 := fun k t h u hu => by rw [h, ← hu]; rfl
  have e0 : DataW.trod enc Tryd.prog W 0 (fun _ => true) true n 9 [v0] = some y0 := by
    have h : DataW.trod enc Tryd.prog W 0 (fun _ => true) true n 9 (List.take (Tryd.prog.cellsOf 9) (List.drop 0 (Value.agg ⟨[v0, v1, v2, v3, v4]⟩).cells.toList)) = some y0 := hff 0 _ rfl
    rw [cut 0 _ hs1 [v0, v1, v2, v3, v4] rfl] at h
    exact h
  have e1 : DataW.trod enc Tryd.prog W 0 (fun _ => true) true n 3 [v1] = some y1 := by
    have h : DataW.trod enc Tryd.prog W 0 (fun _ => true) true n 3 (List.take (Tryd.prog.cellsOf 3) (List.drop 1 (Value.agg ⟨[v0, v1, v2, v3, v4]⟩).cells.toList)) = some y1 := hff 1 _ rfl
    rw [cut 1 _ hi1 [v1, v2, v3, v4] rfl] at h
    exact h
  have e2 : DataW.trod enc Tryd.prog W 0 (fun _ => true) true n 3 [v2] = some y2 := by
    have h : DataW.trod enc Tryd.prog W 0 (fun _ => true) true n 3 (List.take (Tryd.prog.cellsOf 3) (List.drop 2 (Value.agg ⟨[v0, v1, v2, v3, v4]⟩).cells.toList)) = some y2 := hff 2 _ rfl
    rw [cut 2 _ hi1 [v2, v3, v4] rfl] at h
    exact h
  have e3 : DataW.trod enc Tryd.prog W 0 (fun _ => true) true n 3 [v3] = some y3 := by
    have h : DataW.trod enc Tryd.prog W 0 (fun _ => true) true n 3 (List.take (Tryd.prog.cellsOf 3) (List.drop 3 (Value.agg ⟨[v0, v1, v2, v3, v4]⟩).cells.toList)) = some y3 := hff 3 _ rfl
    rw [cut 3 _ hi1 [v3, v4] rfl] at h
    exact h
  have e4 : DataW.trod enc Tryd.prog W 0 (fun _ => true) true n 9 [v4] = some y4 := by
    have h : DataW.trod enc Tryd.prog W 0 (fun _ => true) true n 9 (List.take (Tryd.prog.cellsOf 9) (List.drop 4 (Value.agg ⟨[v0, v1, v2, v3, v4]⟩).cells.toList)) = some y4 := hff 4 _ rfl
    rw [cut 4 _ hs1 [v4] rfl] at h
    exact h
  obtain ⟨⟨⟨a0⟩⟩, c0, _, b0⟩ := DataW.trod_string Tryd.underlying9 e0
  obtain ⟨z1, c1, _, b1⟩ := DataW.trod_int Tryd.underlying3 e1
  obtain ⟨z2, c2, _, b2⟩ := DataW.trod_int Tryd.underlying3 e2
  obtain ⟨z3, c3, _, b3⟩ := DataW.trod_int Tryd.underlying3 e3
  obtain ⟨⟨⟨a4⟩⟩, c4, _, b4⟩ := DataW.trod_string Tryd.underlying9 e4
  cases c0; cases c1; cases c2; cases c3; cases c4
  exact ⟨⟨a0, z1, z2, z3, a4⟩, rfl, b0, b4, bounds_i64 b1, bounds_i64 b2, bounds_i64 b3⟩
end
end Go.Proofs.YtnnoooecbbkggaaDoor
