/- A slice of acts as an argument, opened. -/
import Derived.Test.YtipabiiffaipdaaFrame
import Derived.Deep.Slices
import Derived.Deep.Fields
namespace Go.Proofs.Ytipabiiffaipdaa
open Go.ChangeShapes Go.WideShapes Go.ChangeAt Go.RowKit

structure ActD where
  kind : Int
  b : List UInt8
  bv : Value
  n : Int
  s : List UInt8
/-- A slice of acts that is read: four cells each. -/
structure ReadA (v : Value) (l : List ActD) (W : World) : Prop where
  form : ∃ ao cap, v = .slice ao l.length cap ∧ ∀ (j : Nat) (h : j < l.length), ∃ g off, ao = some ⟨g, off, none⟩ ∧ W.cell? ⟨g, off + j * 4, none⟩ = some (.int .i64 l[j].kind) ∧ W.cell? ⟨g, off + j * 4 + 1, none⟩ = some l[j].bv ∧ W.cell? ⟨g, off + j * 4 + 2, none⟩ = some (.int .i64 l[j].n) ∧ W.cell? ⟨g, off + j * 4 + 3, none⟩ = some (.string ⟨l[j].s.toArray⟩) ∧
    ReadB l[j].bv l[j].b W ∧ l[j].b.length ≤ maxLen ∧ l[j].s.length ≤ maxLen
section
variable {H : Type} {enc : TypeId × Value → H} {W : World}
theorem bytes_in {fuel : Nat} {c : Value} {x : DataW H × List MemPlace} (hf : DataW.trod enc Try.prog W 0 (fun _ => true) true fuel 22 [c] = some x) : ∃ l : List UInt8, ReadB c l W ∧ l.length ≤ maxLen := by
  rcases open_ints Try.underlying22 Try.underlying5 (by kernel_rfl) hf with ⟨hcs, _⟩ | ⟨a, len, cap, zs, hcs, _, hle, hmax, hall, _, hc, hw⟩
  · obtain rfl : c = .slice none 0 0 := by simpa using hcs
    exact ⟨[], ⟨none, 0, rfl, fun j hj => by simp at hj⟩, zero_maxLen⟩
  · obtain rfl : c = .slice (some a) len cap := by simpa using hcs
    simp only [if_true] at hall
    refine ⟨(zs.take len).map (fun z => UInt8.ofNat z.toNat), ⟨some a, cap, by rw [List.length_map, List.length_take]; congr 1; omega, fun j hj => ?_⟩, by rw [List.length_map, List.length_take]; omega⟩
    rw [List.length_map, List.length_take] at hj
    obtain ⟨b, off, rfl, hcc⟩ := ints_at hc (by omega)
    refine ⟨b, off, rfl, ?_⟩
    have hjz : j < zs.length := by omega
    have hb := bounds_u8 (hw zs[j] (List.getElem_mem hjz))
    have e1 : (UInt8.ofNat zs[j].toNat).toNat = zs[j].toNat := by simp; omega
    rw [hcc j (by omega), List.getElem_map, List.getElem_take, getD_at (l := zs) (i := j) hjz, encB, e1, Int.toNat_of_nonneg hb.1]
theorem act_in {fuel : Nat} {cs : List Value} {x : DataW H × List MemPlace} (hf : DataW.trod enc Try.prog W 0 (fun _ => true) true fuel 39 cs = some x) :
    ∃ a : ActD, cs = [.int .i64 a.kind, a.bv, .int .i64 a.n, .string ⟨a.s.toArray⟩] ∧ ReadB a.bv a.b W ∧ a.b.length ≤ maxLen ∧ a.s.length ≤ maxLen := by
  obtain ⟨ys, n, _, rfl, hl, hlen, hg⟩ := DataW.trod_struct Try.underlying39 hf
  have hl4 : cs.length = 4 := hl.trans (by kernel_rfl)
  match cs, hl4 with
  | [c0, c1, c2, c3], _ =>
    have k1 : Try.prog.cellsOf 3 = 1 := by kernel_rfl
    have k2 : Try.prog.cellsOf 22 = 1 := by kernel_rfl
    have k3 : Try.prog.cellsOf 9 = 1 := by kernel_rfl
    match ys, hlen with
    | [y0, y1, y2, y3], _ =>
      have g0 := hg 0 _ rfl
      have g1 := hg 1 _ rfl
      have g2 := hg 2 _ rfl
      have g3 := hg 3 _ rfl
      simp [k1, k2, k3] at g0 g1 g2 g3
      obtain ⟨z0, e0, _, _⟩ := DataW.trod_int Try.underlying3 g0
      obtain ⟨z2, e2, _, _⟩ := DataW.trod_int Try.underlying3 g2
      obtain ⟨⟨⟨s⟩⟩, e3, _, hs⟩ := DataW.trod_string Try.underlying9 g3
      obtain ⟨l, hr, hll⟩ := bytes_in g1
      obtain rfl : c0 = .int .i64 z0 := by simpa using e0
      obtain rfl : c2 = .int .i64 z2 := by simpa using e2
      obtain rfl : c3 = .string ⟨s.toArray⟩ := by simpa using e3
      exact ⟨⟨z0, l, c1, z2, s⟩, rfl, hr, hll, hs⟩
theorem arg_acts {b0 : Nat} {v : Value} {d : DataW H} {ps : List MemPlace} (hval : Value.okWide Try.prog W .any b0 30 v) (hd : DataW.Trod enc Try.prog W 0 (fun _ => true) true 30 v d ps) :
    ∃ l : List ActD, ReadA v l W ∧ l.length ≤ maxLen := by
  obtain ⟨a0, len, cap, rfl⟩ := okWide_slice Try.underlying30 hval
  obtain ⟨fuel, hf⟩ := hd
  rcases Go.Deep.open_slice Try.underlying30 hf with ⟨hcs, _⟩ | ⟨a, len', cap', m, n, D, Pl, hcs, _, hle, hmax, hm, _, hi⟩
  · simp [Value.cells] at hcs
    obtain ⟨rfl, rfl, rfl⟩ := hcs
    exact ⟨[], ⟨none, 0, rfl, fun j hj => by simp at hj⟩, zero_maxLen⟩
  · simp [Value.cells] at hcs
    obtain ⟨rfl, rfl, rfl⟩ := hcs
    simp only [if_true] at hm
    subst hm
    have k4 : Try.prog.cellsOf 39 = 4 := by kernel_rfl
    have hall : ∀ i, i < len → ∃ x : ActD, (∀ j, j < 4 → W.cell? ((a.add (i * 4)).add j) = [Value.int .i64 x.kind, x.bv, .int .i64 x.n, .string ⟨x.s.toArray⟩][j]?) ∧ ReadB x.bv x.b W ∧ x.b.length ≤ maxLen ∧ x.s.length ≤ maxLen := fun i hil => by
      obtain ⟨cs', hc, ht⟩ := hi i (by omega)
      rw [k4] at hc
      obtain ⟨_, _, hat⟩ := World.cells?_some hc
      obtain ⟨x, rfl, r⟩ := act_in ht
      exact ⟨x, hat, r⟩
    obtain ⟨F, hF⟩ : ∃ F : Nat → ActD, ∀ i, i < len → (∀ j, j < 4 → W.cell? ((a.add (i * 4)).add j) = [Value.int .i64 (F i).kind, (F i).bv, .int .i64 (F i).n, .string ⟨(F i).s.toArray⟩][j]?) ∧ ReadB (F i).bv (F i).b W ∧ (F i).b.length ≤ maxLen ∧ (F i).s.length ≤ maxLen :=
      ⟨fun i => if h : i < len then (hall i h).choose else ⟨0, [], .slice none 0 0, 0, []⟩, fun i h => by have h5 := (hall i h).choose_spec; simp only [h, dite_true]; exact h5⟩
    refine ⟨(List.range len).map F, ⟨some a, m, by simp, fun j hj => ?_⟩, by simp; omega⟩
    rw [List.length_map, List.length_range] at hj
    obtain ⟨h1, h2⟩ := hF j hj
    have c0 := h1 0 (by omega)
    obtain ⟨b, off, spot⟩ := a
    have c00 := (hF 0 (by omega)).1 0 (by omega)
    have hspot : spot = none := by simpa [Addr.add] using World.cell?_spot c00
    subst hspot
    have e : ∀ i, ((⟨b, off, none⟩ : Addr).add (j * 4)).add i = ⟨b, off + j * 4 + i, none⟩ := fun i => by rw [add_plain, add_plain]
    have c1 := h1 1 (by omega)
    have c2 := h1 2 (by omega)
    have c3 := h1 3 (by omega)
    rw [e] at c0 c1 c2 c3
    simp only [List.getElem_map, List.getElem_range]
    exact ⟨b, off, rfl, c0, c1, c2, c3, h2⟩
end
end Go.Proofs.Ytipabiiffaipdaa
