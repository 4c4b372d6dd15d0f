/- 6 texts put together: ArgM, ArgR, ArgQ, Args, Frame, Frame5. -/
import Derived.Deep.Slices
import Derived.ChangeSlices
import Derived.OpenShut
import Derived.ProofKit
import GoSem.ClaimSevenParts
import Derived.Deep.DeepHandedRow
import Derived.Deep.DeepWitnessRowRef
import Derived.Stop.LaidErr
import Derived.Carry
import Derived.SliceStrings
import Derived.LaidLaws
import Derived.Lib.LaidTab
import Derived.Test.YtdodamkndigjkaaRows
import Derived.Test.YtdodamkndigjkaaJB17
import Derived.Test.YtdodamkndigjkaaJB23
import Derived.Test.YtdodamkndigjkaaJB24
/- An argument that is a message, opened. -/
namespace Go.Proofs.Ytdodamkndigjkaa
open Go.ChangeShapes Go.WideShapes Go.ChangeAt Go.RowKit Go.Deep

section
variable {H : Type} {enc : TypeId × Value → H} {W : World}
theorem lit_i64 {z : Int} (h : (Lit.int .i64 z).wf = true) : -9223372036854775808 ≤ z ∧ z ≤ 9223372036854775807 := bounds_i64 h
/-- The cells of one of a slice's structs, one behind the other. -/
theorem struct_cells {P : Program} {fs : Array Field} {e : TypeId} {base n : Nat} {sp : Nat → Bool} {held : Bool} {cs : List Value} {y : DataW H × List MemPlace} (he : P.underlying e = some (.struct fs)) (hC : ∀ f ∈ fs, P.cellsOf f.type = 1)
    (h : DataW.trod enc P W base sp held n e cs = some y) : ∃ m, ∀ (j : Nat) (f : Field), fs[j]? = some f → ∃ z, DataW.trod enc P W base sp held m f.type (List.take 1 (List.drop f.offset cs)) = some z := by
  obtain ⟨xs, m, _, _, _, hlen, hf⟩ := DataW.trod_struct he h
  refine ⟨m, fun j f hj => ?_⟩
  have h1 := hf j f hj
  rw [hC f (Array.mem_of_getElem? hj)] at h1
  have hjl : j < fs.size := (Array.getElem?_eq_some_iff.1 hj).1
  exact ⟨xs[j]'(by omega), by rw [h1]; exact List.getElem?_eq_getElem (by omega)⟩
/-- A list of what there is at each place. -/
theorem list_of {β : Type} {n : Nat} {p : Nat → β → Prop} (h : ∀ i, i < n → ∃ r, p i r) : ∃ l : List β, l.length = n ∧ ∀ (j : Nat) (hj : j < l.length), p j l[j] := by
  refine ⟨List.ofFn (fun i : Fin n => Classical.choose (h i.1 i.2)), List.length_ofFn, fun j hj => ?_⟩
  rw [List.getElem_ofFn]
  exact Classical.choose_spec (h j (by rw [List.length_ofFn] at hj; exact hj))
set_option maxRecDepth 100000 in
theorem arg_rrs {n : Nat} {v : Value} {y : DataW H × List MemPlace} (hd : DataW.trod enc Try.prog W 0 (fun _ => true) true n 25 [v] = some y) :
    ∃ l, ReadR v l W ∧ l.length ≤ maxLen ∧ ∀ r ∈ l, r.name.length ≤ maxLen ∧ r.data.length ≤ maxLen ∧ (-9223372036854775808 ≤ r.typ ∧ r.typ ≤ 9223372036854775807) ∧ (-9223372036854775808 ≤ r.cls ∧ r.cls ≤ 9223372036854775807) ∧ (-9223372036854775808 ≤ r.ttl ∧ r.ttl ≤ 9223372036854775807) := by
  rcases open_slice Try.underlying25 hd with ⟨hcs, _⟩ | ⟨a, len, cap, m, k, D, Pl, hcs, _, hl, hm, hmm, _, hi⟩
  · simp only [List.cons.injEq, and_true] at hcs
    subst hcs
    exact ⟨[], readR_nil W, Nat.zero_le _, fun r hr => by cases hr⟩
  · simp only [List.cons.injEq, and_true] at hcs
    subst hcs
    simp only [if_true] at hmm
    subst hmm
    have hC : Try.prog.cellsOf 51 = 5 := by kernel_rfl
    have hs1 : Try.prog.cellsOf 9 = 1 := by kernel_rfl
    have hi1 : Try.prog.cellsOf 3 = 1 := by kernel_rfl
    have one : ∀ i, i < len → ∃ r : Rd.RR, (∀ j u, (encRR r)[j]? = some u → W.cell? ((a.add (i * 5)).add j) = some u) ∧ r.name.length ≤ maxLen ∧ r.data.length ≤ maxLen ∧ (-9223372036854775808 ≤ r.typ ∧ r.typ ≤ 9223372036854775807) ∧ (-9223372036854775808 ≤ r.cls ∧ r.cls ≤ 9223372036854775807) ∧ (-9223372036854775808 ≤ r.ttl ∧ r.ttl ≤ 9223372036854775807) := by
      intro i hil
      obtain ⟨cs, hc, ht⟩ := hi i (by omega)
      rw [hC] at hc
      obtain ⟨_, hcl, hat⟩ := World.cells?_some hc
      obtain ⟨v0, v1, v2, v3, v4, rfl⟩ : ∃ v0 v1 v2 v3 v4, cs = [v0, v1, v2, v3, v4] := by
        match cs, hcl with
        | [v0, v1, v2, v3, v4], _ => exact ⟨v0, v1, v2, v3, v4, rfl⟩
      obtain ⟨q, hf⟩ := struct_cells Try.underlying51 (by
        intro f hf
        simp only [List.mem_toArray, List.mem_cons, List.not_mem_nil, or_false] at hf
        rcases hf with rfl | rfl | rfl | rfl | rfl <;> first | exact hs1 | exact hi1) ht
      obtain ⟨z0, e0⟩ := hf 0 _ rfl
      obtain ⟨z1, e1⟩ := hf 1 _ rfl
      obtain ⟨z2, e2⟩ := hf 2 _ rfl
      obtain ⟨z3, e3⟩ := hf 3 _ rfl
      obtain ⟨z4, e4⟩ := hf 4 _ rfl
      obtain ⟨⟨⟨a0⟩⟩, c0, _, b0⟩ := DataW.trod_string Try.underlying9 e0
      obtain ⟨y1, c1, _, b1⟩ := DataW.trod_int Try.underlying3 e1
      obtain ⟨y2, c2, _, b2⟩ := DataW.trod_int Try.underlying3 e2
      obtain ⟨y3, c3, _, b3⟩ := DataW.trod_int Try.underlying3 e3
      obtain ⟨⟨⟨a4⟩⟩, c4, _, b4⟩ := DataW.trod_string Try.underlying9 e4
      cases c0; cases c1; cases c2; cases c3; cases c4
      refine ⟨⟨a0, y1, y2, y3, a4⟩, fun j u hj => ?_, b0, b4, bounds_i64 b1, bounds_i64 b2, bounds_i64 b3⟩
      have hjl : j < 5 := (List.getElem?_eq_some_iff.1 hj).1
      rw [hat j hjl]
      exact hj
    obtain ⟨l, hll, hat⟩ := list_of one
    refine ⟨l, ⟨some a, m, by rw [hll], fun j hj => ?_⟩, by rw [hll]; exact Nat.le_trans hl hm, fun r hr => ?_⟩
    · obtain ⟨hc, _⟩ := hat j hj
      obtain ⟨g, off, spot⟩ := a
      have hspot : spot = none := by simpa [Addr.add] using World.cell?_spot ((hat 0 (by omega)).1 0 _ rfl)
      subst hspot
      simp only [Go.WideShapes.add_plain] at hc
      exact ⟨g, off, rfl, hc 0 _ rfl, hc 1 _ rfl, hc 2 _ rfl, hc 3 _ rfl, hc 4 _ rfl⟩
    · obtain ⟨j, hj, rfl⟩ := List.getElem_of_mem hr
      exact (hat j hj).2
set_option maxRecDepth 100000 in
theorem arg_qs {n : Nat} {v : Value} {y : DataW H × List MemPlace} (hd : DataW.trod enc Try.prog W 0 (fun _ => true) true n 24 [v] = some y) :
    ∃ l, ReadQ v l W ∧ l.length ≤ maxLen ∧ ∀ r ∈ l, r.name.length ≤ maxLen ∧ (-9223372036854775808 ≤ r.typ ∧ r.typ ≤ 9223372036854775807) ∧ (-9223372036854775808 ≤ r.cls ∧ r.cls ≤ 9223372036854775807) := by
  rcases open_slice Try.underlying24 hd with ⟨hcs, _⟩ | ⟨a, len, cap, m, k, D, Pl, hcs, _, hl, hm, hmm, _, hi⟩
  · simp only [List.cons.injEq, and_true] at hcs
    subst hcs
    exact ⟨[], readQ_nil W, Nat.zero_le _, fun r hr => by cases hr⟩
  · simp only [List.cons.injEq, and_true] at hcs
    subst hcs
    simp only [if_true] at hmm
    subst hmm
    have hC : Try.prog.cellsOf 36 = 3 := by kernel_rfl
    have hs1 : Try.prog.cellsOf 9 = 1 := by kernel_rfl
    have hi1 : Try.prog.cellsOf 3 = 1 := by kernel_rfl
    have one : ∀ i, i < len → ∃ r : Ms.Q, (∀ j u, (encQ r)[j]? = some u → W.cell? ((a.add (i * 3)).add j) = some u) ∧ r.name.length ≤ maxLen ∧ (-9223372036854775808 ≤ r.typ ∧ r.typ ≤ 9223372036854775807) ∧ (-9223372036854775808 ≤ r.cls ∧ r.cls ≤ 9223372036854775807) := by
      intro i hil
      obtain ⟨cs, hc, ht⟩ := hi i (by omega)
      rw [hC] at hc
      obtain ⟨_, hcl, hat⟩ := World.cells?_some hc
      obtain ⟨v0, v1, v2, rfl⟩ : ∃ v0 v1 v2, cs = [v0, v1, v2] := by
        match cs, hcl with
        | [v0, v1, v2], _ => exact ⟨v0, v1, v2, rfl⟩
      obtain ⟨q, hf⟩ := struct_cells Try.underlying36 (by
        intro f hf
        simp only [List.mem_toArray, List.mem_cons, List.not_mem_nil, or_false] at hf
        rcases hf with rfl | rfl | rfl <;> first | exact hs1 | exact hi1) ht
      obtain ⟨z0, e0⟩ := hf 0 _ rfl
      obtain ⟨z1, e1⟩ := hf 1 _ rfl
      obtain ⟨z2, e2⟩ := hf 2 _ rfl
      obtain ⟨⟨⟨a0⟩⟩, c0, _, b0⟩ := DataW.trod_string Try.underlying9 e0
      obtain ⟨y1, c1, _, b1⟩ := DataW.trod_int Try.underlying3 e1
      obtain ⟨y2, c2, _, b2⟩ := DataW.trod_int Try.underlying3 e2
      cases c0; cases c1; cases c2
      refine ⟨⟨a0, y1, y2⟩, fun j u hj => ?_, b0, bounds_i64 b1, bounds_i64 b2⟩
      have hjl : j < 3 := (List.getElem?_eq_some_iff.1 hj).1
      rw [hat j hjl]
      exact hj
    obtain ⟨l, hll, hat⟩ := list_of one
    refine ⟨l, ⟨some a, m, by rw [hll], fun j hj => ?_⟩, by rw [hll]; exact Nat.le_trans hl hm, fun r hr => ?_⟩
    · obtain ⟨hc, _⟩ := hat j hj
      obtain ⟨g, off, spot⟩ := a
      have hspot : spot = none := by simpa [Addr.add] using World.cell?_spot ((hat 0 (by omega)).1 0 _ rfl)
      subst hspot
      simp only [Go.WideShapes.add_plain] at hc
      exact ⟨g, off, rfl, hc 0 _ rfl, hc 1 _ rfl, hc 2 _ rfl⟩
    · obtain ⟨j, hj, rfl⟩ := List.getElem_of_mem hr
      exact (hat j hj).2
/-- A record's numbers are ints. -/
def IntsR (l : List Rd.RR) : Prop := ∀ r ∈ l, (-9223372036854775808 ≤ r.typ ∧ r.typ ≤ 9223372036854775807) ∧ (-9223372036854775808 ≤ r.cls ∧ r.cls ≤ 9223372036854775807) ∧ (-9223372036854775808 ≤ r.ttl ∧ r.ttl ≤ 9223372036854775807)
def IntsQ (l : List Ms.Q) : Prop := ∀ q ∈ l, (-9223372036854775808 ≤ q.typ ∧ q.typ ≤ 9223372036854775807) ∧ (-9223372036854775808 ≤ q.cls ∧ q.cls ≤ 9223372036854775807)
structure IntsM (m : Ms.M) : Prop where
  id : -9223372036854775808 ≤ m.id ∧ m.id ≤ 9223372036854775807
  opc : -9223372036854775808 ≤ m.opc ∧ m.opc ≤ 9223372036854775807
  code : -9223372036854775808 ≤ m.code ∧ m.code ≤ 9223372036854775807
  qs : IntsQ m.qs
  an : IntsR m.an
  ns : IntsR m.ns
  ad : IntsR m.ad
  size : -9223372036854775808 ≤ m.size ∧ m.size ≤ 9223372036854775807
theorem max_len {n : Nat} (h : n ≤ maxLen) : n ≤ 9223372036854775807 := h
set_option maxRecDepth 100000 in
theorem arg_msg {b0 : Nat} {v : Value} {d : DataW H} {ps : List MemPlace} (hval : Value.okWide Try.prog W .any b0 27 v) (hd : DataW.Trod enc Try.prog W 0 (fun _ => true) true 27 v d ps) :
    ∃ m vq va vn vd, v = msgV m vq va vn vd ∧ Lists m vq va vn vd W ∧ FitM m ∧ IntsM m := by
  obtain ⟨cs, rfl, hsz⟩ := okWide_struct Try.underlying27 hval
  have hC : Try.prog.cellsOf 27 = 14 := by kernel_rfl
  have hi1 : Try.prog.cellsOf 3 = 1 := by kernel_rfl
  have hb1 : Try.prog.cellsOf 4 = 1 := by kernel_rfl
  have hq1 : Try.prog.cellsOf 24 = 1 := by kernel_rfl
  have hr1 : Try.prog.cellsOf 25 = 1 := by kernel_rfl
  rw [hC] at hsz
  obtain ⟨l⟩ := cs
  obtain ⟨v0, v1, v2, v3, v4, v5, v6, v7, v8, v9, v10, v11, v12, v13, rfl⟩ : ∃ v0 v1 v2 v3 v4 v5 v6 v7 v8 v9 v10 v11 v12 v13, l = [v0, v1, v2, v3, v4, v5, v6, v7, v8, v9, v10, v11, v12, v13] := by
    match l, hsz with
    | [v0, v1, v2, v3, v4, v5, v6, v7, v8, v9, v10, v11, v12, v13], _ => exact ⟨v0, v1, v2, v3, v4, v5, v6, v7, v8, v9, v10, v11, v12, v13, rfl⟩
  obtain ⟨fuel, ht⟩ := hd
  obtain ⟨q, hf⟩ := struct_cells Try.underlying27 (by
    intro f hf
    simp only [List.mem_toArray, List.mem_cons, List.not_mem_nil, or_false] at hf
    rcases hf with rfl | rfl | rfl | rfl | rfl | rfl | rfl | rfl | rfl | rfl | rfl | rfl | rfl | rfl <;> first | exact hi1 | exact hb1 | exact hq1 | exact hr1) ht
  obtain ⟨z0, e0⟩ := hf 0 _ rfl
  obtain ⟨z1, e1⟩ := hf 1 _ rfl
  obtain ⟨z2, e2⟩ := hf 2 _ rfl
  obtain ⟨z3, e3⟩ := hf 3 _ rfl
  obtain ⟨z4, e4⟩ := hf 4 _ rfl
  obtain ⟨z5, e5⟩ := hf 5 _ rfl
  obtain ⟨z6, e6⟩ := hf 6 _ rfl
  obtain ⟨z7, e7⟩ := hf 7 _ rfl
  obtain ⟨z8, e8⟩ := hf 8 _ rfl
  obtain ⟨z9, e9⟩ := hf 9 _ rfl
  obtain ⟨z10, e10⟩ := hf 10 _ rfl
  obtain ⟨z11, e11⟩ := hf 11 _ rfl
  obtain ⟨z12, e12⟩ := hf 12 _ rfl
  obtain ⟨z13, e13⟩ := hf 13 _ rfl
  replace e0 : DataW.trod enc Try.prog W 0 (fun _ => true) true q 3 [v0] = some z0 := e0
  replace e1 : DataW.trod enc Try.prog W 0 (fun _ => true) true q 4 [v1] = some z1 := e1
  replace e2 : DataW.trod enc Try.prog W 0 (fun _ => true) true q 3 [v2] = some z2 := e2
  replace e3 : DataW.trod enc Try.prog W 0 (fun _ => true) true q 4 [v3] = some z3 := e3
  replace e4 : DataW.trod enc Try.prog W 0 (fun _ => true) true q 4 [v4] = some z4 := e4
  replace e5 : DataW.trod enc Try.prog W 0 (fun _ => true) true q 4 [v5] = some z5 := e5
  replace e6 : DataW.trod enc Try.prog W 0 (fun _ => true) true q 4 [v6] = some z6 := e6
  replace e7 : DataW.trod enc Try.prog W 0 (fun _ => true) true q 3 [v7] = some z7 := e7
  replace e8 : DataW.trod enc Try.prog W 0 (fun _ => true) true q 24 [v8] = some z8 := e8
  replace e9 : DataW.trod enc Try.prog W 0 (fun _ => true) true q 25 [v9] = some z9 := e9
  replace e10 : DataW.trod enc Try.prog W 0 (fun _ => true) true q 25 [v10] = some z10 := e10
  replace e11 : DataW.trod enc Try.prog W 0 (fun _ => true) true q 25 [v11] = some z11 := e11
  replace e12 : DataW.trod enc Try.prog W 0 (fun _ => true) true q 4 [v12] = some z12 := e12
  replace e13 : DataW.trod enc Try.prog W 0 (fun _ => true) true q 3 [v13] = some z13 := e13
  obtain ⟨x0, c0, _, b0⟩ := DataW.trod_int Try.underlying3 e0
  obtain ⟨x1, c1, _⟩ := DataW.trod_bool Try.underlying4 e1
  obtain ⟨x2, c2, _, b2⟩ := DataW.trod_int Try.underlying3 e2
  obtain ⟨x3, c3, _⟩ := DataW.trod_bool Try.underlying4 e3
  obtain ⟨x4, c4, _⟩ := DataW.trod_bool Try.underlying4 e4
  obtain ⟨x5, c5, _⟩ := DataW.trod_bool Try.underlying4 e5
  obtain ⟨x6, c6, _⟩ := DataW.trod_bool Try.underlying4 e6
  obtain ⟨x7, c7, _, b7⟩ := DataW.trod_int Try.underlying3 e7
  obtain ⟨x8, r8, l8, f8⟩ := arg_qs e8
  obtain ⟨x9, r9, l9, f9⟩ := arg_rrs e9
  obtain ⟨x10, r10, l10, f10⟩ := arg_rrs e10
  obtain ⟨x11, r11, l11, f11⟩ := arg_rrs e11
  obtain ⟨x12, c12, _⟩ := DataW.trod_bool Try.underlying4 e12
  obtain ⟨x13, c13, _, b13⟩ := DataW.trod_int Try.underlying3 e13
  cases c0; cases c1; cases c2; cases c3; cases c4; cases c5; cases c6; cases c7; cases c12; cases c13
  exact ⟨⟨x0, x1, x2, x3, x4, x5, x6, x7, x8, x9, x10, x11, x12, x13⟩, v8, v9, v10, v11, rfl, ⟨r8, r9, r10, r11⟩,
    ⟨max_len l8, fun q hq => max_len (f8 q hq).1, ⟨max_len l9, fun r hr => ⟨max_len (f9 r hr).1, max_len (f9 r hr).2.1⟩⟩, ⟨max_len l10, fun r hr => ⟨max_len (f10 r hr).1, max_len (f10 r hr).2.1⟩⟩, ⟨max_len l11, fun r hr => ⟨max_len (f11 r hr).1, max_len (f11 r hr).2.1⟩⟩⟩,
    ⟨bounds_i64 b0, bounds_i64 b2, bounds_i64 b7, fun q hq => (f8 q hq).2, fun r hr => (f9 r hr).2.2, fun r hr => (f10 r hr).2.2, fun r hr => (f11 r hr).2.2, bounds_i64 b13⟩⟩
end
end Go.Proofs.Ytdodamkndigjkaa

/- An argument that is a list of records. -/
set_option maxRecDepth 100000
namespace Go.Proofs.Ytdodamkndigjkaa
open Go.RowKit Go.Shelf Go.Maps Go.ChangeShapes Go.WideShapes Go.ChangeAt

theorem arg_rrl {H : Type} {enc : TypeId × Value → H} {W : World} {b0 : Nat} {v : Value} {d : DataW H} {ps : List MemPlace} (hval : Value.okWide Try.prog W .any b0 25 v) (hd : DataW.Trod enc Try.prog W 0 (fun _ => true) true 25 v d ps) :
    ∃ l, ReadR v l W ∧ l.length ≤ 9223372036854775807 ∧ (∀ r ∈ l, r.name.length ≤ 9223372036854775807 ∧ r.data.length ≤ 9223372036854775807) ∧ IntsR l := by
  obtain ⟨a0, len, cap, rfl⟩ := okWide_slice Try.underlying25 hval
  obtain ⟨fuel, hf⟩ := hd
  obtain ⟨l, h1, h2, h3⟩ := arg_rrs hf
  exact ⟨l, h1, h2, fun r hr => ⟨(h3 r hr).1, (h3 r hr).2.1⟩, fun r hr => (h3 r hr).2.2⟩

end Go.Proofs.Ytdodamkndigjkaa

/- An argument that is a question, opened. -/
set_option maxRecDepth 100000
namespace Go.Proofs.Ytdodamkndigjkaa
open Go.ChangeShapes Go.WideShapes Go.ChangeAt Go.RowKit
theorem arg_q {H : Type} {enc : TypeId × Value → H} {W : World} {b0 : Nat} {v : Value} {d : DataW H} {ps : List MemPlace} (hval : Value.okWide Try.prog W .any b0 36 v) (hd : DataW.Trod enc Try.prog W 0 (fun _ => true) true 36 v d ps) :
    ∃ q : Ms.Q, v = qV q ∧ q.name.length ≤ 9223372036854775807 := by
  obtain ⟨cs, rfl, hsz⟩ := okWide_struct Try.underlying36 hval
  have h5 : Try.prog.cellsOf 36 = 3 := by kernel_rfl
  have hs1 : Try.prog.cellsOf 9 = 1 := by kernel_rfl
  have hi1 : Try.prog.cellsOf 3 = 1 := by kernel_rfl
  rw [h5] at hsz
  obtain ⟨l⟩ := cs
  obtain ⟨v0, v1, v2, rfl⟩ : ∃ v0 v1 v2, l = [v0, v1, v2] := by
    match l, hsz with
    | [v0, v1, v2], _ => exact ⟨v0, v1, v2, rfl⟩
  obtain ⟨fuel, hf⟩ := hd
  obtain ⟨xs, n, _, _, _, hxl, hff⟩ := DataW.trod_struct Try.underlying36 hf
  obtain ⟨y0, y1, y2, rfl⟩ : ∃ y0 y1 y2, xs = [y0, y1, y2] := by
    match xs, hxl with
    | [y0, y1, y2], _ => exact ⟨y0, y1, y2, rfl⟩
  have cut : ∀ k t, Try.prog.cellsOf t = 1 → ∀ u, [v0, v1, v2].drop k = u → (List.take (Try.prog.cellsOf t) (List.drop k (Value.agg ⟨[v0, v1, v2]⟩).cells.toList)) = u.take 1 := fun k t h u hu => by rw [h, ← hu]; rfl
  have e0 : DataW.trod enc Try.prog W 0 (fun _ => true) true n 9 [v0] = some y0 := by
    have h : DataW.trod enc Try.prog W 0 (fun _ => true) true n 9 (List.take (Try.prog.cellsOf 9) (List.drop 0 (Value.agg ⟨[v0, v1, v2]⟩).cells.toList)) = some y0 := hff 0 _ rfl
    rw [cut 0 _ hs1 [v0, v1, v2] rfl] at h
    exact h
  have e1 : DataW.trod enc Try.prog W 0 (fun _ => true) true n 3 [v1] = some y1 := by
    have h : DataW.trod enc Try.prog W 0 (fun _ => true) true n 3 (List.take (Try.prog.cellsOf 3) (List.drop 1 (Value.agg ⟨[v0, v1, v2]⟩).cells.toList)) = some y1 := hff 1 _ rfl
    rw [cut 1 _ hi1 [v1, v2] rfl] at h
    exact h
  have e2 : DataW.trod enc Try.prog W 0 (fun _ => true) true n 3 [v2] = some y2 := by
    have h : DataW.trod enc Try.prog W 0 (fun _ => true) true n 3 (List.take (Try.prog.cellsOf 3) (List.drop 2 (Value.agg ⟨[v0, v1, v2]⟩).cells.toList)) = some y2 := hff 2 _ rfl
    rw [cut 2 _ hi1 [v2] rfl] at h
    exact h
  obtain ⟨⟨⟨a0⟩⟩, c0, _, b0⟩ := DataW.trod_string Try.underlying9 e0
  obtain ⟨z1, c1, _, b1⟩ := DataW.trod_int Try.underlying3 e1
  obtain ⟨z2, c2, _, b2⟩ := DataW.trod_int Try.underlying3 e2
  cases c0; cases c1; cases c2
  exact ⟨⟨a0, z1, z2⟩, rfl, b0⟩
end Go.Proofs.Ytdodamkndigjkaa

/- What the fourth stage's laws share of the frame: the arguments opened, read as they did, the law's promise from a walk. (The laid variables and a world that fits come in the seat's Frame.) -/
namespace Go.Proofs.Ytdodamkndigjkaa
open Go.ChangeShapes Go.WideShapes Go.ChangeAt Go.RowKit
open Go.ChangeMaps (open_string shut_string)

set_option maxRecDepth 100000
theorem own : ownKnob Try.prog.godebug = none := by kernel_rfl

theorem getD_at {α : Type} {l : List α} {d : α} {i : Nat} (h : i < l.length) : l.getD i d = l[i] := by simp [List.getD, h]
theorem zero_maxLen : 0 ≤ maxLen := Nat.zero_le _
theorem maxLen_eq : maxLen = 9223372036854775807 := rfl
/-! ### Arguments -/
section
variable {H : Type} {enc : TypeId × Value → H} {W : World}
theorem arg_string {r : Reach} {b0 : Nat} {v : Value} {d : DataW H} {ps : List MemPlace} (hval : Value.okWide Try.prog W r b0 9 v) (hd : DataW.Trod enc Try.prog W 0 (fun _ => true) true 9 v d ps) :
    ∃ l : List UInt8, v = .string ⟨l.toArray⟩ ∧ l.length ≤ maxLen := by
  obtain ⟨s, rfl, _, _, hs⟩ := open_string Try.underlying9 hval hd
  obtain ⟨⟨l⟩⟩ := s
  exact ⟨l, rfl, (show (⟨⟨l⟩⟩ : ByteArray).size = l.length from rfl) ▸ hs⟩
theorem arg_int {r : Reach} {b0 : Nat} {v : Value} {d : DataW H} {ps : List MemPlace} (hval : Value.okWide Try.prog W r b0 3 v) (hd : DataW.Trod enc Try.prog W 0 (fun _ => true) true 3 v d ps) :
    ∃ z : Int, v = .int .i64 z ∧ -9223372036854775808 ≤ z ∧ z ≤ 9223372036854775807 := by
  obtain ⟨z, rfl, _, _, hw⟩ := open_int Try.underlying3 hval hd
  exact ⟨z, rfl, bounds_i64 hw⟩
theorem arg_bool {r : Reach} {b0 : Nat} {v : Value} {d : DataW H} {ps : List MemPlace} (hval : Value.okWide Try.prog W r b0 4 v) (hd : DataW.Trod enc Try.prog W 0 (fun _ => true) true 4 v d ps) :
    ∃ x : Bool, v = .bool x := by
  obtain ⟨x, rfl, _⟩ := open_bool Try.underlying4 hval hd
  exact ⟨x, rfl⟩
theorem arg_bytesC {b0 : Nat} {v : Value} {d : DataW H} {ps : List MemPlace} (hval : Value.okWide Try.prog W .any b0 22 v) (hd : DataW.Trod enc Try.prog W 0 (fun _ => true) true 22 v d ps) :
    ∃ l : List UInt8, ReadB v l W ∧ l.length ≤ maxLen ∧ ∀ ao n c, v = .slice ao n c → n ≤ c := by
  obtain ⟨a0, len, cap, rfl⟩ := okWide_slice Try.underlying22 hval
  obtain ⟨fuel, hf⟩ := hd
  rcases open_ints Try.underlying22 Try.underlying5 (by kernel_rfl) hf with ⟨hcs, _⟩ | ⟨a, len', cap', zs, hcs, _, hle, hmax, hall, _, hc, hw⟩
  · simp [Value.cells] at hcs
    obtain ⟨rfl, rfl, rfl⟩ := hcs
    exact ⟨[], ⟨none, 0, rfl, fun j hj => by simp at hj⟩, zero_maxLen, fun ao n c e => by cases e; omega⟩
  · simp [Value.cells] at hcs
    obtain ⟨rfl, rfl, rfl⟩ := hcs
    simp only [if_true] at hall
    refine ⟨(zs.take len).map (fun z => UInt8.ofNat z.toNat), ⟨some a, cap, by rw [List.length_map, List.length_take]; congr 1; omega, fun j hj => ?_⟩, by rw [List.length_map, List.length_take]; omega, fun ao n c e => by cases e; exact hle⟩
    rw [List.length_map, List.length_take] at hj
    obtain ⟨b, off, rfl, hcc⟩ := ints_at hc (by omega)
    refine ⟨b, off, rfl, ?_⟩
    have hjz : j < zs.length := by omega
    have hb := bounds_u8 (hw zs[j] (List.getElem_mem hjz))
    have e1 : (UInt8.ofNat zs[j].toNat).toNat = zs[j].toNat := by simp; omega
    rw [hcc j (by omega), List.getElem_map, List.getElem_take, getD_at (l := zs) (i := j) hjz, encB, e1, Int.toNat_of_nonneg hb.1]

/-- What reads as it did. -/
theorem trodAll_below : ∀ {ts : List TypeId} {vs : List Value} {ds : List (DataW H)} {ps : List MemPlace} {W' : World}, DataW.TrodAll enc Try.prog W 0 (fun _ => true) true ts vs ds ps → Below W.heap.size W W' → (∀ x ∈ ps, x.block < W.heap.size) → (∀ t ∈ ts, Try.prog.readableRec t = true ∧ t < Try.prog.types.size) →
    DataW.TrodAll enc Try.prog W' 0 (fun b => decide (b < W.heap.size)) true ts vs ds ps
  | [], [], [], _, _, h, _, _, _ => h
  | t :: ts, v :: vs, d :: ds, _, _, ⟨p, q, h1, h2, e⟩, hb, hlt, hr =>
    ⟨p, q, Below.trod laidOut (hr t (List.mem_cons_self ..)).1 (hr t (List.mem_cons_self ..)).2 h1 hb (fun x hx => hlt x (by rw [e]; exact List.mem_append_left _ hx)),
      trodAll_below h2 hb (fun x hx => hlt x (by rw [e]; exact List.mem_append_right _ hx)) (fun t ht => hr t (List.mem_cons_of_mem _ ht)), e⟩

theorem law_post {s : ChangeSpec} {f : Func} {args : Array Value} {ds gs : List (DataW H)} {before : List MemPlace} {W' : World} (hW : DataW.Whole enc Try.prog f.params.toList s.vars false W args.toList ds gs before) (hvars : s.vars = []) (hb : Below W.heap.size W W')
    (hres : f.resultTypes = #[4]) (hfn : s.fn H (ds ++ gs) = { results := [.lit (.bool true)], args := ds }) (hr : ∀ t ∈ f.params.toList, Try.prog.readableRec t = true ∧ t < Try.prog.types.size) :
    s.post enc Try.prog f false true false false W args (.bool true) W' := by
  have hW' := hW
  obtain ⟨p, q, hA, hV, rfl, _, _⟩ := hW
  rw [hvars] at hV
  obtain ⟨rfl, rfl⟩ := trodVars_none hV
  refine ⟨ds, [], p ++ [], [], p, [], hW', ?_, ?_, ?_, hb.frame _, fun h => by cases h⟩
  · rw [hfn, hres]
    exact trodAll_mk1 (shut_bool Try.underlying4 true)
  · rw [hfn]
    exact trodAll_below hA hb (fun x hx => by simpa using hW'.lt x (List.mem_append_left _ hx)) hr
  · rw [hfn, hvars]
    rfl
end

theorem readT : ∀ t ∈ [9, 3, 4, 22, 27], Try.prog.readableRec t = true ∧ t < Try.prog.types.size := by
  intro t ht
  simp only [List.mem_cons, List.not_mem_nil, or_false] at ht
  rcases ht with rfl | rfl | rfl | rfl | rfl
  all_goals exact ⟨by kernel_rfl, of_decide_eq_true (by kernel_rfl)⟩
theorem standT : ∀ t ∈ [9, 3, 4, 22, 27], Try.prog.wantsStandIn t = false := by
  intro t ht
  simp only [List.mem_cons, List.not_mem_nil, or_false] at ht
  rcases ht with rfl | rfl | rfl | rfl | rfl
  all_goals kernel_rfl
end Go.Proofs.Ytdodamkndigjkaa

/- The frame that all of the seat's laws share: no variable is laid; a world that fits. -/
namespace Go.Proofs.Ytdodamkndigjkaa
open Go.ChangeShapes Go.WideShapes Go.ChangeAt Go.RowKit

/-! ### A world that fits -/
abbrev laidList : List (String × DataW Unit) := []
noncomputable def laidWorld (os : Os) : World := World.holding Try.prog os ⟨#[], #[], []⟩
set_option maxRecDepth 100000 in
theorem laid_met (os : Os) (args : Array Value) : laidMet Try.prog [] ((laidWorld os).forCall (fun _ _ => 0) ⟨#[], args, []⟩).memory :=
  laidMet_of_run' 8 (by kernel_rfl) (by kernel_rfl)
end Go.Proofs.Ytdodamkndigjkaa

/- What the laws of stage 5 take reads as it did. -/
namespace Go.Proofs.Ytdodamkndigjkaa
open Go.ChangeShapes Go.WideShapes Go.ChangeAt Go.RowKit
theorem readT5 : ∀ t ∈ [9, 3, 27, 25, 36, 47], Try.prog.readableRec t = true ∧ t < Try.prog.types.size := by
  intro t ht
  simp only [List.mem_cons, List.not_mem_nil, or_false] at ht
  rcases ht with rfl | rfl | rfl | rfl | rfl | rfl
  all_goals exact ⟨by kernel_rfl, of_decide_eq_true (by kernel_rfl)⟩
end Go.Proofs.Ytdodamkndigjkaa
