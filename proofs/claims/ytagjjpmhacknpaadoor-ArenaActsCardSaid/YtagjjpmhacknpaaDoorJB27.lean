/- 4 texts put together: Tie, FrameA, Frame7, FrameA6. -/
import Derived.Test.YtagjjpmhacknpaaDoorRows
import Derived.LaidByTextLater
import Derived.SevenTiedAt
import Derived.LaidSub
import Derived.LaidOnce
import Derived.Deep.DeepHandedRow
import Derived.Deep.DeepWitnessRowRef
import Derived.Stop.LaidErr
import Derived.Carry
import Derived.ProofKit
import Derived.OpenShut
import Derived.SliceStrings
import Derived.ChangeSlices
import Derived.LaidLaws
import Derived.Lib.LaidTab
import Derived.Deep.Grids
import Derived.Deep.Slices
import Derived.Deep.Fields
import Derived.Test.YtagjjpmhacknpaaDoorJB4
import Derived.Test.YtagjjpmhacknpaaDoorJB15
import Derived.Test.YtagjjpmhacknpaaDoorJB26
/-
  DERIVED. GIVEN WITH THE SEED: THE PROGRAM's TIES (one call each: nine closed facts by the kernel) AND EACH ROW's TIE, after the 31st guide's Derived/Test/Toyas{Tie, Card}.lean. No idea stands in it: it is a product of the set-up. Laid BY PROGRAM, IN A SANDBOX (cutbox-door.mjs). By AI agents, Wed Nov 11 2026. No macro, syntax, notation, axiom, sorry.
-/
namespace Go.Proofs.YtagjjpmhacknpaaDoor
open Go
set_option maxRecDepth 100000
theorem seatTie1 : Tryd.prog.laidByTextLater [("math/bits.deBruijn64tab", Rows.laid_math_bits_deBruijn64tab)] [.data] true :=
  Program.laidByTextLater_by_one 14 8 65 (by kernel_rfl) (by kernel_rfl) (by kernel_rfl) (by kernel_rfl) (by kernel_rfl) (by kernel_rfl) (fun _ _ => by kernel_rfl)
theorem noOwnUnsafe : Tryd.pinned.checked.prog.headLifts.contains "ownunsafe" = false := by kernel_rfl
theorem tie : Tryd.prog.laidByTextLater [("math/bits.deBruijn64tab", Rows.laid_math_bits_deBruijn64tab)] [.data] true :=
  Program.laidByTextLater.sub seatTie1 ["math/bits.deBruijn64tab"] (by kernel_rfl) (by kernel_rfl)
theorem arenaActs_row_tie : Rows.arenaActsRow.laidByTextAt .later Tryd.pinned [.data] true :=
  OpenClaim.laidByTextAt_later rfl rfl tie noOwnUnsafe
theorem arenaActsUpto_row_tie : Rows.arenaActsUptoRow.laidByTextAt .later Tryd.pinned [.data] true :=
  OpenClaim.laidByTextAt_later rfl rfl tie noOwnUnsafe
end Go.Proofs.YtagjjpmhacknpaaDoor

/- The frame that all of the seat's laws share: the arguments opened, the laid variables, a world that fits, the arguments read as they did. -/
set_option maxRecDepth 100000
namespace Go.Proofs.YtagjjpmhacknpaaDoor
open Go.ChangeShapes Go.WideShapes Go.ChangeAt Go.RowKit
open Go.ChangeMaps (open_string shut_string)

theorem own : ownKnob Tryd.prog.godebug = none := by kernel_rfl
theorem laidOut : laidOutB Tryd.prog = true := by kernel_rfl

section
variable {H : Type} {enc : TypeId × Value → H} {W : World}
theorem arg_int {r : Reach} {b0 : Nat} {v : Value} {d : DataW H} {ps : List MemPlace} (hval : Value.okWide Tryd.prog W r b0 3 v) (hd : DataW.Trod enc Tryd.prog W 0 (fun _ => true) true 3 v d ps) :
    ∃ z : Int, v = .int .i64 z ∧ -9223372036854775808 ≤ z ∧ z ≤ 9223372036854775807 := by
  obtain ⟨z, rfl, _, _, hw⟩ := open_int Tryd.underlying3 hval hd
  exact ⟨z, rfl, bounds_i64 hw⟩
theorem trodAll_below : ∀ {ts : List TypeId} {vs : List Value} {ds : List (DataW H)} {ps : List MemPlace} {W' : World}, DataW.TrodAll enc Tryd.prog W 0 (fun _ => true) true ts vs ds ps → Below W.heap.size W W' → (∀ x ∈ ps, x.block < W.heap.size) → (∀ t ∈ ts, Tryd.prog.readableRec t = true ∧ t < Tryd.prog.types.size) →
    DataW.TrodAll enc Tryd.prog W' 0 (fun b => decide (b < W.heap.size)) true ts vs ds ps
  | [], [], [], _, _, h, _, _, _ => h
  | t :: ts, v :: vs, d :: ds, _, _, ⟨p, q, h1, h2, e⟩, hb, hlt, hr =>
    ⟨p, q, Below.trod laidOut (hr t (List.mem_cons_self ..)).1 (hr t (List.mem_cons_self ..)).2 h1 hb (fun x hx => hlt x (by rw [e]; exact List.mem_append_left _ hx)),
      trodAll_below h2 hb (fun x hx => hlt x (by rw [e]; exact List.mem_append_right _ hx)) (fun t ht => hr t (List.mem_cons_of_mem _ ht)), e⟩

theorem law_post {s : ChangeSpec} {f : Func} {args : Array Value} {ds gs : List (DataW H)} {before : List MemPlace} {W' : World} (hW : DataW.Whole enc Tryd.prog f.params.toList s.vars false W args.toList ds gs before) (hvars : s.vars = []) (hb : Below W.heap.size W W')
    (hres : f.resultTypes = #[4]) (hfn : s.fn H (ds ++ gs) = { results := [.lit (.bool true)], args := ds }) (hr : ∀ t ∈ f.params.toList, Tryd.prog.readableRec t = true ∧ t < Tryd.prog.types.size) :
    s.post enc Tryd.prog f false true false false W args (.bool true) W' := by
  have hW' := hW
  obtain ⟨p, q, hA, hV, rfl, _, _⟩ := hW
  rw [hvars] at hV
  obtain ⟨rfl, rfl⟩ := trodVars_none hV
  refine ⟨ds, [], p ++ [], [], p, [], hW', ?_, ?_, ?_, hb.frame _, fun h => by cases h⟩
  · rw [hfn, hres]
    exact trodAll_mk1 (shut_bool Tryd.underlying4 true)
  · rw [hfn]
    exact trodAll_below hA hb (fun x hx => by simpa using hW'.lt x (List.mem_append_left _ hx)) hr
  · rw [hfn, hvars]
    rfl
end

abbrev laidList : List (String × DataW Unit) := Rows.arenaActsRow.laid
theorem tabOk {W : World} (hL : laidMetH Tryd.prog laidList W) : TabOk W := by
  have h : laidMet Tryd.prog laidList W := hL
  have h3 : laidMet Tryd.prog [("math/bits.deBruijn64tab", Lib.tabData .u8 (Lib.deBruijn64tab.map fun (x : Nat) => (x : Int)))] W := h
  have ht : Lib.TabIs Tryd.prog W "math/bits.deBruijn64tab" .u8 (Lib.deBruijn64tab.map fun (x : Nat) => (x : Int)) := Lib.tabIs_of_head (g := 0) (by kernel_rfl) (by kernel_rfl) Tryd.underlying94 Tryd.underlying5 (by kernel_rfl) (by kernel_rfl) h3
  intro j hj
  have hc := ht.cell (g := 0) (by kernel_rfl) j (by rw [List.length_map]; exact hj)
  rw [hc]
  simp [List.getD, hj]

/-! ### A world that fits -/
noncomputable def dataCells (n : String) : Array Value := match laidList.find? (fun x => x.1 == n) with
  | some (_, .agg ds) => (ds.map fun d => match d with | .lit (.int k z) => Value.int k z | _ => .nilIface).toArray
  | _ => #[]
noncomputable def laidWorld (os : Os) : World :=
  let w0 := World.holding Tryd.prog os ⟨#[], #[], []⟩
  let put (h : Array Obj) (g : Nat) (cs : Array Value) : Array Obj := h.modify g fun
    | .cells _ t frozen => .cells cs t frozen
    | o => o
  let h2 := w0.heap
  let h3 := put h2 0 (dataCells "math/bits.deBruijn64tab")
  { w0 with heap := h3 }
theorem laid_met (os : Os) (args : Array Value) : laidMet Tryd.prog laidList ((laidWorld os).forCall (fun _ _ => 0) ⟨#[], args, []⟩).memory :=
  laidMet_of_run' 8 (by kernel_rfl) (by kernel_rfl)
end Go.Proofs.YtagjjpmhacknpaaDoor

/- The frame of the laws of chapters 6 and 7: arguments that are lists. -/
set_option maxRecDepth 100000
namespace Go.Proofs.YtagjjpmhacknpaaDoor
open Go.ChangeShapes Go.WideShapes Go.ChangeAt Go.RowKit
open Go.ChangeMaps (open_string shut_string)
theorem getD_at {α : Type} {l : List α} {d : α} {i : Nat} (h : i < l.length) : l.getD i d = l[i] := by simp [List.getD, h]
theorem zero_maxLen : 0 ≤ maxLen := Nat.zero_le _
theorem maxLen_eq : maxLen = 9223372036854775807 := rfl
structure ReadO (v : Value) (l : List Bool) (W : World) : Prop where
  form : ∃ ao cap, v = .slice ao l.length cap ∧ ∀ (j : Nat) (h : j < l.length), ∃ b off, ao = some ⟨b, off, none⟩ ∧ W.cell? ⟨b, off + j, none⟩ = some (.bool l[j])
section
variable {H : Type} {enc : TypeId × Value → H} {W : World}
theorem arg_string {r : Reach} {b0 : Nat} {v : Value} {d : DataW H} {ps : List MemPlace} (hval : Value.okWide Tryd.prog W r b0 9 v) (hd : DataW.Trod enc Tryd.prog W 0 (fun _ => true) true 9 v d ps) :
    ∃ l : List UInt8, v = .string ⟨l.toArray⟩ ∧ l.length ≤ maxLen := by
  obtain ⟨s, rfl, _, _, hs⟩ := open_string Tryd.underlying9 hval hd
  obtain ⟨⟨l⟩⟩ := s
  exact ⟨l, rfl, (show (⟨⟨l⟩⟩ : ByteArray).size = l.length from rfl) ▸ hs⟩
end
end Go.Proofs.YtagjjpmhacknpaaDoor

/- The frame of ArenaActs: an argument that is a list of acts. -/
set_option maxRecDepth 100000
namespace Go.Proofs.YtagjjpmhacknpaaDoor
open Go.ChangeShapes Go.WideShapes Go.ChangeAt Go.RowKit
theorem flatAx_len : ∀ l : List Axc, (l.flatMap encAx).length = l.length * 5
  | [] => rfl
  | a :: l => by rw [List.flatMap_cons, List.length_append, flatAx_len l, encAx_len, List.length_cons]; omega
theorem RK.ofActs6 {l : List Axc} {W : World} {b off cap : Nat} (hcap : l.length ≤ cap) (hc : ∀ (i : Nat) (h : i < l.length) (f : Nat), f < 5 → W.cell? ⟨b, off + (i * 5 + f), none⟩ = (encAx l[i])[f]?) :
    RK encAx (fun _ => True) (.slice (some ⟨b, off, none⟩) l.length cap) l W :=
  ⟨some ⟨b, off, none⟩, cap, rfl, hcap, fun j u hu => ⟨b, off, rfl, trivial, by
    have hj : j < (l.flatMap encAx).length := (List.getElem?_eq_some_iff.1 hu).1
    have hl5 := flatAx_len l
    have hi : j / 5 < l.length := by omega
    have hf : j % 5 < 5 := by omega
    have e : j = j / 5 * 5 + j % 5 := by omega
    have h1 := flat_get encAx 5 encAx_len l (j / 5) (j % 5) hi hf
    rw [← e] at h1
    have h2 := hc (j / 5) hi (j % 5) hf
    rw [← e] at h2
    rw [h2, ← h1, hu]⟩⟩
section
variable {H : Type} {enc : TypeId × Value → H} {W : World}
theorem bytes_in6 {fuel : Nat} {c : Value} {x : DataW H × List MemPlace} (hf : DataW.trod enc Tryd.prog W 0 (fun _ => true) true fuel 34 [c] = some x) : ∃ (ao : Option Addr) (cap : Nat) (l : List UInt8), c = .slice ao l.length cap ∧ RK encC (fun _ => True) (.slice ao l.length cap) l W ∧ l.length ≤ maxLen := by
  rcases open_ints Tryd.underlying34 Tryd.underlying5 (by kernel_rfl) hf with ⟨hcs, _⟩ | ⟨a, len, cap, zs, hcs, _, hle, hmax, hall, _, hc, hw⟩
  · obtain rfl : c = .slice none 0 0 := by simpa using hcs
    exact ⟨none, 0, [], rfl, RK.nil _ _ _, zero_maxLen⟩
  · obtain rfl : c = .slice (some a) len cap := by simpa using hcs
    simp only [if_true] at hall
    have hlen : ((zs.take len).map (fun z => UInt8.ofNat z.toNat)).length = len := by rw [List.length_map, List.length_take]; omega
    refine ⟨some a, cap, (zs.take len).map (fun z => UInt8.ofNat z.toNat), by rw [hlen], ?_, by rw [hlen]; omega⟩
    rw [hlen]
    refine ⟨some a, cap, by rw [hlen], by rw [hlen]; exact hle, fun j u hu => ?_⟩
    rw [flatC] at hu
    have hj : j < len := by
      have := (List.getElem?_eq_some_iff.1 hu).1
      rw [List.length_map, hlen] at this
      exact this
    obtain ⟨b, off, rfl, hcc⟩ := ints_at hc (by omega)
    refine ⟨b, off, rfl, trivial, ?_⟩
    have hjz : j < zs.length := by omega
    have hb := bounds_u8 (hw zs[j] (List.getElem_mem hjz))
    have e1 : (UInt8.ofNat zs[j].toNat).toNat = zs[j].toNat := by simp; omega
    rw [hcc j (by omega), getD_at (l := zs) (i := j) hjz, ← hu, List.getElem?_map, List.getElem?_map, List.getElem?_take, if_pos hj, List.getElem?_eq_getElem hjz]
    show some (Value.int .u8 zs[j]) = some (encB (UInt8.ofNat zs[j].toNat))
    rw [encB, e1, Int.toNat_of_nonneg hb.1]
theorem act_in6 {fuel : Nat} {cs : List Value} {x : DataW H × List MemPlace} (hf : DataW.trod enc Tryd.prog W 0 (fun _ => true) true fuel 36 cs = some x) :
    ∃ a : Axc, cs = encAx a ∧ (a.b.length ≤ maxLen ∧ RK encC (fun _ => True) (.slice a.ao a.b.length a.c) a.b W) ∧ (-9223372036854775808 ≤ a.at_ ∧ a.at_ ≤ 9223372036854775807) ∧ -9223372036854775808 ≤ a.n ∧ a.n ≤ 9223372036854775807 := by
  obtain ⟨ys, n, _, rfl, hl, hlen, hg⟩ := DataW.trod_struct Tryd.underlying36 hf
  have hl5 : cs.length = 5 := hl.trans (by kernel_rfl)
  match cs, hl5 with
  | [c0, c1, c2, c3, c4], _ =>
    have k1 : Tryd.prog.cellsOf 3 = 1 := by kernel_rfl
    have k2 : Tryd.prog.cellsOf 34 = 1 := by kernel_rfl
    match ys, hlen with
    | [y0, y1, y2, y3, y4], _ =>
      have g0 := hg 0 _ rfl
      have g1 := hg 1 _ rfl
      have g2 := hg 2 _ rfl
      have g3 := hg 3 _ rfl
      have g4 := hg 4 _ rfl
      simp [k1, k2] at g0 g1 g2 g3 g4
      obtain ⟨z0, e0, _, _⟩ := DataW.trod_int Tryd.underlying3 g0
      obtain ⟨z1, e1, _, _⟩ := DataW.trod_int Tryd.underlying3 g1
      obtain ⟨z2, e2, _, hz2⟩ := DataW.trod_int Tryd.underlying3 g2
      obtain ⟨z3, e3, _, hz3⟩ := DataW.trod_int Tryd.underlying3 g3
      obtain ⟨ao, cap, l, rfl, hr, hll⟩ := bytes_in6 g4
      obtain rfl : c0 = .int .i64 z0 := by simpa using e0
      obtain rfl : c1 = .int .i64 z1 := by simpa using e1
      obtain rfl : c2 = .int .i64 z2 := by simpa using e2
      obtain rfl : c3 = .int .i64 z3 := by simpa using e3
      exact ⟨⟨z0, z1, z2, z3, ao, cap, l⟩, rfl, ⟨hll, hr⟩, bounds_i64 hz2, bounds_i64 hz3⟩
theorem arg_acts6 {b0 : Nat} {v : Value} {d : DataW H} {ps : List MemPlace} (hval : Value.okWide Tryd.prog W .any b0 22 v) (hd : DataW.Trod enc Tryd.prog W 0 (fun _ => true) true 22 v d ps) :
    ∃ l : List Axc, RK encAx (fun _ => True) v l W ∧ (∀ a ∈ l, a.b.length ≤ maxLen ∧ RK encC (fun _ => True) (.slice a.ao a.b.length a.c) a.b W) ∧ (∀ a ∈ l, (-9223372036854775808 ≤ a.at_ ∧ a.at_ ≤ 9223372036854775807) ∧ -9223372036854775808 ≤ a.n ∧ a.n ≤ 9223372036854775807) ∧ l.length ≤ maxLen := by
  obtain ⟨a0, len, cap, rfl⟩ := okWide_slice Tryd.underlying22 hval
  obtain ⟨fuel, hf⟩ := hd
  rcases Go.Deep.open_slice Tryd.underlying22 hf with ⟨hcs, _⟩ | ⟨a, len', cap', m, n, D, Pl, hcs, _, hle, hmax, hm, _, hi⟩
  · simp [Value.cells] at hcs
    obtain ⟨rfl, rfl, rfl⟩ := hcs
    exact ⟨[], RK.nil _ _ _, by simp, by simp, zero_maxLen⟩
  · simp [Value.cells] at hcs
    obtain ⟨rfl, rfl, rfl⟩ := hcs
    simp only [if_true] at hm
    subst hm
    have k5 : Tryd.prog.cellsOf 36 = 5 := by kernel_rfl
    have hall : ∀ i, i < len → ∃ x : Axc, (∀ j, j < 5 → W.cell? ((a.add (i * 5)).add j) = (encAx x)[j]?) ∧ (x.b.length ≤ maxLen ∧ RK encC (fun _ => True) (.slice x.ao x.b.length x.c) x.b W) ∧ (-9223372036854775808 ≤ x.at_ ∧ x.at_ ≤ 9223372036854775807) ∧ -9223372036854775808 ≤ x.n ∧ x.n ≤ 9223372036854775807 := fun i hil => by
      obtain ⟨cs', hc, ht⟩ := hi i (by omega)
      rw [k5] at hc
      obtain ⟨_, _, hat⟩ := World.cells?_some hc
      obtain ⟨x, rfl, r⟩ := act_in6 ht
      exact ⟨x, hat, r⟩
    obtain ⟨F, hF⟩ : ∃ F : Nat → Axc, ∀ i, i < len → (∀ j, j < 5 → W.cell? ((a.add (i * 5)).add j) = (encAx (F i))[j]?) ∧ ((F i).b.length ≤ maxLen ∧ RK encC (fun _ => True) (.slice (F i).ao (F i).b.length (F i).c) (F i).b W) ∧ (-9223372036854775808 ≤ (F i).at_ ∧ (F i).at_ ≤ 9223372036854775807) ∧ -9223372036854775808 ≤ (F i).n ∧ (F i).n ≤ 9223372036854775807 :=
      ⟨fun i => if h : i < len then (hall i h).choose else ⟨0, 0, 0, 0, none, 0, []⟩, fun i h => by have h5 := (hall i h).choose_spec; simp only [h, dite_true]; exact h5⟩
    have hin : ∀ x ∈ (List.range len).map F, ∃ i, i < len ∧ F i = x := fun x hx => by
      obtain ⟨i, hi, rfl⟩ := List.mem_map.1 hx
      exact ⟨i, List.mem_range.1 hi, rfl⟩
    refine ⟨(List.range len).map F, ?_, fun x hx => ?_, fun x hx => ?_, by simp; omega⟩
    · by_cases h0 : 0 < len
      · obtain ⟨b, off, spot⟩ := a
        have c00 := (hF 0 h0).1 0 (by omega)
        have hspot : spot = none := by simpa [Addr.add] using World.cell?_spot (show W.cell? _ = some _ from c00)
        subst hspot
        have hz := RK.ofActs6 (l := (List.range len).map F) (W := W) (b := b) (off := off) (cap := m) (by simp; omega) (fun i hi f hf => by
          rw [List.length_map, List.length_range] at hi
          have h1 := (hF i hi).1 f hf
          rw [add_plain, add_plain, Nat.add_assoc] at h1
          rw [h1, List.getElem_map, List.getElem_range])
        rw [List.length_map, List.length_range] at hz
        exact hz
      · obtain rfl : len = 0 := by omega
        exact ⟨some a, m, rfl, Nat.zero_le _, fun j u hu => by simp at hu⟩
    · obtain ⟨i, hi, rfl⟩ := hin x hx
      exact (hF i hi).2.1
    · obtain ⟨i, hi, rfl⟩ := hin x hx
      exact (hF i hi).2.2
end
theorem readT6 : ∀ t ∈ [3, 22], Tryd.prog.readableRec t = true ∧ t < Tryd.prog.types.size := by
  intro t ht
  simp only [List.mem_cons, List.not_mem_nil, or_false] at ht
  rcases ht with rfl | rfl
  all_goals exact ⟨by kernel_rfl, of_decide_eq_true (by kernel_rfl)⟩
theorem standT6 : ∀ t ∈ [3, 22], Tryd.prog.wantsStandIn t = false := by
  intro t ht
  simp only [List.mem_cons, List.not_mem_nil, or_false] at ht
  rcases ht with rfl | rfl
  all_goals kernel_rfl
end Go.Proofs.YtagjjpmhacknpaaDoor
