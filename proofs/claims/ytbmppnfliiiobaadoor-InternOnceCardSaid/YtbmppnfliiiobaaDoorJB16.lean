/- 4 texts put together: Cards, Tie, FrameA, Math. -/
import Derived.Test.YtbmppnfliiiobaaDoorRows
import GoSem.ClaimSeven
import Derived.LaidByTextLater
import Derived.SevenTiedAt
import Derived.LaidSub
import Derived.LaidOnce
import Derived.Deep.DeepHandedRow
import Derived.Deep.DeepWitnessRowRef
import Derived.Stop.LaidErr
import Derived.Carry
import Derived.ProofKit
import Derived.OpenShut
import Derived.SliceStrings
import Derived.ChangeSlices
import Derived.LaidLaws
import Derived.Lib.LaidTab
import Derived.WalkKit
import Derived.Test.YtbmppnfliiiobaaDoorJB4
/-
  DERIVED. GIVEN WITH THE SEED: THE CARDS: each row of YtbmppnfliiiobaaDoorRows.lean that lists a variable, with what it lists TIED to the program's text (the seventh form; the later family's looks); each row that meets fmt, with fmt's text TOLD by the authors' own Lean function (tested against real Go, not proved from fmt's source: count such statements apart). THE CARD IS WHAT COUNTS. Prove the row's statement (the work); the ties are given (YtbmppnfliiiobaaDoorTie.lean); close each card by the builder's one call (the guide's Derived/Test/ToyasCard.lean, 'card_holds'). Laid BY PROGRAM, IN A SANDBOX (cutbox-door.mjs). By AI agents, Wed Nov 11 2026. No macro, syntax, notation, axiom, sorry.
-/
namespace Go.Proofs.YtbmppnfliiiobaaDoor
namespace Rows

/-- THE TIED CARD OF 'freshetlaw6.ArenaActs'. -/
def arenaActsCard : Claim7 := { stood := { row := arenaActsRow, standIns := [], harness := (true, "d95df887f927c0617491401707d8f5ea90a2dd5544f04eec7589b1742eb6b7e7"), looks := false }, kinds := [], alts := [], laidByText := true, laidKinds := [.data], laidTests := true, laidLooks := .later }
def ArenaActsCardSaid : Prop := Claim7.holds Tryd.pinned (.plain (OpenSpec.ofChange arenaActsSpec)) arenaActsCard

/-- THE TIED CARD OF 'freshetlaw6.ArenaMoves'. -/
def arenaMovesCard : Claim7 := { stood := { row := arenaMovesRow, standIns := [], harness := (true, "d95df887f927c0617491401707d8f5ea90a2dd5544f04eec7589b1742eb6b7e7"), looks := false }, kinds := [], alts := [], laidByText := true, laidKinds := [.data], laidTests := true, laidLooks := .later }
def ArenaMovesCardSaid : Prop := Claim7.holds Tryd.pinned (.plain (OpenSpec.ofChange arenaMovesSpec)) arenaMovesCard

/-- THE TIED CARD OF 'freshetlaw6.ArenaCosts'. -/
def arenaCostsCard : Claim7 := { stood := { row := arenaCostsRow, standIns := [], harness := (true, "d95df887f927c0617491401707d8f5ea90a2dd5544f04eec7589b1742eb6b7e7"), looks := false }, kinds := [], alts := [], laidByText := true, laidKinds := [.data], laidTests := true, laidLooks := .later }
def ArenaCostsCardSaid : Prop := Claim7.holds Tryd.pinned (.plain (OpenSpec.ofChange arenaCostsSpec)) arenaCostsCard

/-- THE TIED CARD OF 'freshetlaw6.ArenaHandles'. -/
def arenaHandlesCard : Claim7 := { stood := { row := arenaHandlesRow, standIns := [], harness := (true, "d95df887f927c0617491401707d8f5ea90a2dd5544f04eec7589b1742eb6b7e7"), looks := false }, kinds := [], alts := [], laidByText := true, laidKinds := [.data], laidTests := true, laidLooks := .later }
def ArenaHandlesCardSaid : Prop := Claim7.holds Tryd.pinned (.plain (OpenSpec.ofChange arenaHandlesSpec)) arenaHandlesCard

/-- THE TIED CARD OF 'freshetlaw6.ArenaEdges'. -/
def arenaEdgesCard : Claim7 := { stood := { row := arenaEdgesRow, standIns := [], harness := (true, "d95df887f927c0617491401707d8f5ea90a2dd5544f04eec7589b1742eb6b7e7"), looks := false }, kinds := [], alts := [], laidByText := true, laidKinds := [.data], laidTests := true, laidLooks := .later }
def ArenaEdgesCardSaid : Prop := Claim7.holds Tryd.pinned (.plain (OpenSpec.ofChange arenaEdgesSpec)) arenaEdgesCard

/-- THE TIED CARD OF 'freshetlaw6.ArenaReuse'. -/
def arenaReuseCard : Claim7 := { stood := { row := arenaReuseRow, standIns := [], harness := (true, "d95df887f927c0617491401707d8f5ea90a2dd5544f04eec7589b1742eb6b7e7"), looks := false }, kinds := [], alts := [], laidByText := true, laidKinds := [.data], laidTests := true, laidLooks := .later }
def ArenaReuseCardSaid : Prop := Claim7.holds Tryd.pinned (.plain (OpenSpec.ofChange arenaReuseSpec)) arenaReuseCard

/-- THE TIED CARD OF 'freshetlaw7.InternActs'. -/
def internActsCard : Claim7 := { stood := { row := internActsRow, standIns := [], harness := (true, "d95df887f927c0617491401707d8f5ea90a2dd5544f04eec7589b1742eb6b7e7"), looks := false }, kinds := [], alts := [], laidByText := true, laidKinds := [.data], laidTests := true, laidLooks := .later }
def InternActsCardSaid : Prop := Claim7.holds Tryd.pinned (.plain (OpenSpec.ofChange internActsSpec)) internActsCard

/-- THE TIED CARD OF 'freshetlaw7.InternOnce'. -/
def internOnceCard : Claim7 := { stood := { row := internOnceRow, standIns := [], harness := (true, "d95df887f927c0617491401707d8f5ea90a2dd5544f04eec7589b1742eb6b7e7"), looks := false }, kinds := [], alts := [], laidByText := true, laidKinds := [.data], laidTests := true, laidLooks := .later }
def InternOnceCardSaid : Prop := Claim7.holds Tryd.pinned (.plain (OpenSpec.ofChange internOnceSpec)) internOnceCard

/-- THE TIED CARD OF 'freshetlaw7.InternFull'. -/
def internFullCard : Claim7 := { stood := { row := internFullRow, standIns := [], harness := (true, "d95df887f927c0617491401707d8f5ea90a2dd5544f04eec7589b1742eb6b7e7"), looks := false }, kinds := [], alts := [], laidByText := true, laidKinds := [.data], laidTests := true, laidLooks := .later }
def InternFullCardSaid : Prop := Claim7.holds Tryd.pinned (.plain (OpenSpec.ofChange internFullSpec)) internFullCard

/-- THE TIED CARD OF 'freshetlaw7.InternCosts'. -/
def internCostsCard : Claim7 := { stood := { row := internCostsRow, standIns := [], harness := (true, "d95df887f927c0617491401707d8f5ea90a2dd5544f04eec7589b1742eb6b7e7"), looks := false }, kinds := [], alts := [], laidByText := true, laidKinds := [.data], laidTests := true, laidLooks := .later }
def InternCostsCardSaid : Prop := Claim7.holds Tryd.pinned (.plain (OpenSpec.ofChange internCostsSpec)) internCostsCard

/-- THE SECOND FORM's CARD OF 'freshetlaw6.ArenaActs'. -/
def arenaActsUptoCard : Claim7 := { stood := { row := arenaActsUptoRow, standIns := [], harness := (true, "d95df887f927c0617491401707d8f5ea90a2dd5544f04eec7589b1742eb6b7e7"), looks := false }, kinds := [], alts := [], laidByText := true, laidKinds := [.data], laidTests := true, laidLooks := .later }
def ArenaActsUptoCardSaid : Prop := Claim7.holds Tryd.pinned (.plain (OpenSpec.upto arenaActsSpec)) arenaActsUptoCard

/-- THE SECOND FORM's CARD OF 'freshetlaw6.ArenaMoves'. -/
def arenaMovesUptoCard : Claim7 := { stood := { row := arenaMovesUptoRow, standIns := [], harness := (true, "d95df887f927c0617491401707d8f5ea90a2dd5544f04eec7589b1742eb6b7e7"), looks := false }, kinds := [], alts := [], laidByText := true, laidKinds := [.data], laidTests := true, laidLooks := .later }
def ArenaMovesUptoCardSaid : Prop := Claim7.holds Tryd.pinned (.plain (OpenSpec.upto arenaMovesSpec)) arenaMovesUptoCard

/-- THE SECOND FORM's CARD OF 'freshetlaw6.ArenaCosts'. -/
def arenaCostsUptoCard : Claim7 := { stood := { row := arenaCostsUptoRow, standIns := [], harness := (true, "d95df887f927c0617491401707d8f5ea90a2dd5544f04eec7589b1742eb6b7e7"), looks := false }, kinds := [], alts := [], laidByText := true, laidKinds := [.data], laidTests := true, laidLooks := .later }
def ArenaCostsUptoCardSaid : Prop := Claim7.holds Tryd.pinned (.plain (OpenSpec.upto arenaCostsSpec)) arenaCostsUptoCard

/-- THE SECOND FORM's CARD OF 'freshetlaw6.ArenaHandles'. -/
def arenaHandlesUptoCard : Claim7 := { stood := { row := arenaHandlesUptoRow, standIns := [], harness := (true, "d95df887f927c0617491401707d8f5ea90a2dd5544f04eec7589b1742eb6b7e7"), looks := false }, kinds := [], alts := [], laidByText := true, laidKinds := [.data], laidTests := true, laidLooks := .later }
def ArenaHandlesUptoCardSaid : Prop := Claim7.holds Tryd.pinned (.plain (OpenSpec.upto arenaHandlesSpec)) arenaHandlesUptoCard

/-- THE SECOND FORM's CARD OF 'freshetlaw6.ArenaEdges'. -/
def arenaEdgesUptoCard : Claim7 := { stood := { row := arenaEdgesUptoRow, standIns := [], harness := (true, "d95df887f927c0617491401707d8f5ea90a2dd5544f04eec7589b1742eb6b7e7"), looks := false }, kinds := [], alts := [], laidByText := true, laidKinds := [.data], laidTests := true, laidLooks := .later }
def ArenaEdgesUptoCardSaid : Prop := Claim7.holds Tryd.pinned (.plain (OpenSpec.upto arenaEdgesSpec)) arenaEdgesUptoCard

/-- THE SECOND FORM's CARD OF 'freshetlaw6.ArenaReuse'. -/
def arenaReuseUptoCard : Claim7 := { stood := { row := arenaReuseUptoRow, standIns := [], harness := (true, "d95df887f927c0617491401707d8f5ea90a2dd5544f04eec7589b1742eb6b7e7"), looks := false }, kinds := [], alts := [], laidByText := true, laidKinds := [.data], laidTests := true, laidLooks := .later }
def ArenaReuseUptoCardSaid : Prop := Claim7.holds Tryd.pinned (.plain (OpenSpec.upto arenaReuseSpec)) arenaReuseUptoCard

/-- THE SECOND FORM's CARD OF 'freshetlaw7.InternActs'. -/
def internActsUptoCard : Claim7 := { stood := { row := internActsUptoRow, standIns := [], harness := (true, "d95df887f927c0617491401707d8f5ea90a2dd5544f04eec7589b1742eb6b7e7"), looks := false }, kinds := [], alts := [], laidByText := true, laidKinds := [.data], laidTests := true, laidLooks := .later }
def InternActsUptoCardSaid : Prop := Claim7.holds Tryd.pinned (.plain (OpenSpec.upto internActsSpec)) internActsUptoCard

/-- THE SECOND FORM's CARD OF 'freshetlaw7.InternOnce'. -/
def internOnceUptoCard : Claim7 := { stood := { row := internOnceUptoRow, standIns := [], harness := (true, "d95df887f927c0617491401707d8f5ea90a2dd5544f04eec7589b1742eb6b7e7"), looks := false }, kinds := [], alts := [], laidByText := true, laidKinds := [.data], laidTests := true, laidLooks := .later }
def InternOnceUptoCardSaid : Prop := Claim7.holds Tryd.pinned (.plain (OpenSpec.upto internOnceSpec)) internOnceUptoCard

/-- THE SECOND FORM's CARD OF 'freshetlaw7.InternFull'. -/
def internFullUptoCard : Claim7 := { stood := { row := internFullUptoRow, standIns := [], harness := (true, "d95df887f927c0617491401707d8f5ea90a2dd5544f04eec7589b1742eb6b7e7"), looks := false }, kinds := [], alts := [], laidByText := true, laidKinds := [.data], laidTests := true, laidLooks := .later }
def InternFullUptoCardSaid : Prop := Claim7.holds Tryd.pinned (.plain (OpenSpec.upto internFullSpec)) internFullUptoCard

/-- THE SECOND FORM's CARD OF 'freshetlaw7.InternCosts'. -/
def internCostsUptoCard : Claim7 := { stood := { row := internCostsUptoRow, standIns := [], harness := (true, "d95df887f927c0617491401707d8f5ea90a2dd5544f04eec7589b1742eb6b7e7"), looks := false }, kinds := [], alts := [], laidByText := true, laidKinds := [.data], laidTests := true, laidLooks := .later }
def InternCostsUptoCardSaid : Prop := Claim7.holds Tryd.pinned (.plain (OpenSpec.upto internCostsSpec)) internCostsUptoCard
end Rows
end Go.Proofs.YtbmppnfliiiobaaDoor

/-
  DERIVED. GIVEN WITH THE SEED: THE PROGRAM's TIES (one call each: nine closed facts by the kernel) AND EACH ROW's TIE, after the 31st guide's Derived/Test/Toyas{Tie, Card}.lean. No idea stands in it: it is a product of the set-up. Laid BY PROGRAM, IN A SANDBOX (cutbox-door.mjs). By AI agents, Wed Nov 11 2026. No macro, syntax, notation, axiom, sorry.
-/
namespace Go.Proofs.YtbmppnfliiiobaaDoor
open Go
set_option maxRecDepth 100000
theorem seatTie1 : Tryd.prog.laidByTextLater [("math/bits.deBruijn64tab", Rows.laid_math_bits_deBruijn64tab)] [.data] true :=
  Program.laidByTextLater_by_one 14 8 65 (by kernel_rfl) (by kernel_rfl) (by kernel_rfl) (by kernel_rfl) (by kernel_rfl) (by kernel_rfl) (fun _ _ => by kernel_rfl)
theorem noOwnUnsafe : Tryd.pinned.checked.prog.headLifts.contains "ownunsafe" = false := by kernel_rfl
theorem tie : Tryd.prog.laidByTextLater [("math/bits.deBruijn64tab", Rows.laid_math_bits_deBruijn64tab)] [.data] true :=
  Program.laidByTextLater.sub seatTie1 ["math/bits.deBruijn64tab"] (by kernel_rfl) (by kernel_rfl)
theorem arenaActs_row_tie : Rows.arenaActsRow.laidByTextAt .later Tryd.pinned [.data] true :=
  OpenClaim.laidByTextAt_later rfl rfl tie noOwnUnsafe
theorem arenaMoves_row_tie : Rows.arenaMovesRow.laidByTextAt .later Tryd.pinned [.data] true :=
  OpenClaim.laidByTextAt_later rfl rfl tie noOwnUnsafe
theorem arenaCosts_row_tie : Rows.arenaCostsRow.laidByTextAt .later Tryd.pinned [.data] true :=
  OpenClaim.laidByTextAt_later rfl rfl tie noOwnUnsafe
theorem arenaHandles_row_tie : Rows.arenaHandlesRow.laidByTextAt .later Tryd.pinned [.data] true :=
  OpenClaim.laidByTextAt_later rfl rfl tie noOwnUnsafe
theorem arenaEdges_row_tie : Rows.arenaEdgesRow.laidByTextAt .later Tryd.pinned [.data] true :=
  OpenClaim.laidByTextAt_later rfl rfl tie noOwnUnsafe
theorem arenaReuse_row_tie : Rows.arenaReuseRow.laidByTextAt .later Tryd.pinned [.data] true :=
  OpenClaim.laidByTextAt_later rfl rfl tie noOwnUnsafe
theorem internActs_row_tie : Rows.internActsRow.laidByTextAt .later Tryd.pinned [.data] true :=
  OpenClaim.laidByTextAt_later rfl rfl tie noOwnUnsafe
theorem internOnce_row_tie : Rows.internOnceRow.laidByTextAt .later Tryd.pinned [.data] true :=
  OpenClaim.laidByTextAt_later rfl rfl tie noOwnUnsafe
theorem internFull_row_tie : Rows.internFullRow.laidByTextAt .later Tryd.pinned [.data] true :=
  OpenClaim.laidByTextAt_later rfl rfl tie noOwnUnsafe
theorem internCosts_row_tie : Rows.internCostsRow.laidByTextAt .later Tryd.pinned [.data] true :=
  OpenClaim.laidByTextAt_later rfl rfl tie noOwnUnsafe
theorem arenaActsUpto_row_tie : Rows.arenaActsUptoRow.laidByTextAt .later Tryd.pinned [.data] true :=
  OpenClaim.laidByTextAt_later rfl rfl tie noOwnUnsafe
theorem arenaMovesUpto_row_tie : Rows.arenaMovesUptoRow.laidByTextAt .later Tryd.pinned [.data] true :=
  OpenClaim.laidByTextAt_later rfl rfl tie noOwnUnsafe
theorem arenaCostsUpto_row_tie : Rows.arenaCostsUptoRow.laidByTextAt .later Tryd.pinned [.data] true :=
  OpenClaim.laidByTextAt_later rfl rfl tie noOwnUnsafe
theorem arenaHandlesUpto_row_tie : Rows.arenaHandlesUptoRow.laidByTextAt .later Tryd.pinned [.data] true :=
  OpenClaim.laidByTextAt_later rfl rfl tie noOwnUnsafe
theorem arenaEdgesUpto_row_tie : Rows.arenaEdgesUptoRow.laidByTextAt .later Tryd.pinned [.data] true :=
  OpenClaim.laidByTextAt_later rfl rfl tie noOwnUnsafe
theorem arenaReuseUpto_row_tie : Rows.arenaReuseUptoRow.laidByTextAt .later Tryd.pinned [.data] true :=
  OpenClaim.laidByTextAt_later rfl rfl tie noOwnUnsafe
theorem internActsUpto_row_tie : Rows.internActsUptoRow.laidByTextAt .later Tryd.pinned [.data] true :=
  OpenClaim.laidByTextAt_later rfl rfl tie noOwnUnsafe
theorem internOnceUpto_row_tie : Rows.internOnceUptoRow.laidByTextAt .later Tryd.pinned [.data] true :=
  OpenClaim.laidByTextAt_later rfl rfl tie noOwnUnsafe
theorem internFullUpto_row_tie : Rows.internFullUptoRow.laidByTextAt .later Tryd.pinned [.data] true :=
  OpenClaim.laidByTextAt_later rfl rfl tie noOwnUnsafe
theorem internCostsUpto_row_tie : Rows.internCostsUptoRow.laidByTextAt .later Tryd.pinned [.data] true :=
  OpenClaim.laidByTextAt_later rfl rfl tie noOwnUnsafe
end Go.Proofs.YtbmppnfliiiobaaDoor

/- The frame that all of the seat's laws share: the arguments opened, the laid variables, a world that fits, the arguments read as they did. -/
set_option maxRecDepth 100000
namespace Go.Proofs.YtbmppnfliiiobaaDoor
open Go.ChangeShapes Go.WideShapes Go.ChangeAt Go.RowKit
open Go.ChangeMaps (open_string shut_string)

theorem own : ownKnob Tryd.prog.godebug = none := by kernel_rfl
theorem laidOut : laidOutB Tryd.prog = true := by kernel_rfl

section
variable {H : Type} {enc : TypeId × Value → H} {W : World}
theorem arg_int {r : Reach} {b0 : Nat} {v : Value} {d : DataW H} {ps : List MemPlace} (hval : Value.okWide Tryd.prog W r b0 3 v) (hd : DataW.Trod enc Tryd.prog W 0 (fun _ => true) true 3 v d ps) :
    ∃ z : Int, v = .int .i64 z ∧ -9223372036854775808 ≤ z ∧ z ≤ 9223372036854775807 := by
  obtain ⟨z, rfl, _, _, hw⟩ := open_int Tryd.underlying3 hval hd
  exact ⟨z, rfl, bounds_i64 hw⟩
theorem trodAll_below : ∀ {ts : List TypeId} {vs : List Value} {ds : List (DataW H)} {ps : List MemPlace} {W' : World}, DataW.TrodAll enc Tryd.prog W 0 (fun _ => true) true ts vs ds ps → Below W.heap.size W W' → (∀ x ∈ ps, x.block < W.heap.size) → (∀ t ∈ ts, Tryd.prog.readableRec t = true ∧ t < Tryd.prog.types.size) →
    DataW.TrodAll enc Tryd.prog W' 0 (fun b => decide (b < W.heap.size)) true ts vs ds ps
  | [], [], [], _, _, h, _, _, _ => h
  | t :: ts, v :: vs, d :: ds, _, _, ⟨p, q, h1, h2, e⟩, hb, hlt, hr =>
    ⟨p, q, Below.trod laidOut (hr t (List.mem_cons_self ..)).1 (hr t (List.mem_cons_self ..)).2 h1 hb (fun x hx => hlt x (by rw [e]; exact List.mem_append_left _ hx)),
      trodAll_below h2 hb (fun x hx => hlt x (by rw [e]; exact List.mem_append_right _ hx)) (fun t ht => hr t (List.mem_cons_of_mem _ ht)), e⟩

theorem law_post {s : ChangeSpec} {f : Func} {args : Array Value} {ds gs : List (DataW H)} {before : List MemPlace} {W' : World} (hW : DataW.Whole enc Tryd.prog f.params.toList s.vars false W args.toList ds gs before) (hvars : s.vars = []) (hb : Below W.heap.size W W')
    (hres : f.resultTypes = #[4]) (hfn : s.fn H (ds ++ gs) = { results := [.lit (.bool true)], args := ds }) (hr : ∀ t ∈ f.params.toList, Tryd.prog.readableRec t = true ∧ t < Tryd.prog.types.size) :
    s.post enc Tryd.prog f false true false false W args (.bool true) W' := by
  have hW' := hW
  obtain ⟨p, q, hA, hV, rfl, _, _⟩ := hW
  rw [hvars] at hV
  obtain ⟨rfl, rfl⟩ := trodVars_none hV
  refine ⟨ds, [], p ++ [], [], p, [], hW', ?_, ?_, ?_, hb.frame _, fun h => by cases h⟩
  · rw [hfn, hres]
    exact trodAll_mk1 (shut_bool Tryd.underlying4 true)
  · rw [hfn]
    exact trodAll_below hA hb (fun x hx => by simpa using hW'.lt x (List.mem_append_left _ hx)) hr
  · rw [hfn, hvars]
    rfl
end

theorem readT : ∀ t ∈ [3, 54], Tryd.prog.readableRec t = true ∧ t < Tryd.prog.types.size := by
  intro t ht
  simp only [List.mem_cons, List.not_mem_nil, or_false] at ht
  rcases ht with rfl | rfl
  all_goals exact ⟨by kernel_rfl, of_decide_eq_true (by kernel_rfl)⟩
theorem standT : ∀ t ∈ [3, 54], Tryd.prog.wantsStandIn t = false := by
  intro t ht
  simp only [List.mem_cons, List.not_mem_nil, or_false] at ht
  rcases ht with rfl | rfl
  all_goals kernel_rfl

/-! ### The laid variables -/
abbrev laidList : List (String × DataW Unit) := Rows.arenaCostsRow.laid
theorem tabOk {W : World} (hL : laidMetH Tryd.prog laidList W) : TabOk W := by
  have h : laidMet Tryd.prog laidList W := hL
  have h3 : laidMet Tryd.prog [("math/bits.deBruijn64tab", Lib.tabData .u8 (Lib.deBruijn64tab.map fun (x : Nat) => (x : Int)))] W := h
  have ht : Lib.TabIs Tryd.prog W "math/bits.deBruijn64tab" .u8 (Lib.deBruijn64tab.map fun (x : Nat) => (x : Int)) := Lib.tabIs_of_head (g := 0) (by kernel_rfl) (by kernel_rfl) Tryd.underlying143 Tryd.underlying5 (by kernel_rfl) (by kernel_rfl) h3
  intro j hj
  have hc := ht.cell (g := 0) (by kernel_rfl) j (by rw [List.length_map]; exact hj)
  rw [hc]
  simp [List.getD, hj]

/-! ### A world that fits -/
noncomputable def dataCells (n : String) : Array Value := match laidList.find? (fun x => x.1 == n) with
  | some (_, .agg ds) => (ds.map fun d => match d with | .lit (.int k z) => Value.int k z | _ => .nilIface).toArray
  | _ => #[]
noncomputable def laidWorld (os : Os) : World :=
  let w0 := World.holding Tryd.prog os ⟨#[], #[], []⟩
  let put (h : Array Obj) (g : Nat) (cs : Array Value) : Array Obj := h.modify g fun
    | .cells _ t frozen => .cells cs t frozen
    | o => o
  let h2 := w0.heap
  let h3 := put h2 0 (dataCells "math/bits.deBruijn64tab")
  { w0 with heap := h3 }
theorem laid_met (os : Os) (args : Array Value) : laidMet Tryd.prog laidList ((laidWorld os).forCall (fun _ _ => 0) ⟨#[], args, []⟩).memory :=
  laidMet_of_run' 8 (by kernel_rfl) (by kernel_rfl)
end Go.Proofs.YtbmppnfliiiobaaDoor

/- Plain mathematics of names (no program in it): a name's labels, and that a name and its labels say the same. -/
namespace Go.Proofs.YtbmppnfliiiobaaDoor.Nm

/-- The labels of what is written (however long it is), with fuel. -/
def labsF : Nat → List UInt8 → Option (List (List UInt8))
  | 0, _ => none
  | _ + 1, [] => none
  | f + 1, c :: r =>
    if c = 0 then (if r.isEmpty then some [] else none)
    else if 63 < c.toNat ∨ r.length < c.toNat then none
    else (labsF f (r.drop c.toNat)).map (fun l => r.take c.toNat :: l)

def labsU (n : List UInt8) : Option (List (List UInt8)) := labsF n.length n
def labs (n : List UInt8) : Option (List (List UInt8)) := if 255 < n.length then none else labsU n

theorem labsF_fuel : ∀ (f g : Nat) (n : List UInt8), n.length ≤ f → n.length ≤ g → labsF f n = labsF g n
  | 0, 0, _, _, _ => rfl
  | 0, g + 1, n, h, _ => by
    obtain rfl : n = [] := List.length_eq_zero_iff.1 (by omega)
    rfl
  | f + 1, 0, n, _, h => by
    obtain rfl : n = [] := List.length_eq_zero_iff.1 (by omega)
    rfl
  | f + 1, g + 1, [], _, _ => rfl
  | f + 1, g + 1, c :: r, h, h' => by
    simp only [List.length_cons] at h h'
    simp only [labsF]
    rw [labsF_fuel f g (r.drop c.toNat) (by simp; omega) (by simp; omega)]

theorem labsU_nil : labsU [] = none := rfl
theorem labsU_cons (c : UInt8) (r : List UInt8) : labsU (c :: r) =
    if c = 0 then (if r.isEmpty then some [] else none)
    else if 63 < c.toNat ∨ r.length < c.toNat then none
    else (labsU (r.drop c.toNat)).map (fun l => r.take c.toNat :: l) := by
  show labsF (r.length + 1) (c :: r) = _
  simp only [labsF, labsU]
  rw [labsF_fuel r.length (r.drop c.toNat).length _ (by simp) (Nat.le_refl _)]

/-- The name of labels. -/
def made : List (List UInt8) → List UInt8
  | [] => [0]
  | l :: ls => UInt8.ofNat l.length :: (l ++ made ls)
def good (ls : List (List UInt8)) : Prop := ∀ l ∈ ls, 1 ≤ l.length ∧ l.length ≤ 63

theorem ofNat_toNat {k : Nat} (h : k ≤ 63) : (UInt8.ofNat k).toNat = k := by
  simp; omega
theorem ofNat_ne {k : Nat} (h0 : 1 ≤ k) (h : k ≤ 63) : UInt8.ofNat k ≠ 0 := by
  intro e
  have := congrArg UInt8.toNat e
  rw [ofNat_toNat h] at this
  simp at this
  omega

theorem labsU_made : ∀ {ls : List (List UInt8)}, good ls → labsU (made ls) = some ls
  | [], _ => rfl
  | l :: ls, h => by
    obtain ⟨h1, h2⟩ := h l (by simp)
    rw [made, labsU_cons, if_neg (ofNat_ne h1 h2), ofNat_toNat h2, if_neg (by simp; omega)]
    have g : good ls := fun x hx => h x (List.mem_cons_of_mem _ hx)
    simp [labsU_made g]

theorem labsF_some : ∀ (f : Nat) {n : List UInt8} {ls : List (List UInt8)}, labsF f n = some ls → n = made ls ∧ good ls
  | 0, _, _, h => by cases h
  | f + 1, [], _, h => by cases h
  | f + 1, c :: r, ls, h => by
    simp only [labsF] at h
    split at h
    · rename_i hc
      split at h
      · rename_i hr
        cases h
        have : r = [] := by simpa using hr
        exact ⟨by rw [hc, this]; rfl, fun l hl => by cases hl⟩
      · cases h
    · rename_i hc
      split at h
      · cases h
      · rename_i hb
        obtain ⟨ls', h', rfl⟩ := Option.map_eq_some_iff.1 h
        obtain ⟨e, g⟩ := labsF_some f h'
        have hlen : (r.take c.toNat).length = c.toNat := by simp; omega
        have hc0 : c.toNat ≠ 0 := fun e0 => hc (by rw [← UInt8.toNat_inj]; simpa using e0)
        refine ⟨?_, ?_⟩
        · rw [made, hlen, ← e, List.take_append_drop]; simp
        · intro l hl
          rcases List.mem_cons.1 hl with rfl | hl
          · rw [hlen]; omega
          · exact g l hl

theorem labsU_iff {n : List UInt8} {ls : List (List UInt8)} : labsU n = some ls ↔ n = made ls ∧ good ls :=
  ⟨labsF_some _, fun ⟨e, g⟩ => e ▸ labsU_made g⟩
theorem labs_iff {n : List UInt8} {ls : List (List UInt8)} : labs n = some ls ↔ n = made ls ∧ good ls ∧ n.length ≤ 255 := by
  unfold labs
  split
  · rename_i h
    constructor
    · intro h; cases h
    · rintro ⟨_, _, h'⟩; omega
  · rename_i h
    rw [labsU_iff]
    constructor
    · rintro ⟨a, b⟩; exact ⟨a, b, by omega⟩
    · rintro ⟨a, b, _⟩; exact ⟨a, b⟩

def valid (n : List UInt8) : Bool := (labs n).isSome
def validU (n : List UInt8) : Bool := (labsU n).isSome

theorem validU_nil : validU [] = false := rfl
theorem validU_cons (c : UInt8) (r : List UInt8) : validU (c :: r) =
    if c = 0 then r.isEmpty
    else if 63 < c.toNat ∨ r.length < c.toNat then false
    else validU (r.drop c.toNat) := by
  unfold validU
  rw [labsU_cons]
  split
  · split <;> simp_all
  · split <;> simp

/-- Where a walk over a name stands: what is left decides. -/
def ValidAt (n : List UInt8) (k : Nat) : Prop := (k ≤ n.length → validU (n.drop k) = validU n) ∧ (n.length < k → validU n = false)
theorem validAt_zero (n : List UInt8) : ValidAt n 0 := ⟨fun _ => rfl, fun h => by omega⟩
theorem drop_cons {n : List UInt8} {k : Nat} (h : k < n.length) : n.drop k = n[k] :: n.drop (k + 1) := List.drop_eq_getElem_cons h
theorem valid_of_short {n : List UInt8} (h : ¬ 255 < n.length) : valid n = validU n := by simp [valid, validU, labs, h]
theorem ValidAt.stop {n : List UInt8} {k : Nat} (h : ValidAt n k) (hk : n.length ≤ k) : validU n = false := by
  by_cases e : k = n.length
  · have := h.1 (by omega)
    rw [← this, e, List.drop_length]; rfl
  · exact h.2 (by omega)
theorem ValidAt.zero {n : List UInt8} {k : Nat} (h : ValidAt n k) (hk : k < n.length) (h0 : n[k] = 0) : validU n = decide (k + 1 = n.length) := by
  rw [← h.1 (by omega), drop_cons hk, validU_cons, if_pos h0, Bool.eq_iff_iff]
  simp
  omega
theorem ValidAt.big {n : List UInt8} {k : Nat} (h : ValidAt n k) (hk : k < n.length) (h0 : 63 < n[k].toNat) : validU n = false := by
  rw [← h.1 (by omega), drop_cons hk, validU_cons, if_neg, if_pos (Or.inl h0)]
  intro e; rw [e] at h0; simp at h0
theorem ValidAt.step {n : List UInt8} {k : Nat} (h : ValidAt n k) (hk : k < n.length) (h0 : n[k] ≠ 0) (hb : ¬ 63 < n[k].toNat) : ValidAt n (k + (1 + n[k].toNat)) := by
  have e := h.1 (by omega)
  rw [drop_cons hk, validU_cons, if_neg h0] at e
  constructor
  · intro hl
    rw [if_neg (by simp; omega), List.drop_drop] at e
    rw [← e]
    congr 2
    omega
  · intro hl
    rw [if_pos (by simp; omega)] at e
    exact e.symm

/-! Letters made small, and how two are compared. -/
def small (c : UInt8) : UInt8 := if 65 ≤ c.toNat ∧ c.toNat ≤ 90 then c + 32 else c
theorem small_yes {c : UInt8} (h1 : 65 ≤ c.toNat) (h2 : c.toNat ≤ 90) : ((small c).toNat : Int) = (c.toNat : Int) + 32 := by
  unfold small
  rw [if_pos ⟨h1, h2⟩, UInt8.toNat_add]
  simp
  omega
theorem small_no {c : UInt8} (h : ¬ (65 ≤ c.toNat ∧ c.toNat ≤ 90)) : small c = c := by
  unfold small
  rw [if_neg h]
def cmpI (x y : Int) : Int := if x < y then -1 else if y < x then 1 else 0
theorem cmpI_lt {x y : Int} (h : x < y) : cmpI x y = -1 := if_pos h
theorem cmpI_gt {x y : Int} (h : y < x) : cmpI x y = 1 := by unfold cmpI; rw [if_neg (by omega), if_pos h]
theorem cmpI_eq {x y : Int} (h1 : ¬ x < y) (h2 : ¬ y < x) : cmpI x y = 0 := by unfold cmpI; rw [if_neg h1, if_neg h2]
theorem cmpI_self (x : Int) : cmpI x x = 0 := cmpI_eq (by omega) (by omega)
theorem cmpI_bounds (x y : Int) : -1 ≤ cmpI x y ∧ cmpI x y ≤ 1 := by unfold cmpI; split <;> (try split) <;> omega
theorem cmpI_zero {x y : Int} : cmpI x y = 0 ↔ x = y := by unfold cmpI; split <;> (try split) <;> constructor <;> intro h <;> omega
def cmpN : List UInt8 → List UInt8 → Int
  | [], [] => 0
  | [], _ :: _ => -1
  | _ :: _, [] => 1
  | a :: x, b :: y => if cmpI (small a).toNat (small b).toNat = 0 then cmpN x y else cmpI (small a).toNat (small b).toNat
theorem cmpN_bounds : ∀ (a b : List UInt8), -1 ≤ cmpN a b ∧ cmpN a b ≤ 1
  | [], [] => by simp [cmpN]
  | [], _ :: _ => by simp [cmpN]
  | _ :: _, [] => by simp [cmpN]
  | a :: x, b :: y => by
    unfold cmpN
    split
    · exact cmpN_bounds x y
    · exact cmpI_bounds _ _
/-- Where a comparison of two stands: what is left decides. -/
theorem cmpN_step {a b : List UInt8} {k : Nat} (ha : k < a.length) (hb : k < b.length) (h : cmpN (a.drop k) (b.drop k) = cmpN a b) :
    (cmpI (small a[k]).toNat (small b[k]).toNat = 0 → cmpN (a.drop (k + 1)) (b.drop (k + 1)) = cmpN a b) ∧ (cmpI (small a[k]).toNat (small b[k]).toNat ≠ 0 → cmpN a b = cmpI (small a[k]).toNat (small b[k]).toNat) := by
  rw [drop_cons ha, drop_cons hb, cmpN] at h
  constructor
  · intro e; rw [if_pos e] at h; exact h
  · intro e; rw [if_neg e] at h; exact h.symm
theorem cmpN_end {a b : List UInt8} {k : Nat} (hk : k = min a.length b.length) (h : cmpN (a.drop k) (b.drop k) = cmpN a b) : cmpN a b = cmpI a.length b.length := by
  rw [← h]
  by_cases e : a.length ≤ b.length
  · have e1 : a.drop k = [] := List.drop_of_length_le (by omega)
    rw [e1]
    by_cases e' : a.length = b.length
    · rw [List.drop_of_length_le (by omega : b.length ≤ k), e', cmpI_self]; rfl
    · rw [drop_cons (by omega : k < b.length), cmpI_lt (by omega)]; rfl
  · rw [List.drop_of_length_le (by omega : b.length ≤ k), drop_cons (by omega : k < a.length), cmpI_gt (by omega)]; rfl
def folded (n : List UInt8) : List UInt8 := n.map small
theorem cmpN_zero : ∀ {a b : List UInt8}, cmpN a b = 0 ↔ folded a = folded b
  | [], [] => by simp [cmpN, folded]
  | [], _ :: _ => by simp [cmpN, folded]
  | _ :: _, [] => by simp [cmpN, folded]
  | a :: x, b :: y => by
    unfold cmpN
    split
    · rename_i h
      rw [cmpI_zero] at h
      rw [cmpN_zero]
      have : small a = small b := by rw [← UInt8.toNat_inj]; omega
      simp [folded, this]
    · rename_i h
      constructor
      · intro e; exact absurd e h
      · intro e
        simp only [folded, List.map_cons, List.cons.injEq] at e
        exact absurd (by rw [cmpI_zero, e.1]) h

def same (a b : List UInt8) : Bool := valid a && valid b && folded a == folded b
theorem folded_length (n : List UInt8) : (folded n).length = n.length := by simp [folded]
theorem same_len {a b : List UInt8} (h : a.length ≠ b.length) : same a b = false := by
  have : folded a ≠ folded b := fun e => h (by rw [← folded_length a, e, folded_length])
  simp [same, this]

end Go.Proofs.YtbmppnfliiiobaaDoor.Nm
