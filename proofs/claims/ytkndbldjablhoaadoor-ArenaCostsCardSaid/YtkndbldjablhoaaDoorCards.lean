/-
  DERIVED. GIVEN WITH THE SEED: THE CARDS: each row of YtkndbldjablhoaaDoorRows.lean that lists a variable, with what it lists TIED to the program's text (the seventh form; the later family's looks); each row that meets fmt, with fmt's text TOLD by the authors' own Lean function (tested against real Go, not proved from fmt's source: count such statements apart). THE CARD IS WHAT COUNTS. Prove the row's statement (the work); the ties are given (YtkndbldjablhoaaDoorTie.lean); close each card by the builder's one call (the guide's Derived/Test/ToyasCard.lean, 'card_holds'). Laid BY PROGRAM, IN A SANDBOX (cutbox-door.mjs). By AI agents, Wed Nov 11 2026. No macro, syntax, notation, axiom, sorry.
-/
import Derived.Test.YtkndbldjablhoaaDoorRows
import GoSem.ClaimSeven
namespace Go.Proofs.YtkndbldjablhoaaDoor
namespace Rows

/-- THE TIED CARD OF 'freshetlaw6.ArenaActs'. -/
def arenaActsCard : Claim7 := { stood := { row := arenaActsRow, standIns := [], harness := (true, "8e744f7baab3f0acffbe64fb0ea34b13fc1f96920acd1b4182bc97ff18dfefc7"), looks := false }, kinds := [], alts := [], laidByText := true, laidKinds := [.data], laidTests := true, laidLooks := .later }
def ArenaActsCardSaid : Prop := Claim7.holds Tryd.pinned (.plain (OpenSpec.ofChange arenaActsSpec)) arenaActsCard

/-- THE TIED CARD OF 'freshetlaw6.ArenaMoves'. -/
def arenaMovesCard : Claim7 := { stood := { row := arenaMovesRow, standIns := [], harness := (true, "8e744f7baab3f0acffbe64fb0ea34b13fc1f96920acd1b4182bc97ff18dfefc7"), looks := false }, kinds := [], alts := [], laidByText := true, laidKinds := [.data], laidTests := true, laidLooks := .later }
def ArenaMovesCardSaid : Prop := Claim7.holds Tryd.pinned (.plain (OpenSpec.ofChange arenaMovesSpec)) arenaMovesCard

/-- THE TIED CARD OF 'freshetlaw6.ArenaCosts'. -/
def arenaCostsCard : Claim7 := { stood := { row := arenaCostsRow, standIns := [], harness := (true, "8e744f7baab3f0acffbe64fb0ea34b13fc1f96920acd1b4182bc97ff18dfefc7"), looks := false }, kinds := [], alts := [], laidByText := true, laidKinds := [.data], laidTests := true, laidLooks := .later }
def ArenaCostsCardSaid : Prop := Claim7.holds Tryd.pinned (.plain (OpenSpec.ofChange arenaCostsSpec)) arenaCostsCard

/-- THE TIED CARD OF 'freshetlaw6.ArenaHandles'. -/
def arenaHandlesCard : Claim7 := { stood := { row := arenaHandlesRow, standIns := [], harness := (true, "8e744f7baab3f0acffbe64fb0ea34b13fc1f96920acd1b4182bc97ff18dfefc7"), looks := false }, kinds := [], alts := [], laidByText := true, laidKinds := [.data], laidTests := true, laidLooks := .later }
def ArenaHandlesCardSaid : Prop := Claim7.holds Tryd.pinned (.plain (OpenSpec.ofChange arenaHandlesSpec)) arenaHandlesCard

/-- THE TIED CARD OF 'freshetlaw6.ArenaEdges'. -/
def arenaEdgesCard : Claim7 := { stood := { row := arenaEdgesRow, standIns := [], harness := (true, "8e744f7baab3f0acffbe64fb0ea34b13fc1f96920acd1b4182bc97ff18dfefc7"), looks := false }, kinds := [], alts := [], laidByText := true, laidKinds := [.data], laidTests := true, laidLooks := .later }
def ArenaEdgesCardSaid : Prop := Claim7.holds Tryd.pinned (.plain (OpenSpec.ofChange arenaEdgesSpec)) arenaEdgesCard

/-- THE TIED CARD OF 'freshetlaw6.ArenaReuse'. -/
def arenaReuseCard : Claim7 := { stood := { row := arenaReuseRow, standIns := [], harness := (true, "8e744f7baab3f0acffbe64fb0ea34b13fc1f96920acd1b4182bc97ff18dfefc7"), looks := false }, kinds := [], alts := [], laidByText := true, laidKinds := [.data], laidTests := true, laidLooks := .later }
def ArenaReuseCardSaid : Prop := Claim7.holds Tryd.pinned (.plain (OpenSpec.ofChange arenaReuseSpec)) arenaReuseCard

/-- THE SECOND FORM's CARD OF 'freshetlaw6.ArenaActs'. -/
def arenaActsUptoCard : Claim7 := { stood := { row := arenaActsUptoRow, standIns := [], harness := (true, "8e744f7baab3f0acffbe64fb0ea34b13fc1f96920acd1b4182bc97ff18dfefc7"), looks := false }, kinds := [], alts := [], laidByText := true, laidKinds := [.data], laidTests := true, laidLooks := .later }
def ArenaActsUptoCardSaid : Prop := Claim7.holds Tryd.pinned (.plain (OpenSpec.upto arenaActsSpec)) arenaActsUptoCard

/-- THE SECOND FORM's CARD OF 'freshetlaw6.ArenaMoves'. -/
def arenaMovesUptoCard : Claim7 := { stood := { row := arenaMovesUptoRow, standIns := [], harness := (true, "8e744f7baab3f0acffbe64fb0ea34b13fc1f96920acd1b4182bc97ff18dfefc7"), looks := false }, kinds := [], alts := [], laidByText := true, laidKinds := [.data], laidTests := true, laidLooks := .later }
def ArenaMovesUptoCardSaid : Prop := Claim7.holds Tryd.pinned (.plain (OpenSpec.upto arenaMovesSpec)) arenaMovesUptoCard

/-- THE SECOND FORM's CARD OF 'freshetlaw6.ArenaCosts'. -/
def arenaCostsUptoCard : Claim7 := { stood := { row := arenaCostsUptoRow, standIns := [], harness := (true, "8e744f7baab3f0acffbe64fb0ea34b13fc1f96920acd1b4182bc97ff18dfefc7"), looks := false }, kinds := [], alts := [], laidByText := true, laidKinds := [.data], laidTests := true, laidLooks := .later }
def ArenaCostsUptoCardSaid : Prop := Claim7.holds Tryd.pinned (.plain (OpenSpec.upto arenaCostsSpec)) arenaCostsUptoCard

/-- THE SECOND FORM's CARD OF 'freshetlaw6.ArenaHandles'. -/
def arenaHandlesUptoCard : Claim7 := { stood := { row := arenaHandlesUptoRow, standIns := [], harness := (true, "8e744f7baab3f0acffbe64fb0ea34b13fc1f96920acd1b4182bc97ff18dfefc7"), looks := false }, kinds := [], alts := [], laidByText := true, laidKinds := [.data], laidTests := true, laidLooks := .later }
def ArenaHandlesUptoCardSaid : Prop := Claim7.holds Tryd.pinned (.plain (OpenSpec.upto arenaHandlesSpec)) arenaHandlesUptoCard

/-- THE SECOND FORM's CARD OF 'freshetlaw6.ArenaEdges'. -/
def arenaEdgesUptoCard : Claim7 := { stood := { row := arenaEdgesUptoRow, standIns := [], harness := (true, "8e744f7baab3f0acffbe64fb0ea34b13fc1f96920acd1b4182bc97ff18dfefc7"), looks := false }, kinds := [], alts := [], laidByText := true, laidKinds := [.data], laidTests := true, laidLooks := .later }
def ArenaEdgesUptoCardSaid : Prop := Claim7.holds Tryd.pinned (.plain (OpenSpec.upto arenaEdgesSpec)) arenaEdgesUptoCard

/-- THE SECOND FORM's CARD OF 'freshetlaw6.ArenaReuse'. -/
def arenaReuseUptoCard : Claim7 := { stood := { row := arenaReuseUptoRow, standIns := [], harness := (true, "8e744f7baab3f0acffbe64fb0ea34b13fc1f96920acd1b4182bc97ff18dfefc7"), looks := false }, kinds := [], alts := [], laidByText := true, laidKinds := [.data], laidTests := true, laidLooks := .later }
def ArenaReuseUptoCardSaid : Prop := Claim7.holds Tryd.pinned (.plain (OpenSpec.upto arenaReuseSpec)) arenaReuseUptoCard
end Rows
end Go.Proofs.YtkndbldjablhoaaDoor
