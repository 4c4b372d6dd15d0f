/-
  NARROWER THAN 'FOR EVERY INPUT', by the rows' own cells (each row's printed sentence says how): ArenaActs: laid · ArenaMoves: laid · ArenaCosts: laid · ArenaHandles: laid · ArenaEdges: laid · ArenaReuse: laid · InternActs: laid · InternOnce: laid · InternFull: laid · InternCosts: laid.
  DERIVED. THE GIVEN ROWS OF THIS SEAT. 10 by the template 'for every input the law returns true; each argument reads behind the call as it read before'; 0 by the template 'total and deterministic' (their statements: YtdbaocphglijbaaDoorTotals.lean).
  GIVEN WITH THE SEED: the statements are not yours to turn. If you find one false, say at which input.
  Laid BY PROGRAM, IN A SANDBOX (cutbox-rows.mjs): the forced cells as the released guide's own fill.sh prints them over the translation d64800b8523687b2… (all of the seat's roots in one cut). By AI agents, Wed Nov 11 2026. No macro, syntax, notation, axiom, sorry.
-/
import Derived.Test.YtdbaocphglijbaaDoorChecked
import GoSem.Claim
import GoSem.ClaimJoined
import GoSem.ClaimMapViews
import Derived.JoinedTies
import Derived.KernelRfl
namespace Go.Proofs.YtdbaocphglijbaaDoor
/- THE CELL 'sum', in the pinned program and in every row, IS THE sha256 OF THE DUMP (.gsa) THAT YtdbaocphglijbaaDoorProg.lean LOADS. Nothing in Lean hashes anything: it is a label: what it is worth is what the hold of that sum in a sandbox is worth. -/
noncomputable def Tryd.pinned : Pinned := { name := "ytdbaocphglijbaadoor", sum := "d64800b8523687b277e4127299efe2a72d637535082c2f216a9ea3c013209cf6", checked := Tryd.checked }
namespace Rows
def none {H : Type} : Left H := { results := [], args := [] }

/- WHAT THE LISTED PACKAGE-LEVEL VARIABLES READ AS WHEN THE CALL BEGINS. Each datum BY PROGRAM (the guide's laid-datum.mjs) off the statement by which the dump's own 'gosem.cut.vars' lays the variable. In a bare row this is a premise. The card (YtdbaocphglijbaaDoorCards.lean) ties it to the program's text. -/
def laid_math_bits_deBruijn64tab {H : Type} : DataW H := .agg [.lit (.int .u8 0), .lit (.int .u8 1), .lit (.int .u8 56), .lit (.int .u8 2), .lit (.int .u8 57), .lit (.int .u8 49), .lit (.int .u8 28), .lit (.int .u8 3), .lit (.int .u8 61), .lit (.int .u8 58), .lit (.int .u8 42), .lit (.int .u8 50), .lit (.int .u8 38), .lit (.int .u8 29), .lit (.int .u8 17), .lit (.int .u8 4), .lit (.int .u8 62), .lit (.int .u8 47), .lit (.int .u8 59), .lit (.int .u8 36), .lit (.int .u8 45), .lit (.int .u8 43), .lit (.int .u8 51), .lit (.int .u8 22), .lit (.int .u8 53), .lit (.int .u8 39), .lit (.int .u8 33), .lit (.int .u8 30), .lit (.int .u8 24), .lit (.int .u8 18), .lit (.int .u8 12), .lit (.int .u8 5), .lit (.int .u8 63), .lit (.int .u8 55), .lit (.int .u8 48), .lit (.int .u8 27), .lit (.int .u8 60), .lit (.int .u8 41), .lit (.int .u8 37), .lit (.int .u8 16), .lit (.int .u8 46), .lit (.int .u8 35), .lit (.int .u8 44), .lit (.int .u8 21), .lit (.int .u8 52), .lit (.int .u8 32), .lit (.int .u8 23), .lit (.int .u8 11), .lit (.int .u8 54), .lit (.int .u8 26), .lit (.int .u8 40), .lit (.int .u8 15), .lit (.int .u8 34), .lit (.int .u8 20), .lit (.int .u8 31), .lit (.int .u8 10), .lit (.int .u8 25), .lit (.int .u8 14), .lit (.int .u8 19), .lit (.int .u8 9), .lit (.int .u8 13), .lit (.int .u8 8), .lit (.int .u8 7), .lit (.int .u8 6)]

/-- 'freshetlaw6.ArenaActs': WHATEVER THE INPUT: true; the input reads as it did. -/
def arenaActsSpec : ChangeSpec := { name := "arenaActs", fn := fun _ => fun
  | [d1, d2] => { results := [.lit (.bool true)], args := [d1, d2] }
  | _ => none }
def arenaActsRow : OpenClaim := { program := "ytdbaocphglijbaadoor", sum := "d64800b8523687b277e4127299efe2a72d637535082c2f216a9ea3c013209cf6", func := "freshet/freshetlaw6.ArenaActs", spec := "arenaActs", unfollowed := true, recurses := true, named := ["math/bits.deBruijn64tab"], apart := false, laid := [("math/bits.deBruijn64tab", laid_math_bits_deBruijn64tab)] }
def ArenaActsSaid : Prop := arenaActsRow.holds Tryd.pinned (OpenSpec.ofChange arenaActsSpec)

/-- ITS FALSE NEIGHBOUR: 'it returns false'. Refute it at one input. -/
def arenaActsWrong : ChangeSpec := { name := "arenaActs", fn := fun _ => fun
  | [d1, d2] => { results := [.lit (.bool false)], args := [d1, d2] }
  | _ => none }
def ArenaActsWrongFalsely : Prop := arenaActsRow.holds Tryd.pinned (OpenSpec.ofChange arenaActsWrong)

/-- 'freshetlaw6.ArenaMoves': WHATEVER THE INPUT: true; the input reads as it did. -/
def arenaMovesSpec : ChangeSpec := { name := "arenaMoves", fn := fun _ => fun
  | [d1, d2, d3] => { results := [.lit (.bool true)], args := [d1, d2, d3] }
  | _ => none }
def arenaMovesRow : OpenClaim := { program := "ytdbaocphglijbaadoor", sum := "d64800b8523687b277e4127299efe2a72d637535082c2f216a9ea3c013209cf6", func := "freshet/freshetlaw6.ArenaMoves", spec := "arenaMoves", named := ["math/bits.deBruijn64tab"], apart := false, laid := [("math/bits.deBruijn64tab", laid_math_bits_deBruijn64tab)] }
def ArenaMovesSaid : Prop := arenaMovesRow.holds Tryd.pinned (OpenSpec.ofChange arenaMovesSpec)

/-- ITS FALSE NEIGHBOUR: 'it returns false'. Refute it at one input. -/
def arenaMovesWrong : ChangeSpec := { name := "arenaMoves", fn := fun _ => fun
  | [d1, d2, d3] => { results := [.lit (.bool false)], args := [d1, d2, d3] }
  | _ => none }
def ArenaMovesWrongFalsely : Prop := arenaMovesRow.holds Tryd.pinned (OpenSpec.ofChange arenaMovesWrong)

/-- 'freshetlaw6.ArenaCosts': WHATEVER THE INPUT: true; the input reads as it did. -/
def arenaCostsSpec : ChangeSpec := { name := "arenaCosts", fn := fun _ => fun
  | [d] => { results := [.lit (.bool true)], args := [d] }
  | _ => none }
def arenaCostsRow : OpenClaim := { program := "ytdbaocphglijbaadoor", sum := "d64800b8523687b277e4127299efe2a72d637535082c2f216a9ea3c013209cf6", func := "freshet/freshetlaw6.ArenaCosts", spec := "arenaCosts", named := ["math/bits.deBruijn64tab"], apart := false, laid := [("math/bits.deBruijn64tab", laid_math_bits_deBruijn64tab)] }
def ArenaCostsSaid : Prop := arenaCostsRow.holds Tryd.pinned (OpenSpec.ofChange arenaCostsSpec)

/-- ITS FALSE NEIGHBOUR: 'it returns false'. Refute it at one input. -/
def arenaCostsWrong : ChangeSpec := { name := "arenaCosts", fn := fun _ => fun
  | [d] => { results := [.lit (.bool false)], args := [d] }
  | _ => none }
def ArenaCostsWrongFalsely : Prop := arenaCostsRow.holds Tryd.pinned (OpenSpec.ofChange arenaCostsWrong)

/-- 'freshetlaw6.ArenaHandles': WHATEVER THE INPUT: true; the input reads as it did. -/
def arenaHandlesSpec : ChangeSpec := { name := "arenaHandles", fn := fun _ => fun
  | [d1, d2] => { results := [.lit (.bool true)], args := [d1, d2] }
  | _ => none }
def arenaHandlesRow : OpenClaim := { program := "ytdbaocphglijbaadoor", sum := "d64800b8523687b277e4127299efe2a72d637535082c2f216a9ea3c013209cf6", func := "freshet/freshetlaw6.ArenaHandles", spec := "arenaHandles", named := ["math/bits.deBruijn64tab"], apart := false, laid := [("math/bits.deBruijn64tab", laid_math_bits_deBruijn64tab)] }
def ArenaHandlesSaid : Prop := arenaHandlesRow.holds Tryd.pinned (OpenSpec.ofChange arenaHandlesSpec)

/-- ITS FALSE NEIGHBOUR: 'it returns false'. Refute it at one input. -/
def arenaHandlesWrong : ChangeSpec := { name := "arenaHandles", fn := fun _ => fun
  | [d1, d2] => { results := [.lit (.bool false)], args := [d1, d2] }
  | _ => none }
def ArenaHandlesWrongFalsely : Prop := arenaHandlesRow.holds Tryd.pinned (OpenSpec.ofChange arenaHandlesWrong)

/-- 'freshetlaw6.ArenaEdges': WHATEVER THE INPUT: true; the input reads as it did. -/
def arenaEdgesSpec : ChangeSpec := { name := "arenaEdges", fn := fun _ => fun
  | [d1, d2, d3] => { results := [.lit (.bool true)], args := [d1, d2, d3] }
  | _ => none }
def arenaEdgesRow : OpenClaim := { program := "ytdbaocphglijbaadoor", sum := "d64800b8523687b277e4127299efe2a72d637535082c2f216a9ea3c013209cf6", func := "freshet/freshetlaw6.ArenaEdges", spec := "arenaEdges", named := ["math/bits.deBruijn64tab"], apart := false, laid := [("math/bits.deBruijn64tab", laid_math_bits_deBruijn64tab)] }
def ArenaEdgesSaid : Prop := arenaEdgesRow.holds Tryd.pinned (OpenSpec.ofChange arenaEdgesSpec)

/-- ITS FALSE NEIGHBOUR: 'it returns false'. Refute it at one input. -/
def arenaEdgesWrong : ChangeSpec := { name := "arenaEdges", fn := fun _ => fun
  | [d1, d2, d3] => { results := [.lit (.bool false)], args := [d1, d2, d3] }
  | _ => none }
def ArenaEdgesWrongFalsely : Prop := arenaEdgesRow.holds Tryd.pinned (OpenSpec.ofChange arenaEdgesWrong)

/-- 'freshetlaw6.ArenaReuse': WHATEVER THE INPUT: true; the input reads as it did. -/
def arenaReuseSpec : ChangeSpec := { name := "arenaReuse", fn := fun _ => fun
  | [d1, d2] => { results := [.lit (.bool true)], args := [d1, d2] }
  | _ => none }
def arenaReuseRow : OpenClaim := { program := "ytdbaocphglijbaadoor", sum := "d64800b8523687b277e4127299efe2a72d637535082c2f216a9ea3c013209cf6", func := "freshet/freshetlaw6.ArenaReuse", spec := "arenaReuse", named := ["math/bits.deBruijn64tab"], apart := false, laid := [("math/bits.deBruijn64tab", laid_math_bits_deBruijn64tab)] }
def ArenaReuseSaid : Prop := arenaReuseRow.holds Tryd.pinned (OpenSpec.ofChange arenaReuseSpec)

/-- ITS FALSE NEIGHBOUR: 'it returns false'. Refute it at one input. -/
def arenaReuseWrong : ChangeSpec := { name := "arenaReuse", fn := fun _ => fun
  | [d1, d2] => { results := [.lit (.bool false)], args := [d1, d2] }
  | _ => none }
def ArenaReuseWrongFalsely : Prop := arenaReuseRow.holds Tryd.pinned (OpenSpec.ofChange arenaReuseWrong)

/-- 'freshetlaw7.InternActs': WHATEVER THE INPUT: true; the input reads as it did. -/
def internActsSpec : ChangeSpec := { name := "internActs", fn := fun _ => fun
  | [d1, d2, d3] => { results := [.lit (.bool true)], args := [d1, d2, d3] }
  | _ => none }
def internActsRow : OpenClaim := { program := "ytdbaocphglijbaadoor", sum := "d64800b8523687b277e4127299efe2a72d637535082c2f216a9ea3c013209cf6", func := "freshet/freshetlaw7.InternActs", spec := "internActs", named := ["math/bits.deBruijn64tab"], apart := false, laid := [("math/bits.deBruijn64tab", laid_math_bits_deBruijn64tab)] }
def InternActsSaid : Prop := internActsRow.holds Tryd.pinned (OpenSpec.ofChange internActsSpec)

/-- ITS FALSE NEIGHBOUR: 'it returns false'. Refute it at one input. -/
def internActsWrong : ChangeSpec := { name := "internActs", fn := fun _ => fun
  | [d1, d2, d3] => { results := [.lit (.bool false)], args := [d1, d2, d3] }
  | _ => none }
def InternActsWrongFalsely : Prop := internActsRow.holds Tryd.pinned (OpenSpec.ofChange internActsWrong)

/-- 'freshetlaw7.InternOnce': WHATEVER THE INPUT: true; the input reads as it did. -/
def internOnceSpec : ChangeSpec := { name := "internOnce", fn := fun _ => fun
  | [d1, d2] => { results := [.lit (.bool true)], args := [d1, d2] }
  | _ => none }
def internOnceRow : OpenClaim := { program := "ytdbaocphglijbaadoor", sum := "d64800b8523687b277e4127299efe2a72d637535082c2f216a9ea3c013209cf6", func := "freshet/freshetlaw7.InternOnce", spec := "internOnce", named := ["math/bits.deBruijn64tab"], apart := false, laid := [("math/bits.deBruijn64tab", laid_math_bits_deBruijn64tab)] }
def InternOnceSaid : Prop := internOnceRow.holds Tryd.pinned (OpenSpec.ofChange internOnceSpec)

/-- ITS FALSE NEIGHBOUR: 'it returns false'. Refute it at one input. -/
def internOnceWrong : ChangeSpec := { name := "internOnce", fn := fun _ => fun
  | [d1, d2] => { results := [.lit (.bool false)], args := [d1, d2] }
  | _ => none }
def InternOnceWrongFalsely : Prop := internOnceRow.holds Tryd.pinned (OpenSpec.ofChange internOnceWrong)

/-- 'freshetlaw7.InternFull': WHATEVER THE INPUT: true; the input reads as it did. -/
def internFullSpec : ChangeSpec := { name := "internFull", fn := fun _ => fun
  | [d] => { results := [.lit (.bool true)], args := [d] }
  | _ => none }
def internFullRow : OpenClaim := { program := "ytdbaocphglijbaadoor", sum := "d64800b8523687b277e4127299efe2a72d637535082c2f216a9ea3c013209cf6", func := "freshet/freshetlaw7.InternFull", spec := "internFull", named := ["math/bits.deBruijn64tab"], apart := false, laid := [("math/bits.deBruijn64tab", laid_math_bits_deBruijn64tab)] }
def InternFullSaid : Prop := internFullRow.holds Tryd.pinned (OpenSpec.ofChange internFullSpec)

/-- ITS FALSE NEIGHBOUR: 'it returns false'. Refute it at one input. -/
def internFullWrong : ChangeSpec := { name := "internFull", fn := fun _ => fun
  | [d] => { results := [.lit (.bool false)], args := [d] }
  | _ => none }
def InternFullWrongFalsely : Prop := internFullRow.holds Tryd.pinned (OpenSpec.ofChange internFullWrong)

/-- 'freshetlaw7.InternCosts': WHATEVER THE INPUT: true; the input reads as it did. -/
def internCostsSpec : ChangeSpec := { name := "internCosts", fn := fun _ => fun
  | [d] => { results := [.lit (.bool true)], args := [d] }
  | _ => none }
def internCostsRow : OpenClaim := { program := "ytdbaocphglijbaadoor", sum := "d64800b8523687b277e4127299efe2a72d637535082c2f216a9ea3c013209cf6", func := "freshet/freshetlaw7.InternCosts", spec := "internCosts", named := ["math/bits.deBruijn64tab"], apart := false, laid := [("math/bits.deBruijn64tab", laid_math_bits_deBruijn64tab)] }
def InternCostsSaid : Prop := internCostsRow.holds Tryd.pinned (OpenSpec.ofChange internCostsSpec)

/-- ITS FALSE NEIGHBOUR: 'it returns false'. Refute it at one input. -/
def internCostsWrong : ChangeSpec := { name := "internCosts", fn := fun _ => fun
  | [d] => { results := [.lit (.bool false)], args := [d] }
  | _ => none }
def InternCostsWrongFalsely : Prop := internCostsRow.holds Tryd.pinned (OpenSpec.ofChange internCostsWrong)

/- THE SECOND FORM. 'bulk': how many values and letters a reading holds, each counted each time it is reached (what is shared counts as often as it is met; a slice's spare places count too). A statement '..UptoSaid' is the law's where the arguments, and the package variables that the reading takes, are together of bulk at most 1048576: NARROWER than '..Said'. Prove '..Said' where nothing that the law and all that it calls make is longer than what came in: it says more and counts as full. Else prove '..UptoSaid'. A law counts once. -/
mutual
def uptoBulk {H : Type} : DataW H → Nat
  | .lit (.string bytes) => bytes.length + 1
  | .lit _ => 1
  | .nil => 1
  | .ptr d => uptoBulk d + 1
  | .slice elems spare => uptoBulkAll elems + uptoBulkAll spare + 1
  | .agg parts => uptoBulkAll parts + 1
  | .iface _ d => uptoBulk d + 1
  | .map entries => uptoBulkEntries entries + 1
  | .held _ => 1
def uptoBulkAll {H : Type} : List (DataW H) → Nat
  | [] => 0
  | d :: r => uptoBulk d + uptoBulkAll r
def uptoBulkEntries {H : Type} : List (Lit × DataW H) → Nat
  | [] => 0
  | x :: r => uptoBulkEntry x + uptoBulkEntries r
def uptoBulkEntry {H : Type} : Lit × DataW H → Nat
  | (.string bytes, d) => bytes.length + uptoBulk d + 1
  | (_, d) => uptoBulk d + 1
 end
def uptoSmall : (H : Type) → List (DataW H) → Bool := fun _ ds => decide (uptoBulkAll ds ≤ 1048576)
def OpenSpec.upto (s : _root_.Go.ChangeSpec) : _root_.Go.OpenSpec := { _root_.Go.OpenSpec.ofChange s with cond := some uptoSmall }

/-- 'freshetlaw6.ArenaActs', WHERE WHAT IT READS IS OF BULK AT MOST 1048576: true; the input reads as it did. -/
def arenaActsUptoRow : OpenClaim := { program := "ytdbaocphglijbaadoor", sum := "d64800b8523687b277e4127299efe2a72d637535082c2f216a9ea3c013209cf6", func := "freshet/freshetlaw6.ArenaActs", spec := "arenaActs", unfollowed := true, recurses := true, named := ["math/bits.deBruijn64tab"], apart := false, laid := [("math/bits.deBruijn64tab", laid_math_bits_deBruijn64tab)], narrowed := true }
def ArenaActsUptoSaid : Prop := arenaActsUptoRow.holds Tryd.pinned (OpenSpec.upto arenaActsSpec)

/-- 'freshetlaw6.ArenaMoves', WHERE WHAT IT READS IS OF BULK AT MOST 1048576: true; the input reads as it did. -/
def arenaMovesUptoRow : OpenClaim := { program := "ytdbaocphglijbaadoor", sum := "d64800b8523687b277e4127299efe2a72d637535082c2f216a9ea3c013209cf6", func := "freshet/freshetlaw6.ArenaMoves", spec := "arenaMoves", named := ["math/bits.deBruijn64tab"], apart := false, laid := [("math/bits.deBruijn64tab", laid_math_bits_deBruijn64tab)], narrowed := true }
def ArenaMovesUptoSaid : Prop := arenaMovesUptoRow.holds Tryd.pinned (OpenSpec.upto arenaMovesSpec)

/-- 'freshetlaw6.ArenaCosts', WHERE WHAT IT READS IS OF BULK AT MOST 1048576: true; the input reads as it did. -/
def arenaCostsUptoRow : OpenClaim := { program := "ytdbaocphglijbaadoor", sum := "d64800b8523687b277e4127299efe2a72d637535082c2f216a9ea3c013209cf6", func := "freshet/freshetlaw6.ArenaCosts", spec := "arenaCosts", named := ["math/bits.deBruijn64tab"], apart := false, laid := [("math/bits.deBruijn64tab", laid_math_bits_deBruijn64tab)], narrowed := true }
def ArenaCostsUptoSaid : Prop := arenaCostsUptoRow.holds Tryd.pinned (OpenSpec.upto arenaCostsSpec)

/-- 'freshetlaw6.ArenaHandles', WHERE WHAT IT READS IS OF BULK AT MOST 1048576: true; the input reads as it did. -/
def arenaHandlesUptoRow : OpenClaim := { program := "ytdbaocphglijbaadoor", sum := "d64800b8523687b277e4127299efe2a72d637535082c2f216a9ea3c013209cf6", func := "freshet/freshetlaw6.ArenaHandles", spec := "arenaHandles", named := ["math/bits.deBruijn64tab"], apart := false, laid := [("math/bits.deBruijn64tab", laid_math_bits_deBruijn64tab)], narrowed := true }
def ArenaHandlesUptoSaid : Prop := arenaHandlesUptoRow.holds Tryd.pinned (OpenSpec.upto arenaHandlesSpec)

/-- 'freshetlaw6.ArenaEdges', WHERE WHAT IT READS IS OF BULK AT MOST 1048576: true; the input reads as it did. -/
def arenaEdgesUptoRow : OpenClaim := { program := "ytdbaocphglijbaadoor", sum := "d64800b8523687b277e4127299efe2a72d637535082c2f216a9ea3c013209cf6", func := "freshet/freshetlaw6.ArenaEdges", spec := "arenaEdges", named := ["math/bits.deBruijn64tab"], apart := false, laid := [("math/bits.deBruijn64tab", laid_math_bits_deBruijn64tab)], narrowed := true }
def ArenaEdgesUptoSaid : Prop := arenaEdgesUptoRow.holds Tryd.pinned (OpenSpec.upto arenaEdgesSpec)

/-- 'freshetlaw6.ArenaReuse', WHERE WHAT IT READS IS OF BULK AT MOST 1048576: true; the input reads as it did. -/
def arenaReuseUptoRow : OpenClaim := { program := "ytdbaocphglijbaadoor", sum := "d64800b8523687b277e4127299efe2a72d637535082c2f216a9ea3c013209cf6", func := "freshet/freshetlaw6.ArenaReuse", spec := "arenaReuse", named := ["math/bits.deBruijn64tab"], apart := false, laid := [("math/bits.deBruijn64tab", laid_math_bits_deBruijn64tab)], narrowed := true }
def ArenaReuseUptoSaid : Prop := arenaReuseUptoRow.holds Tryd.pinned (OpenSpec.upto arenaReuseSpec)

/-- 'freshetlaw7.InternActs', WHERE WHAT IT READS IS OF BULK AT MOST 1048576: true; the input reads as it did. -/
def internActsUptoRow : OpenClaim := { program := "ytdbaocphglijbaadoor", sum := "d64800b8523687b277e4127299efe2a72d637535082c2f216a9ea3c013209cf6", func := "freshet/freshetlaw7.InternActs", spec := "internActs", named := ["math/bits.deBruijn64tab"], apart := false, laid := [("math/bits.deBruijn64tab", laid_math_bits_deBruijn64tab)], narrowed := true }
def InternActsUptoSaid : Prop := internActsUptoRow.holds Tryd.pinned (OpenSpec.upto internActsSpec)

/-- 'freshetlaw7.InternOnce', WHERE WHAT IT READS IS OF BULK AT MOST 1048576: true; the input reads as it did. -/
def internOnceUptoRow : OpenClaim := { program := "ytdbaocphglijbaadoor", sum := "d64800b8523687b277e4127299efe2a72d637535082c2f216a9ea3c013209cf6", func := "freshet/freshetlaw7.InternOnce", spec := "internOnce", named := ["math/bits.deBruijn64tab"], apart := false, laid := [("math/bits.deBruijn64tab", laid_math_bits_deBruijn64tab)], narrowed := true }
def InternOnceUptoSaid : Prop := internOnceUptoRow.holds Tryd.pinned (OpenSpec.upto internOnceSpec)

/-- 'freshetlaw7.InternFull', WHERE WHAT IT READS IS OF BULK AT MOST 1048576: true; the input reads as it did. -/
def internFullUptoRow : OpenClaim := { program := "ytdbaocphglijbaadoor", sum := "d64800b8523687b277e4127299efe2a72d637535082c2f216a9ea3c013209cf6", func := "freshet/freshetlaw7.InternFull", spec := "internFull", named := ["math/bits.deBruijn64tab"], apart := false, laid := [("math/bits.deBruijn64tab", laid_math_bits_deBruijn64tab)], narrowed := true }
def InternFullUptoSaid : Prop := internFullUptoRow.holds Tryd.pinned (OpenSpec.upto internFullSpec)

/-- 'freshetlaw7.InternCosts', WHERE WHAT IT READS IS OF BULK AT MOST 1048576: true; the input reads as it did. -/
def internCostsUptoRow : OpenClaim := { program := "ytdbaocphglijbaadoor", sum := "d64800b8523687b277e4127299efe2a72d637535082c2f216a9ea3c013209cf6", func := "freshet/freshetlaw7.InternCosts", spec := "internCosts", named := ["math/bits.deBruijn64tab"], apart := false, laid := [("math/bits.deBruijn64tab", laid_math_bits_deBruijn64tab)], narrowed := true }
def InternCostsUptoSaid : Prop := internCostsUptoRow.holds Tryd.pinned (OpenSpec.upto internCostsSpec)

end Rows
end Go.Proofs.YtdbaocphglijbaaDoor
