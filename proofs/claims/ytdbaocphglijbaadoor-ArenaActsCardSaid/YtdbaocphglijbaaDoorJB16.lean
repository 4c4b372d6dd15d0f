/- 4 texts put together: Vap2, Cards, Tie, FrameA. -/
import Derived.Test.YtdbaocphglijbaaDoorRows
import GoSem.ClaimSeven
import Derived.LaidByTextLater
import Derived.SevenTiedAt
import Derived.LaidSub
import Derived.LaidOnce
import Derived.Deep.DeepHandedRow
import Derived.Deep.DeepWitnessRowRef
import Derived.Stop.LaidErr
import Derived.Carry
import Derived.ProofKit
import Derived.OpenShut
import Derived.SliceStrings
import Derived.ChangeSlices
import Derived.LaidLaws
import Derived.Lib.LaidTab
import Derived.Test.YtdbaocphglijbaaDoorJB4
import Derived.Test.YtdbaocphglijbaaDoorJB15
/- The arena's functions at a block that is known. -/
set_option maxRecDepth 100000
namespace Go.Proofs.YtdbaocphglijbaaDoor
open Go.RowKit Go.Shelf
theorem srt_mem {L : List Bl} (h : L.Pairwise (fun x y => x.1 < y.1)) {b c : Bl} (hb : b ∈ L) (hc : c ∈ L) (e : b.1 = c.1) : b = c := by
  obtain ⟨i, hi, rfl⟩ := List.mem_iff_getElem.1 hb
  obtain ⟨j, hj, rfl⟩ := List.mem_iff_getElem.1 hc
  rw [List.pairwise_iff_getElem] at h
  rcases Nat.lt_trichotomy i j with hlt | heq | hgt
  · have := h i j hi hj hlt; omega
  · subst heq; rfl
  · have := h j i hj hi hgt; omega
theorem alloc_ok (x : Nat → Prop) (A B : Nat) (L : List Bl) (n0 : Nat) (z : Int) (k : Nat) (w : World) (hz : z = (k : Int)) (h : HX x A B L n0 w) (hk : k ≤ 4096) (hc : sumC L + Ar.cost k ≤ B) :
    Calls Tryd.prog 17 #[.pointer (some ⟨A, 0, none⟩), .int .i64 z] w fun e w' => ∃ L1 L2, L = L1 ++ L2 ∧ Least L1 L2 ∧ e = .returned (.tuple #[.int .i64 ((L1.length + 1 : Nat) : Int), .int .i64 0]) ∧ LX x A B (L1 ++ (L1.length + 1, Ar.zeros k) :: L2) n0 w w' := by
  subst hz
  have hci : Ar.costI (k : Int) = Ar.cost k := Ar.costI_nat hk
  have hcg := Ar.cost_ge k hk
  refine (alloc_x x A B L n0 (k : Int) w h).mono fun e w' hk' => ?_
  rcases hk' with ⟨k1, _⟩ | ⟨_, k1, _⟩ | ⟨_, _, i, L1, L2, hi, _, rfl, hl, he, hL⟩
  · omega
  · omega
  · obtain rfl : k = i := by omega
    exact ⟨L1, L2, rfl, hl, he, hL⟩
theorem alloc_no (x : Nat → Prop) (A B : Nat) (L : List Bl) (n0 : Nat) (z : Int) (k : Nat) (w : World) (hz : z = (k : Int)) (h : HX x A B L n0 w) (hk : k ≤ 4096) (hc : B < sumC L + Ar.cost k) :
    Calls Tryd.prog 17 #[.pointer (some ⟨A, 0, none⟩), .int .i64 z] w fun e w' => e = .returned (.tuple #[.int .i64 0, .int .i64 4]) ∧ w = w' := by
  subst hz
  have hci : Ar.costI (k : Int) = Ar.cost k := Ar.costI_nat hk
  have hcg := Ar.cost_ge k hk
  refine (alloc_x x A B L n0 (k : Int) w h).mono fun e w' hk' => ?_
  rcases hk' with ⟨k1, _⟩ | ⟨_, _, he, hw⟩ | ⟨_, k1, _⟩
  · omega
  · exact ⟨he, hw⟩
  · omega
theorem free_ok (x : Nat → Prop) (A B : Nat) (L1 L2 : List Bl) (b : Bl) (n0 : Nat) (z : Int) (w : World) (hz : z = (b.1 : Int)) (h : HX x A B (L1 ++ b :: L2) n0 w) :
    Calls Tryd.prog 19 #[.pointer (some ⟨A, 0, none⟩), .int .i64 z] w fun e w' => e = .returned (.int .i64 0) ∧ LX x A B (L1 ++ L2) n0 w w' := by
  subst hz
  refine (free_x x A B _ n0 _ w h).mono fun e w' hk => ?_
  rcases hk with ⟨k, _⟩ | ⟨M1, c, M2, e1, e2, he, hL⟩
  · exact absurd rfl (k b (by simp))
  · obtain ⟨rfl, _, rfl⟩ := srt_uniq h.each.1 e1 (by omega)
    exact ⟨he, hL⟩
theorem free_none' (x : Nat → Prop) (A B : Nat) (L : List Bl) (n0 : Nat) (z : Int) (w : World) (hz : ∀ b ∈ L, (b.1 : Int) ≠ z) (h : HX x A B L n0 w) :
    Calls Tryd.prog 19 #[.pointer (some ⟨A, 0, none⟩), .int .i64 z] w fun e w' => e = .returned (.int .i64 5) ∧ LX x A B L n0 w w' := by
  refine (free_x x A B _ n0 _ w h).mono fun e w' hk => ?_
  rcases hk with ⟨_, he, hL⟩ | ⟨M1, c, M2, rfl, e2, _⟩
  · exact ⟨he, hL⟩
  · exact absurd e2 (hz c (by simp))
theorem read_ok (x : Nat → Prop) (A B : Nat) (L : List Bl) (b : Bl) (n0 : Nat) (z a m : Int) (at_ n : Nat) (w : World) (hz : z = (b.1 : Int)) (ha : a = (at_ : Int)) (hm : m = (n : Int)) (hb : b ∈ L) (h : HX x A B L n0 w) (hw : at_ + n ≤ b.2.length) :
    Calls Tryd.prog 21 #[.pointer (some ⟨A, 0, none⟩), .int .i64 z, .int .i64 a, .int .i64 m] w fun e w' => ∃ v, e = .returned (.tuple #[v, .int .i64 0]) ∧ w'.ownsRow w.heap.size 5 1 v n (((b.2.drop at_).take n).map encB) ∧ LX x A B L n0 w w' ∧ Below w.heap.size w w' := by
  subst hz ha hm
  have hl := (h.each.2 b hb).2
  refine (read_x x A B L n0 _ _ _ w h (by omega) (by omega) (by omega) (by omega)).mono fun e w' hk => ?_
  obtain ⟨hL, hbw, hk⟩ := hk
  rcases hk with ⟨k, _⟩ | ⟨c, hc, e1, hk⟩
  · exact absurd rfl (k b hb)
  · obtain rfl := srt_mem h.each.1 hb hc (by omega)
    rcases hk with ⟨k, _⟩ | ⟨_, v, l, rfl, he, hr⟩
    · exact absurd ⟨by omega, by omega, by omega, by omega⟩ k
    · simp only [Int.toNat_natCast] at hr
      have hlen : ((b.2.drop at_).take n).length = n := by simp; omega
      rw [hlen] at hr
      exact ⟨v, he, hr, hL, hbw⟩
theorem read_no (x : Nat → Prop) (A B : Nat) (L : List Bl) (b : Bl) (n0 : Nat) (z a m : Int) (w : World) (hz : z = (b.1 : Int)) (hb : b ∈ L) (h : HX x A B L n0 w) (hw : ¬ Within b.2.length a m)
    (hI1 : -9223372036854775808 ≤ a) (hI2 : a ≤ 9223372036854775807) (hI3 : -9223372036854775808 ≤ m) (hI4 : m ≤ 9223372036854775807) :
    Calls Tryd.prog 21 #[.pointer (some ⟨A, 0, none⟩), .int .i64 z, .int .i64 a, .int .i64 m] w fun e w' => e = .returned (.tuple #[.slice none 0 0, .int .i64 1]) ∧ LX x A B L n0 w w' ∧ Below w.heap.size w w' := by
  subst hz
  refine (read_x x A B L n0 _ _ _ w h hI1 hI2 hI3 hI4).mono fun e w' hk => ?_
  obtain ⟨hL, hbw, hk⟩ := hk
  rcases hk with ⟨k, _⟩ | ⟨c, hc, e1, hk⟩
  · exact absurd rfl (k b hb)
  · obtain rfl := srt_mem h.each.1 hb hc (by omega)
    rcases hk with ⟨_, he⟩ | ⟨k, _⟩
    · exact ⟨he, hL, hbw⟩
    · exact absurd k hw
theorem write_ok (x : Nat → Prop) (A B : Nat) (L1 L2 : List Bl) (b : Bl) (n0 : Nat) (z a : Int) (at_ : Nat) (v : Value) (l : List UInt8) (w : World) (hz : z = (b.1 : Int)) (ha : a = (at_ : Int)) (h : HX x A B (L1 ++ b :: L2) n0 w) (hv : RdB v l w) (hw : at_ + l.length ≤ b.2.length) :
    Calls Tryd.prog 23 #[.pointer (some ⟨A, 0, none⟩), .int .i64 z, .int .i64 a, v] w fun e w' => e = .returned (.int .i64 0) ∧ LX x A B (L1 ++ (b.1, Ar.put b.2 at_ l) :: L2) n0 w w' := by
  subst hz ha
  have hl := (h.each.2 b (by simp)).2
  refine (write_x x A B _ n0 _ _ v l w h hv (by omega) (by omega) (by omega)).mono fun e w' hk => ?_
  rcases hk with ⟨k, _⟩ | ⟨M1, c, M2, e1, e2, hk⟩
  · exact absurd rfl (k b (by simp))
  · obtain ⟨rfl, rfl, rfl⟩ := srt_uniq h.each.1 e1 (by omega)
    rcases hk with ⟨k, _⟩ | ⟨_, he, hL⟩
    · exact absurd ⟨by omega, by omega, by omega, by omega⟩ k
    · rw [Int.toNat_natCast] at hL
      exact ⟨he, hL⟩
theorem write_no (x : Nat → Prop) (A B : Nat) (L : List Bl) (b : Bl) (n0 : Nat) (z a : Int) (v : Value) (l : List UInt8) (w : World) (hz : z = (b.1 : Int)) (hb : b ∈ L) (h : HX x A B L n0 w) (hv : RdB v l w) (hl : l.length ≤ 1048576) (hw : ¬ Within b.2.length a l.length)
    (hI1 : -9223372036854775808 ≤ a) (hI2 : a ≤ 9223372036854775807) :
    Calls Tryd.prog 23 #[.pointer (some ⟨A, 0, none⟩), .int .i64 z, .int .i64 a, v] w fun e w' => e = .returned (.int .i64 1) ∧ LX x A B L n0 w w' := by
  subst hz
  refine (write_x x A B _ n0 _ _ v l w h hv hl hI1 hI2).mono fun e w' hk => ?_
  rcases hk with ⟨k, _⟩ | ⟨M1, c, M2, rfl, e2, hk⟩
  · exact absurd rfl (k b hb)
  · obtain rfl := srt_mem h.each.1 hb (show c ∈ M1 ++ c :: M2 by simp) (by omega)
    rcases hk with ⟨_, he, hL⟩ | ⟨k, _⟩
    · exact ⟨he, hL⟩
    · exact absurd k hw
theorem write_none (x : Nat → Prop) (A B : Nat) (L : List Bl) (n0 : Nat) (z a : Int) (v : Value) (l : List UInt8) (w : World) (hz : ∀ b ∈ L, (b.1 : Int) ≠ z) (h : HX x A B L n0 w) (hv : RdB v l w) (hl : l.length ≤ 1048576)
    (hI1 : -9223372036854775808 ≤ a) (hI2 : a ≤ 9223372036854775807) :
    Calls Tryd.prog 23 #[.pointer (some ⟨A, 0, none⟩), .int .i64 z, .int .i64 a, v] w fun e w' => e = .returned (.int .i64 5) ∧ LX x A B L n0 w w' := by
  refine (write_x x A B _ n0 _ _ v l w h hv hl hI1 hI2).mono fun e w' hk => ?_
  rcases hk with ⟨_, he, hL⟩ | ⟨M1, c, M2, rfl, e2, _⟩
  · exact ⟨he, hL⟩
  · exact absurd e2 (hz c (by simp))
theorem size_ok (x : Nat → Prop) (A B : Nat) (L : List Bl) (b : Bl) (n0 : Nat) (z : Int) (w : World) (hz : z = (b.1 : Int)) (hb : b ∈ L) (h : HX x A B L n0 w) :
    Calls Tryd.prog 32 #[.pointer (some ⟨A, 0, none⟩), .int .i64 z] w fun e w' => e = .returned (.tuple #[.int .i64 (b.2.length : Int), .bool true]) ∧ LX x A B L n0 w w' ∧ Below w.heap.size w w' := by
  subst hz
  refine (size_x x A B L n0 _ w h).mono fun e w' ⟨hL, hbw, hk⟩ => ?_
  rcases hk with ⟨k, _⟩ | ⟨c, hc, e1, he⟩
  · exact absurd rfl (k b hb)
  · obtain rfl := srt_mem h.each.1 hb hc (by omega)
    exact ⟨he, hL, hbw⟩
theorem size_none' (x : Nat → Prop) (A B : Nat) (L : List Bl) (n0 : Nat) (z : Int) (w : World) (hz : ∀ b ∈ L, (b.1 : Int) ≠ z) (h : HX x A B L n0 w) :
    Calls Tryd.prog 32 #[.pointer (some ⟨A, 0, none⟩), .int .i64 z] w fun e w' => e = .returned (.tuple #[.int .i64 0, .bool false]) ∧ LX x A B L n0 w w' ∧ Below w.heap.size w w' := by
  refine (size_x x A B L n0 _ w h).mono fun e w' ⟨hL, hbw, hk⟩ => ?_
  rcases hk with ⟨_, he⟩ | ⟨c, hc, e1, _⟩
  · exact ⟨he, hL, hbw⟩
  · exact absurd e1 (hz c hc)
theorem read_none (x : Nat → Prop) (A B : Nat) (L : List Bl) (n0 : Nat) (z a m : Int) (w : World) (hz : ∀ b ∈ L, (b.1 : Int) ≠ z) (h : HX x A B L n0 w)
    (hI1 : -9223372036854775808 ≤ a) (hI2 : a ≤ 9223372036854775807) (hI3 : -9223372036854775808 ≤ m) (hI4 : m ≤ 9223372036854775807) :
    Calls Tryd.prog 21 #[.pointer (some ⟨A, 0, none⟩), .int .i64 z, .int .i64 a, .int .i64 m] w fun e w' => e = .returned (.tuple #[.slice none 0 0, .int .i64 5]) ∧ LX x A B L n0 w w' ∧ Below w.heap.size w w' := by
  refine (read_x x A B L n0 _ _ _ w h hI1 hI2 hI3 hI4).mono fun e w' ⟨hL, hbw, hk⟩ => ?_
  rcases hk with ⟨_, he⟩ | ⟨c, hc, e1, _⟩
  · exact ⟨he, hL, hbw⟩
  · exact absurd e1 (hz c hc)
end Go.Proofs.YtdbaocphglijbaaDoor

/-
  DERIVED. GIVEN WITH THE SEED: THE CARDS: each row of YtdbaocphglijbaaDoorRows.lean that lists a variable, with what it lists TIED to the program's text (the seventh form; the later family's looks); each row that meets fmt, with fmt's text TOLD by the authors' own Lean function (tested against real Go, not proved from fmt's source: count such statements apart). THE CARD IS WHAT COUNTS. Prove the row's statement (the work); the ties are given (YtdbaocphglijbaaDoorTie.lean); close each card by the builder's one call (the guide's Derived/Test/ToyasCard.lean, 'card_holds'). Laid BY PROGRAM, IN A SANDBOX (cutbox-door.mjs). By AI agents, Wed Nov 11 2026. No macro, syntax, notation, axiom, sorry.
-/
namespace Go.Proofs.YtdbaocphglijbaaDoor
namespace Rows

/-- THE TIED CARD OF 'freshetlaw6.ArenaActs'. -/
def arenaActsCard : Claim7 := { stood := { row := arenaActsRow, standIns := [], harness := (true, "d95df887f927c0617491401707d8f5ea90a2dd5544f04eec7589b1742eb6b7e7"), looks := false }, kinds := [], alts := [], laidByText := true, laidKinds := [.data], laidTests := true, laidLooks := .later }
def ArenaActsCardSaid : Prop := Claim7.holds Tryd.pinned (.plain (OpenSpec.ofChange arenaActsSpec)) arenaActsCard

/-- THE TIED CARD OF 'freshetlaw6.ArenaMoves'. -/
def arenaMovesCard : Claim7 := { stood := { row := arenaMovesRow, standIns := [], harness := (true, "d95df887f927c0617491401707d8f5ea90a2dd5544f04eec7589b1742eb6b7e7"), looks := false }, kinds := [], alts := [], laidByText := true, laidKinds := [.data], laidTests := true, laidLooks := .later }
def ArenaMovesCardSaid : Prop := Claim7.holds Tryd.pinned (.plain (OpenSpec.ofChange arenaMovesSpec)) arenaMovesCard

/-- THE TIED CARD OF 'freshetlaw6.ArenaCosts'. -/
def arenaCostsCard : Claim7 := { stood := { row := arenaCostsRow, standIns := [], harness := (true, "d95df887f927c0617491401707d8f5ea90a2dd5544f04eec7589b1742eb6b7e7"), looks := false }, kinds := [], alts := [], laidByText := true, laidKinds := [.data], laidTests := true, laidLooks := .later }
def ArenaCostsCardSaid : Prop := Claim7.holds Tryd.pinned (.plain (OpenSpec.ofChange arenaCostsSpec)) arenaCostsCard

/-- THE TIED CARD OF 'freshetlaw6.ArenaHandles'. -/
def arenaHandlesCard : Claim7 := { stood := { row := arenaHandlesRow, standIns := [], harness := (true, "d95df887f927c0617491401707d8f5ea90a2dd5544f04eec7589b1742eb6b7e7"), looks := false }, kinds := [], alts := [], laidByText := true, laidKinds := [.data], laidTests := true, laidLooks := .later }
def ArenaHandlesCardSaid : Prop := Claim7.holds Tryd.pinned (.plain (OpenSpec.ofChange arenaHandlesSpec)) arenaHandlesCard

/-- THE TIED CARD OF 'freshetlaw6.ArenaEdges'. -/
def arenaEdgesCard : Claim7 := { stood := { row := arenaEdgesRow, standIns := [], harness := (true, "d95df887f927c0617491401707d8f5ea90a2dd5544f04eec7589b1742eb6b7e7"), looks := false }, kinds := [], alts := [], laidByText := true, laidKinds := [.data], laidTests := true, laidLooks := .later }
def ArenaEdgesCardSaid : Prop := Claim7.holds Tryd.pinned (.plain (OpenSpec.ofChange arenaEdgesSpec)) arenaEdgesCard

/-- THE TIED CARD OF 'freshetlaw6.ArenaReuse'. -/
def arenaReuseCard : Claim7 := { stood := { row := arenaReuseRow, standIns := [], harness := (true, "d95df887f927c0617491401707d8f5ea90a2dd5544f04eec7589b1742eb6b7e7"), looks := false }, kinds := [], alts := [], laidByText := true, laidKinds := [.data], laidTests := true, laidLooks := .later }
def ArenaReuseCardSaid : Prop := Claim7.holds Tryd.pinned (.plain (OpenSpec.ofChange arenaReuseSpec)) arenaReuseCard

/-- THE TIED CARD OF 'freshetlaw7.InternActs'. -/
def internActsCard : Claim7 := { stood := { row := internActsRow, standIns := [], harness := (true, "d95df887f927c0617491401707d8f5ea90a2dd5544f04eec7589b1742eb6b7e7"), looks := false }, kinds := [], alts := [], laidByText := true, laidKinds := [.data], laidTests := true, laidLooks := .later }
def InternActsCardSaid : Prop := Claim7.holds Tryd.pinned (.plain (OpenSpec.ofChange internActsSpec)) internActsCard

/-- THE TIED CARD OF 'freshetlaw7.InternOnce'. -/
def internOnceCard : Claim7 := { stood := { row := internOnceRow, standIns := [], harness := (true, "d95df887f927c0617491401707d8f5ea90a2dd5544f04eec7589b1742eb6b7e7"), looks := false }, kinds := [], alts := [], laidByText := true, laidKinds := [.data], laidTests := true, laidLooks := .later }
def InternOnceCardSaid : Prop := Claim7.holds Tryd.pinned (.plain (OpenSpec.ofChange internOnceSpec)) internOnceCard

/-- THE TIED CARD OF 'freshetlaw7.InternFull'. -/
def internFullCard : Claim7 := { stood := { row := internFullRow, standIns := [], harness := (true, "d95df887f927c0617491401707d8f5ea90a2dd5544f04eec7589b1742eb6b7e7"), looks := false }, kinds := [], alts := [], laidByText := true, laidKinds := [.data], laidTests := true, laidLooks := .later }
def InternFullCardSaid : Prop := Claim7.holds Tryd.pinned (.plain (OpenSpec.ofChange internFullSpec)) internFullCard

/-- THE TIED CARD OF 'freshetlaw7.InternCosts'. -/
def internCostsCard : Claim7 := { stood := { row := internCostsRow, standIns := [], harness := (true, "d95df887f927c0617491401707d8f5ea90a2dd5544f04eec7589b1742eb6b7e7"), looks := false }, kinds := [], alts := [], laidByText := true, laidKinds := [.data], laidTests := true, laidLooks := .later }
def InternCostsCardSaid : Prop := Claim7.holds Tryd.pinned (.plain (OpenSpec.ofChange internCostsSpec)) internCostsCard

/-- THE SECOND FORM's CARD OF 'freshetlaw6.ArenaActs'. -/
def arenaActsUptoCard : Claim7 := { stood := { row := arenaActsUptoRow, standIns := [], harness := (true, "d95df887f927c0617491401707d8f5ea90a2dd5544f04eec7589b1742eb6b7e7"), looks := false }, kinds := [], alts := [], laidByText := true, laidKinds := [.data], laidTests := true, laidLooks := .later }
def ArenaActsUptoCardSaid : Prop := Claim7.holds Tryd.pinned (.plain (OpenSpec.upto arenaActsSpec)) arenaActsUptoCard

/-- THE SECOND FORM's CARD OF 'freshetlaw6.ArenaMoves'. -/
def arenaMovesUptoCard : Claim7 := { stood := { row := arenaMovesUptoRow, standIns := [], harness := (true, "d95df887f927c0617491401707d8f5ea90a2dd5544f04eec7589b1742eb6b7e7"), looks := false }, kinds := [], alts := [], laidByText := true, laidKinds := [.data], laidTests := true, laidLooks := .later }
def ArenaMovesUptoCardSaid : Prop := Claim7.holds Tryd.pinned (.plain (OpenSpec.upto arenaMovesSpec)) arenaMovesUptoCard

/-- THE SECOND FORM's CARD OF 'freshetlaw6.ArenaCosts'. -/
def arenaCostsUptoCard : Claim7 := { stood := { row := arenaCostsUptoRow, standIns := [], harness := (true, "d95df887f927c0617491401707d8f5ea90a2dd5544f04eec7589b1742eb6b7e7"), looks := false }, kinds := [], alts := [], laidByText := true, laidKinds := [.data], laidTests := true, laidLooks := .later }
def ArenaCostsUptoCardSaid : Prop := Claim7.holds Tryd.pinned (.plain (OpenSpec.upto arenaCostsSpec)) arenaCostsUptoCard

/-- THE SECOND FORM's CARD OF 'freshetlaw6.ArenaHandles'. -/
def arenaHandlesUptoCard : Claim7 := { stood := { row := arenaHandlesUptoRow, standIns := [], harness := (true, "d95df887f927c0617491401707d8f5ea90a2dd5544f04eec7589b1742eb6b7e7"), looks := false }, kinds := [], alts := [], laidByText := true, laidKinds := [.data], laidTests := true, laidLooks := .later }
def ArenaHandlesUptoCardSaid : Prop := Claim7.holds Tryd.pinned (.plain (OpenSpec.upto arenaHandlesSpec)) arenaHandlesUptoCard

/-- THE SECOND FORM's CARD OF 'freshetlaw6.ArenaEdges'. -/
def arenaEdgesUptoCard : Claim7 := { stood := { row := arenaEdgesUptoRow, standIns := [], harness := (true, "d95df887f927c0617491401707d8f5ea90a2dd5544f04eec7589b1742eb6b7e7"), looks := false }, kinds := [], alts := [], laidByText := true, laidKinds := [.data], laidTests := true, laidLooks := .later }
def ArenaEdgesUptoCardSaid : Prop := Claim7.holds Tryd.pinned (.plain (OpenSpec.upto arenaEdgesSpec)) arenaEdgesUptoCard

/-- THE SECOND FORM's CARD OF 'freshetlaw6.ArenaReuse'. -/
def arenaReuseUptoCard : Claim7 := { stood := { row := arenaReuseUptoRow, standIns := [], harness := (true, "d95df887f927c0617491401707d8f5ea90a2dd5544f04eec7589b1742eb6b7e7"), looks := false }, kinds := [], alts := [], laidByText := true, laidKinds := [.data], laidTests := true, laidLooks := .later }
def ArenaReuseUptoCardSaid : Prop := Claim7.holds Tryd.pinned (.plain (OpenSpec.upto arenaReuseSpec)) arenaReuseUptoCard

/-- THE SECOND FORM's CARD OF 'freshetlaw7.InternActs'. -/
def internActsUptoCard : Claim7 := { stood := { row := internActsUptoRow, standIns := [], harness := (true, "d95df887f927c0617491401707d8f5ea90a2dd5544f04eec7589b1742eb6b7e7"), looks := false }, kinds := [], alts := [], laidByText := true, laidKinds := [.data], laidTests := true, laidLooks := .later }
def InternActsUptoCardSaid : Prop := Claim7.holds Tryd.pinned (.plain (OpenSpec.upto internActsSpec)) internActsUptoCard

/-- THE SECOND FORM's CARD OF 'freshetlaw7.InternOnce'. -/
def internOnceUptoCard : Claim7 := { stood := { row := internOnceUptoRow, standIns := [], harness := (true, "d95df887f927c0617491401707d8f5ea90a2dd5544f04eec7589b1742eb6b7e7"), looks := false }, kinds := [], alts := [], laidByText := true, laidKinds := [.data], laidTests := true, laidLooks := .later }
def InternOnceUptoCardSaid : Prop := Claim7.holds Tryd.pinned (.plain (OpenSpec.upto internOnceSpec)) internOnceUptoCard

/-- THE SECOND FORM's CARD OF 'freshetlaw7.InternFull'. -/
def internFullUptoCard : Claim7 := { stood := { row := internFullUptoRow, standIns := [], harness := (true, "d95df887f927c0617491401707d8f5ea90a2dd5544f04eec7589b1742eb6b7e7"), looks := false }, kinds := [], alts := [], laidByText := true, laidKinds := [.data], laidTests := true, laidLooks := .later }
def InternFullUptoCardSaid : Prop := Claim7.holds Tryd.pinned (.plain (OpenSpec.upto internFullSpec)) internFullUptoCard

/-- THE SECOND FORM's CARD OF 'freshetlaw7.InternCosts'. -/
def internCostsUptoCard : Claim7 := { stood := { row := internCostsUptoRow, standIns := [], harness := (true, "d95df887f927c0617491401707d8f5ea90a2dd5544f04eec7589b1742eb6b7e7"), looks := false }, kinds := [], alts := [], laidByText := true, laidKinds := [.data], laidTests := true, laidLooks := .later }
def InternCostsUptoCardSaid : Prop := Claim7.holds Tryd.pinned (.plain (OpenSpec.upto internCostsSpec)) internCostsUptoCard
end Rows
end Go.Proofs.YtdbaocphglijbaaDoor

/-
  DERIVED. GIVEN WITH THE SEED: THE PROGRAM's TIES (one call each: nine closed facts by the kernel) AND EACH ROW's TIE, after the 31st guide's Derived/Test/Toyas{Tie, Card}.lean. No idea stands in it: it is a product of the set-up. Laid BY PROGRAM, IN A SANDBOX (cutbox-door.mjs). By AI agents, Wed Nov 11 2026. No macro, syntax, notation, axiom, sorry.
-/
namespace Go.Proofs.YtdbaocphglijbaaDoor
open Go
set_option maxRecDepth 100000
theorem seatTie1 : Tryd.prog.laidByTextLater [("math/bits.deBruijn64tab", Rows.laid_math_bits_deBruijn64tab)] [.data] true :=
  Program.laidByTextLater_by_one 14 8 65 (by kernel_rfl) (by kernel_rfl) (by kernel_rfl) (by kernel_rfl) (by kernel_rfl) (by kernel_rfl) (fun _ _ => by kernel_rfl)
theorem noOwnUnsafe : Tryd.pinned.checked.prog.headLifts.contains "ownunsafe" = false := by kernel_rfl
theorem tie : Tryd.prog.laidByTextLater [("math/bits.deBruijn64tab", Rows.laid_math_bits_deBruijn64tab)] [.data] true :=
  Program.laidByTextLater.sub seatTie1 ["math/bits.deBruijn64tab"] (by kernel_rfl) (by kernel_rfl)
theorem arenaActs_row_tie : Rows.arenaActsRow.laidByTextAt .later Tryd.pinned [.data] true :=
  OpenClaim.laidByTextAt_later rfl rfl tie noOwnUnsafe
theorem arenaMoves_row_tie : Rows.arenaMovesRow.laidByTextAt .later Tryd.pinned [.data] true :=
  OpenClaim.laidByTextAt_later rfl rfl tie noOwnUnsafe
theorem arenaCosts_row_tie : Rows.arenaCostsRow.laidByTextAt .later Tryd.pinned [.data] true :=
  OpenClaim.laidByTextAt_later rfl rfl tie noOwnUnsafe
theorem arenaHandles_row_tie : Rows.arenaHandlesRow.laidByTextAt .later Tryd.pinned [.data] true :=
  OpenClaim.laidByTextAt_later rfl rfl tie noOwnUnsafe
theorem arenaEdges_row_tie : Rows.arenaEdgesRow.laidByTextAt .later Tryd.pinned [.data] true :=
  OpenClaim.laidByTextAt_later rfl rfl tie noOwnUnsafe
theorem arenaReuse_row_tie : Rows.arenaReuseRow.laidByTextAt .later Tryd.pinned [.data] true :=
  OpenClaim.laidByTextAt_later rfl rfl tie noOwnUnsafe
theorem internActs_row_tie : Rows.internActsRow.laidByTextAt .later Tryd.pinned [.data] true :=
  OpenClaim.laidByTextAt_later rfl rfl tie noOwnUnsafe
theorem internOnce_row_tie : Rows.internOnceRow.laidByTextAt .later Tryd.pinned [.data] true :=
  OpenClaim.laidByTextAt_later rfl rfl tie noOwnUnsafe
theorem internFull_row_tie : Rows.internFullRow.laidByTextAt .later Tryd.pinned [.data] true :=
  OpenClaim.laidByTextAt_later rfl rfl tie noOwnUnsafe
theorem internCosts_row_tie : Rows.internCostsRow.laidByTextAt .later Tryd.pinned [.data] true :=
  OpenClaim.laidByTextAt_later rfl rfl tie noOwnUnsafe
theorem arenaActsUpto_row_tie : Rows.arenaActsUptoRow.laidByTextAt .later Tryd.pinned [.data] true :=
  OpenClaim.laidByTextAt_later rfl rfl tie noOwnUnsafe
theorem arenaMovesUpto_row_tie : Rows.arenaMovesUptoRow.laidByTextAt .later Tryd.pinned [.data] true :=
  OpenClaim.laidByTextAt_later rfl rfl tie noOwnUnsafe
theorem arenaCostsUpto_row_tie : Rows.arenaCostsUptoRow.laidByTextAt .later Tryd.pinned [.data] true :=
  OpenClaim.laidByTextAt_later rfl rfl tie noOwnUnsafe
theorem arenaHandlesUpto_row_tie : Rows.arenaHandlesUptoRow.laidByTextAt .later Tryd.pinned [.data] true :=
  OpenClaim.laidByTextAt_later rfl rfl tie noOwnUnsafe
theorem arenaEdgesUpto_row_tie : Rows.arenaEdgesUptoRow.laidByTextAt .later Tryd.pinned [.data] true :=
  OpenClaim.laidByTextAt_later rfl rfl tie noOwnUnsafe
theorem arenaReuseUpto_row_tie : Rows.arenaReuseUptoRow.laidByTextAt .later Tryd.pinned [.data] true :=
  OpenClaim.laidByTextAt_later rfl rfl tie noOwnUnsafe
theorem internActsUpto_row_tie : Rows.internActsUptoRow.laidByTextAt .later Tryd.pinned [.data] true :=
  OpenClaim.laidByTextAt_later rfl rfl tie noOwnUnsafe
theorem internOnceUpto_row_tie : Rows.internOnceUptoRow.laidByTextAt .later Tryd.pinned [.data] true :=
  OpenClaim.laidByTextAt_later rfl rfl tie noOwnUnsafe
theorem internFullUpto_row_tie : Rows.internFullUptoRow.laidByTextAt .later Tryd.pinned [.data] true :=
  OpenClaim.laidByTextAt_later rfl rfl tie noOwnUnsafe
theorem internCostsUpto_row_tie : Rows.internCostsUptoRow.laidByTextAt .later Tryd.pinned [.data] true :=
  OpenClaim.laidByTextAt_later rfl rfl tie noOwnUnsafe
end Go.Proofs.YtdbaocphglijbaaDoor

/- The frame that all of the seat's laws share: the arguments opened, the laid variables, a world that fits, the arguments read as they did. -/
set_option maxRecDepth 100000
namespace Go.Proofs.YtdbaocphglijbaaDoor
open Go.ChangeShapes Go.WideShapes Go.ChangeAt Go.RowKit
open Go.ChangeMaps (open_string shut_string)

theorem own : ownKnob Tryd.prog.godebug = none := by kernel_rfl
theorem laidOut : laidOutB Tryd.prog = true := by kernel_rfl

section
variable {H : Type} {enc : TypeId × Value → H} {W : World}
theorem arg_int {r : Reach} {b0 : Nat} {v : Value} {d : DataW H} {ps : List MemPlace} (hval : Value.okWide Tryd.prog W r b0 3 v) (hd : DataW.Trod enc Tryd.prog W 0 (fun _ => true) true 3 v d ps) :
    ∃ z : Int, v = .int .i64 z ∧ -9223372036854775808 ≤ z ∧ z ≤ 9223372036854775807 := by
  obtain ⟨z, rfl, _, _, hw⟩ := open_int Tryd.underlying3 hval hd
  exact ⟨z, rfl, bounds_i64 hw⟩
theorem trodAll_below : ∀ {ts : List TypeId} {vs : List Value} {ds : List (DataW H)} {ps : List MemPlace} {W' : World}, DataW.TrodAll enc Tryd.prog W 0 (fun _ => true) true ts vs ds ps → Below W.heap.size W W' → (∀ x ∈ ps, x.block < W.heap.size) → (∀ t ∈ ts, Tryd.prog.readableRec t = true ∧ t < Tryd.prog.types.size) →
    DataW.TrodAll enc Tryd.prog W' 0 (fun b => decide (b < W.heap.size)) true ts vs ds ps
  | [], [], [], _, _, h, _, _, _ => h
  | t :: ts, v :: vs, d :: ds, _, _, ⟨p, q, h1, h2, e⟩, hb, hlt, hr =>
    ⟨p, q, Below.trod laidOut (hr t (List.mem_cons_self ..)).1 (hr t (List.mem_cons_self ..)).2 h1 hb (fun x hx => hlt x (by rw [e]; exact List.mem_append_left _ hx)),
      trodAll_below h2 hb (fun x hx => hlt x (by rw [e]; exact List.mem_append_right _ hx)) (fun t ht => hr t (List.mem_cons_of_mem _ ht)), e⟩

theorem law_post {s : ChangeSpec} {f : Func} {args : Array Value} {ds gs : List (DataW H)} {before : List MemPlace} {W' : World} (hW : DataW.Whole enc Tryd.prog f.params.toList s.vars false W args.toList ds gs before) (hvars : s.vars = []) (hb : Below W.heap.size W W')
    (hres : f.resultTypes = #[4]) (hfn : s.fn H (ds ++ gs) = { results := [.lit (.bool true)], args := ds }) (hr : ∀ t ∈ f.params.toList, Tryd.prog.readableRec t = true ∧ t < Tryd.prog.types.size) :
    s.post enc Tryd.prog f false true false false W args (.bool true) W' := by
  have hW' := hW
  obtain ⟨p, q, hA, hV, rfl, _, _⟩ := hW
  rw [hvars] at hV
  obtain ⟨rfl, rfl⟩ := trodVars_none hV
  refine ⟨ds, [], p ++ [], [], p, [], hW', ?_, ?_, ?_, hb.frame _, fun h => by cases h⟩
  · rw [hfn, hres]
    exact trodAll_mk1 (shut_bool Tryd.underlying4 true)
  · rw [hfn]
    exact trodAll_below hA hb (fun x hx => by simpa using hW'.lt x (List.mem_append_left _ hx)) hr
  · rw [hfn, hvars]
    rfl
end

theorem readT : ∀ t ∈ [3, 54], Tryd.prog.readableRec t = true ∧ t < Tryd.prog.types.size := by
  intro t ht
  simp only [List.mem_cons, List.not_mem_nil, or_false] at ht
  rcases ht with rfl | rfl
  all_goals exact ⟨by kernel_rfl, of_decide_eq_true (by kernel_rfl)⟩
theorem standT : ∀ t ∈ [3, 54], Tryd.prog.wantsStandIn t = false := by
  intro t ht
  simp only [List.mem_cons, List.not_mem_nil, or_false] at ht
  rcases ht with rfl | rfl
  all_goals kernel_rfl

/-! ### The laid variables -/
abbrev laidList : List (String × DataW Unit) := Rows.arenaCostsRow.laid
theorem tabOk {W : World} (hL : laidMetH Tryd.prog laidList W) : TabOk W := by
  have h : laidMet Tryd.prog laidList W := hL
  have h3 : laidMet Tryd.prog [("math/bits.deBruijn64tab", Lib.tabData .u8 (Lib.deBruijn64tab.map fun (x : Nat) => (x : Int)))] W := h
  have ht : Lib.TabIs Tryd.prog W "math/bits.deBruijn64tab" .u8 (Lib.deBruijn64tab.map fun (x : Nat) => (x : Int)) := Lib.tabIs_of_head (g := 0) (by kernel_rfl) (by kernel_rfl) Tryd.underlying143 Tryd.underlying5 (by kernel_rfl) (by kernel_rfl) h3
  intro j hj
  have hc := ht.cell (g := 0) (by kernel_rfl) j (by rw [List.length_map]; exact hj)
  rw [hc]
  simp [List.getD, hj]

/-! ### A world that fits -/
noncomputable def dataCells (n : String) : Array Value := match laidList.find? (fun x => x.1 == n) with
  | some (_, .agg ds) => (ds.map fun d => match d with | .lit (.int k z) => Value.int k z | _ => .nilIface).toArray
  | _ => #[]
noncomputable def laidWorld (os : Os) : World :=
  let w0 := World.holding Tryd.prog os ⟨#[], #[], []⟩
  let put (h : Array Obj) (g : Nat) (cs : Array Value) : Array Obj := h.modify g fun
    | .cells _ t frozen => .cells cs t frozen
    | o => o
  let h2 := w0.heap
  let h3 := put h2 0 (dataCells "math/bits.deBruijn64tab")
  { w0 with heap := h3 }
theorem laid_met (os : Os) (args : Array Value) : laidMet Tryd.prog laidList ((laidWorld os).forCall (fun _ _ => 0) ⟨#[], args, []⟩).memory :=
  laidMet_of_run' 8 (by kernel_rfl) (by kernel_rfl)
end Go.Proofs.YtdbaocphglijbaaDoor
