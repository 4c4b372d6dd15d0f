/- 3 texts put together: Get, Rdr, RdrB. -/
import Derived.Deep.RegionHeld3
import Derived.IntWalk
import Derived.StillTailTactics
import Derived.Test.YtfmghbmbahembaaJB8
import Derived.Test.YtfmghbmbahembaaJB10
import Derived.Test.YtfmghbmbahembaaJB11
import Derived.Test.YtfmghbmbahembaaJB14
import Derived.Test.YtfmghbmbahembaaJB16
import Derived.Test.YtfmghbmbahembaaJB24
/- Get: the name that begins at a place. -/
namespace Go.Proofs.Ytfmghbmbahembaa
open Go.RowKit Go.Shelf
attribute [local go_sem] Oper.semAt_some

def getRet : Option (List UInt8 × Nat) → Value
  | some (n, k) => .tuple #[.string ⟨n.toArray⟩, .int .i64 (k : Int), .int .i64 0]
  | none => .tuple #[.string ⟨#[]⟩, .int .i64 0, .int .i64 2]
def CapOk (v : Value) : Prop := ∀ ao n c, v = .slice ao n c → n ≤ c
theorem pairRet_some (e : Nat) : pairRet (some e) = .tuple #[.int .i64 (e : Int), .bool true] := rfl
theorem pairRet_none : pairRet none = .tuple #[.int .i64 0, .bool false] := rfl
theorem readI_two (W : World) (x y : Int) (t : TypeId) : ReadI (.slice (some ⟨W.heap.size, 0, none⟩) 2 2) [x, y] (W.alloc (.cells #[.int .i64 x, .int .i64 y] t)) := by
  refine ⟨some ⟨W.heap.size, 0, none⟩, 2, rfl, fun j hj => ⟨W.heap.size, 0, rfl, ?_⟩⟩
  have h := cells_new W [.int .i64 x, .int .i64 y] t j (.int .i64 ([x, y][j]'hj))
  have e : (⟨W.heap.size, 0, none⟩ : Addr).add j = ⟨W.heap.size, 0 + j, none⟩ := by unfold Addr.add; split <;> simp_all
  rw [e] at h
  refine h ?_
  match j, hj with
  | 0, _ => rfl
  | 1, _ => rfl
def room0 : Array Value := Array.replicate 255 (.int .u8 0)
theorem zeroRoom (w : World) : (zeroValue 137).run Try.prog w = .ok (.agg room0) w := by kernel_rfl
theorem room_new (W : World) (t : TypeId) : Room W.heap.size [] (W.alloc (.cells room0 t)) :=
  ⟨fun j hj => by simp at hj, fun j hj => by
    refine ⟨?_, ?_⟩
    · have hh : (W.alloc (.cells room0 t)).heap[W.heap.size]? = some (.cells room0 t) := World.alloc_heap_new W _
      show (match (W.alloc (.cells room0 t)).heap[W.heap.size]? with | some (.cells c _ _) => c[j]? | _ => none).isSome = true
      rw [hh]
      simp [room0, hj]
    · exact World.frozen?_alloc_at _ _ _ j rfl⟩

theorem readB_one {k : Nat} {c : UInt8} {W : World} (h : W.cell? ⟨k, 0, none⟩ = some (.int .u8 (c.toNat : Int))) : ReadB (.slice (some ⟨k, 0, none⟩) 1 1) [c] W :=
  ⟨some ⟨k, 0, none⟩, 1, rfl, fun j hj => ⟨k, 0, rfl, by
    obtain rfl : j = 0 := by simpa using hj
    exact h⟩⟩
theorem readI_pair {k : Nat} {x y : Int} {W : World} (h : W.cell? ⟨k, 0, none⟩ = some (.int .i64 x)) (h' : W.cell? ⟨k, 1, none⟩ = some (.int .i64 y)) : ReadI (.slice (some ⟨k, 0, none⟩) 2 2) [x, y] W :=
  ⟨some ⟨k, 0, none⟩, 2, rfl, fun j hj => ⟨k, 0, rfl, by
    match j, hj with
    | 0, _ => exact h
    | 1, _ => exact h'⟩⟩
theorem readI_below {v : Value} {l : List Int} {W W' : World} (h : ReadI v l W) (hb : Below W.heap.size W W') : ReadI v l W' := by
  obtain ⟨ao, cap, rfl, hc⟩ := h.form
  exact ⟨ao, cap, rfl, fun j hj => by
    obtain ⟨b, off, e, c⟩ := hc j hj
    exact ⟨b, off, e, (hb.cell (cell_lt c)).trans c⟩⟩
theorem readI_grown {k n cap B : Nat} {l : List Int} {W W' : World} (h : ReadI (.slice (some ⟨k, 0, none⟩) n cap) l W) (hg : W.grownBy W' (some B)) (hk : k ≠ B) : ReadI (.slice (some ⟨k, 0, none⟩) n cap) l W' := by
  obtain ⟨ao, cap', e0, hc⟩ := h.form
  refine ⟨ao, cap', e0, fun j hj => ?_⟩
  obtain ⟨b, off, e, c⟩ := hc j hj
  subst e
  obtain ⟨rfl, rfl⟩ : k = b ∧ 0 = off := by injection e0 with e1; injection e1 with e1; injection e1 with e1 e2 _; exact ⟨e1, e2⟩
  refine ⟨_, _, rfl, ?_⟩
  rw [World.cell?_of_block (a := ⟨k, 0 + j, none⟩) (hg.block k (cell_lt c) (by simpa using hk))]
  exact c
theorem conv_room {B : Nat} {l : List UInt8} {W : World} (h : Room B l W) {k : Nat} (hk : l.length = k) : (convert 22 9 (.slice (some ⟨B, 0, none⟩) k 255)).run Try.prog W = .ok (.string ⟨l.toArray⟩) W := by
  subst hk
  exact run_read_str h.read

theorem or_two (nk e : Nat) : orI [(nk : Int), (e : Int) + 2] = ((if nk = 0 then e + 2 else nk : Nat) : Int) := by
  unfold orI
  split
  · rw [if_pos (by omega)]
    unfold orI
    rw [if_neg (by omega)]; rfl
  · rw [if_neg (by omega)]

set_option maxRecDepth 100000 in
set_option maxHeartbeats 4000000 in
theorem get_any (b : List UInt8) (bv : Value) (z : Int) (w : World) (hr : ReadB bv b w) (hcap : CapOk bv) (hlen : b.length ≤ 100000) (hz1 : -9223372036854775808 ≤ z) (hz2 : z ≤ 9223372036854775807) :
    Calls Try.prog 77 #[bv, .int .i64 z] w fun e w' => e = .returned (getRet (Wn.get b z)) ∧ Below w.heap.size w w' := by
  obtain ⟨G, hG⟩ : ∃ G, Wn.get b z = G := ⟨_, rfl⟩
  rw [hG]
  have HCAP := Lib.hid hcap
  have hr' := hr
  obtain ⟨ao, cap, rfl, hcell⟩ := hr.form
  by_cases hneg : z < 0
  · obtain rfl : G = none := by rw [← hG, Wn.get_neg hneg]
    have HE : Hid (eolI b z = none) := Lib.hid (if_pos hneg)
    have HR := Lib.hid (fun W (hb : Below w.heap.size w W) => readB_below hr' hb)
    clear hr hr' hG hcell
    have hz60 := zeroRoom w
    go_enter Try.func77, Try.ntmps77
    go_wp2
    go_loopw [5, 8, 9] (fun nx rd pt wr => nx = .int .i64 0 ∧ pt = .int .i64 z ∧ Below w.heap.size w wr) (fun _ _ _ _ => 0)
    case atStart => exact ⟨rfl, rfl, (Below.refl _ _).alloc (Nat.le_refl _) _⟩
    case round =>
      obtain ⟨rfl, rfl, hb⟩ := hrel
      have hR := HR.out _ hb
      have HRR := Lib.hid hR
      clear hR
      go_wp2_with (go_at_call 90; refine (endl_any b _ z _ HRR.out (by omega) hz1 hz2).mono ?_; rw [HE.out, pairRet_none]; rintro e w' ⟨rfl, rfl⟩)
      go_ret3
      exact ⟨rfl, hb⟩
  · obtain ⟨p0, rfl⟩ := Int.eq_ofNat_of_zero_le (by omega : 0 ≤ z)
    rw [Wn.get_nat] at hG
    have HG := Lib.hid hG
    have HR := Lib.hid (fun W (hb : Below w.heap.size w W) => readB_below hr' hb)
    have HCELL := Lib.hid hcell
    clear hr hr' hG hneg hcell
    obtain ⟨i, hi, hiz0, hiz1, hiz2⟩ := info_parts infoByte
    have HI := Lib.hid (And.intro hi hiz1)
    clear hi hiz0 hiz1 hiz2
    have hz60 := zeroRoom w
    go_enter Try.func77, Try.ntmps77
    go_wp2
    go_loopw [5, 8, 9] (fun nx rd pt wr => ∃ (p nk : Nat) (R : List UInt8), nx = .int .i64 (nk : Int) ∧ rd = .slice (some ⟨w.heap.size, 0, none⟩) R.length 255 ∧ pt = .int .i64 (p : Int) ∧ R.length ≤ 254 ∧ p ≤ 9223372036854775807 ∧ nk ≤ 100002 ∧ Hid (Room w.heap.size R wr) ∧ Below w.heap.size w wr ∧ Hid (Wn.fin R nk (Wn.getU b p) = G)) (fun _ _ pt _ => (intOf pt).toNat)
    case atStart => exact ⟨p0, 0, [], rfl, rfl, rfl, by simp, by omega, by omega, Lib.hid (room_new w _), (Below.refl _ _).alloc (Nat.le_refl _) _, HG⟩
    case round =>
      obtain ⟨p, nk, R, rfl, rfl, rfl, hR, hp, hnk, hroom, hb, hfin⟩ := hrel
      have HRR := Lib.hid (HR.out _ hb)
      cases he : Wn.eol b p with
      | none =>
        have HE : Hid (eolI b (p : Int) = none) := Lib.hid (by rw [eolI_nat, he])
        obtain rfl : G = none := by rw [← hfin.out, Wn.getU_none he]; rfl
        clear he
        go_wp2_with (go_at_call 90; refine (endl_any b _ (p : Int) _ HRR.out (by omega) (by omega) (by omega)).mono ?_; rw [HE.out, pairRet_none]; rintro e w' ⟨rfl, rfl⟩)
        go_ret3
        exact ⟨rfl, hb⟩
      | some e =>
        obtain ⟨hpe, heb, hend⟩ := Wn.eol_some he
        have HE : Hid (eolI b (p : Int) = some e) := Lib.hid (by rw [eolI_nat, he])
        by_cases hlong : 255 ≤ R.length + (e - p)
        · obtain rfl : G = none := by rw [← hfin.out, Wn.fin_long he hlong]
          clear he hend
          go_wp2_with (go_at_call 90; refine (endl_any b _ (p : Int) _ HRR.out (by omega) (by omega) (by omega)).mono ?_; rw [HE.out, pairRet_some]; rintro e w' ⟨rfl, rfl⟩)
          go_ret3
          exact ⟨rfl, hb⟩
        · obtain ⟨pv, hpv, hpr⟩ := run_part HRR.out HCAP.out hpe (by omega)
          have hplen := Wn.part_length (b := b) (p := p) (e := e) (by omega)
          have hpart : (b.drop p).take (e - p) = Wn.part b p e := rfl
          rw [hpart] at hpr
          have HPR := Lib.hid hpr
          have HEE := Lib.hid he
          obtain ⟨P, hP⟩ : ∃ P, P = Wn.part b p e := ⟨_, rfl⟩
          rw [← hP] at HPR hplen
          have HP := Lib.hid hP
          have hPl : P.length ≤ 254 - R.length := by omega
          have HPL := Lib.hid hplen
          clear he hpr hpart hP hplen
          obtain ⟨g, off, rfl, cw⟩ := HCELL.out e heb
          obtain ⟨c0, hcc⟩ : ∃ c, c = b[e] := ⟨_, rfl⟩
          rw [← hcc] at cw hend
          replace cw : w.cell? ⟨g, off + e, none⟩ = some (.int .u8 (c0.toNat : Int)) := cw
          have HCW := Lib.hid cw
          have HCC := Lib.hid hcc
          have hc255 : c0.toNat ≤ 255 := by have := c0.toNat_lt; omega
          clear hcc cw
          by_cases h0 : c0.toNat = 0
          · have t1 : ((c0.toNat : Int) == 0) = true := by rw [h0]; rfl
            have HFIN : Hid (getRet G = .tuple #[.string ⟨(R ++ (P ++ [0])).toArray⟩, .int .i64 (orI [(nk : Int), (e : Int) + 1]), .int .i64 0]) := Lib.hid (by
              rw [← hfin.out, HP.out, Wn.fin_zero HEE.out heb (by rw [← HCC.out, ← UInt8.toNat_inj]; exact h0) hlong, List.append_assoc]
              show Value.tuple _ = _
              congr 4
              unfold orI
              split
              · rw [if_pos (by omega)]
                unfold orI
                rw [if_neg (by omega)]; rfl
              · rw [if_neg (by omega)])
            clear h0 hend
            go_wp2_with (first
              | (go_at_call 90; refine (endl_any b _ (p : Int) _ HRR.out (by omega) (by omega) (by omega)).mono ?_; rw [HE.out, pairRet_some]; rintro e w' ⟨rfl, rfl⟩)
              | (at_builtin; refine wpList_room _ rfl _ _ 22 rfl 5 i Try.underlying22 HI.out.1 HI.out.2 w.heap.size R P hroom.out rfl _ rfl HPR.out (by omega) ?_; intro w1 hroom1 hb1 hg1; have HROOM1 := Lib.hid hroom1; have hb' := hb.trans hb1; have c1 := (hb'.cell (p := ⟨g, off + e, none⟩) (cell_lt HCW.out)).trans HCW.out; clear hroom1 hg1))
            have hlt1 := HROOM1.out.lt
            have hw1 : IntKind.i64.wrap ((e : Int) + 1) = (e : Int) + 1 := IntWalk.i64_in _ (by omega)
            go_region_law (first
              | ((refine step_room (by rfl) _ _ 22 (by rfl) 5 i Try.underlying22 HI.out.1 HI.out.2 w.heap.size (R ++ P) [0] (HROOM1.out.below (by repeat (first | with_reducible exact Below.refl _ _ | (with_reducible refine Below.drew ?_) | (with_reducible refine Below.alloc ?_ (by simp) _)))) (by simp [Act.eval]) _ (by rfl) (readB_one (c := 0) (by simp [go_sem])) (by simp; omega) ?_; intro w2 hroom2 hb2 hg2; have hlt2 := hroom2.lt; have HC2 := Lib.hid (fun k j hk (hne : k ≠ w.heap.size) => World.cell?_of_block (a := ⟨k, j, none⟩) (hg2.block k hk (by simpa using hne))); have hcv := conv_room hroom2 (k := R.length + P.length + 1) (by simp; omega); have hcva := fun o => conv_room (hroom2.below ((Below.refl _ w2).alloc (Nat.le_refl _) o)) (k := R.length + P.length + 1) (by simp; omega)))
              | (go_simp; go_at_call 91; refine (or_any [(nk : Int), (e : Int) + 1] _ _ (readI_pair (by first | (simp [go_sem]; done) | (rw [HC2.out _ _ (by first | (simp; done) | (simp; omega)) (by simp; omega)]; simp [go_sem]; done)) (by first | (simp [go_sem]; done) | (rw [HC2.out _ _ (by first | (simp; done) | (simp; omega)) (by simp; omega)]; simp [go_sem]; done))) (by simp)).mono ?_; rintro e w' ⟨rfl, rfl⟩))
            all_goals simp only [List.getElem_toArray, List.getElem_cons_succ, List.getElem_cons_zero, Act.put, List.setIfInBounds_toArray, List.set_cons_succ, List.set_cons_zero]
            all_goals go_wp2
            all_goals go_ret3
            all_goals refine ⟨by rw [HFIN.out]; rfl, ?_⟩
            all_goals repeat (first | with_reducible exact hb' | (with_reducible refine Below.trans ?_ hb2) | (with_reducible refine Below.drew ?_) | (with_reducible refine Below.alloc ?_ (by first | (simp; omega) | omega) _))
          · have t1 : ((c0.toNat : Int) == 0) = false := by rw [beq_eq_false_iff_ne]; omega
            have h192 : 192 ≤ c0.toNat := by omega
            have hne : b[e] ≠ 0 := by
              rw [← HCC.out]
              intro h
              exact h0 (by rw [h]; rfl)
            have HTGT := Lib.hid (fun (W : World) (h : ReadB (.slice (some ⟨g, off, none⟩) b.length cap) b W) => target_any b _ e W h (by omega) heb (by rw [← HCC.out]; exact h192))
            have HNE := Lib.hid hne
            clear h0 hend hne h192
            cases hpt : Wn.ptr b e with
            | none =>
              obtain rfl : G = none := by rw [← hfin.out, Wn.fin_noptr HEE.out heb HNE.out hpt]
              have HPT := Lib.hid hpt
              clear hpt
              go_wp2_with (first
                | (go_at_call 90; refine (endl_any b _ (p : Int) _ HRR.out (by omega) (by omega) (by omega)).mono ?_; rw [HE.out, pairRet_some]; rintro e w' ⟨rfl, rfl⟩)
                | (at_builtin; refine wpList_room _ rfl _ _ 22 rfl 5 i Try.underlying22 HI.out.1 HI.out.2 w.heap.size R P hroom.out rfl _ rfl HPR.out (by omega) ?_; intro w1 hroom1 hb1 hg1; have HROOM1 := Lib.hid hroom1; have hb' := hb.trans hb1; have c1 := (hb'.cell (p := ⟨g, off + e, none⟩) (cell_lt HCW.out)).trans HCW.out; clear hroom1 hg1)
                | (go_at_call 92; refine (HTGT.out _ (HR.out _ hb')).mono ?_; rw [HPT.out, pairRet_none]; rintro e w' ⟨rfl, hd⟩))
              go_ret3
              exact ⟨rfl, hb'.trans hd.below⟩
            | some q =>
              have HPT := Lib.hid hpt
              by_cases hpq : p ≤ q
              · obtain rfl : G = none := by rw [← hfin.out, Wn.fin_ahead HEE.out heb HNE.out hpt hpq]
                clear hpt
                go_wp2_with (first
                  | (go_at_call 90; refine (endl_any b _ (p : Int) _ HRR.out (by omega) (by omega) (by omega)).mono ?_; rw [HE.out, pairRet_some]; rintro e w' ⟨rfl, rfl⟩)
                  | (at_builtin; refine wpList_room _ rfl _ _ 22 rfl 5 i Try.underlying22 HI.out.1 HI.out.2 w.heap.size R P hroom.out rfl _ rfl HPR.out (by omega) ?_; intro w1 hroom1 hb1 hg1; have HROOM1 := Lib.hid hroom1; have hb' := hb.trans hb1; have c1 := (hb'.cell (p := ⟨g, off + e, none⟩) (cell_lt HCW.out)).trans HCW.out; clear hroom1 hg1)
                  | (go_at_call 92; refine (HTGT.out _ (HR.out _ hb')).mono ?_; rw [HPT.out, pairRet_some]; rintro e w' ⟨rfl, hd⟩))
                go_ret3
                exact ⟨rfl, hb'.trans hd.below⟩
              · have hst := (Wn.fin_step (read := R) (nx := nk) HEE.out heb HNE.out hpt (by omega)).symm.trans hfin.out
                rw [← HP.out] at hst
                have HST := Lib.hid hst
                clear hpt hst
                go_wp2_with (first
                  | (go_at_call 90; refine (endl_any b _ (p : Int) _ HRR.out (by omega) (by omega) (by omega)).mono ?_; rw [HE.out, pairRet_some]; rintro e w' ⟨rfl, rfl⟩)
                  | (at_builtin; refine wpList_room _ rfl _ _ 22 rfl 5 i Try.underlying22 HI.out.1 HI.out.2 w.heap.size R P hroom.out rfl _ rfl HPR.out (by omega) ?_; intro w1 hroom1 hb1 hg1; have HROOM1 := Lib.hid hroom1; have hb' := hb.trans hb1; have c1 := (hb'.cell (p := ⟨g, off + e, none⟩) (cell_lt HCW.out)).trans HCW.out; clear hroom1 hg1)
                  | (go_at_call 92; refine (HTGT.out _ (HR.out _ hb')).mono ?_; rw [HPT.out, pairRet_some]; rintro e w' ⟨rfl, hd⟩; have hb2 := hb'.trans hd.below; have hsz2 := hb2.size; have hlt1 := HROOM1.out.lt)
                  | (go_at_call 91; refine (or_any [(nk : Int), (e : Int) + 2] _ _ (readI_two _ _ _ _) (by simp)).mono ?_; rintro e w' ⟨rfl, rfl⟩))
                refine ⟨⟨q, if nk = 0 then e + 2 else nk, R ++ P, by rw [or_two], by rw [List.length_append], rfl, by rw [List.length_append]; omega, by omega, by split <;> omega, Lib.hid ((HROOM1.out.below hd.below).below ((Below.refl _ _).alloc (Nat.le_refl _) _)), hb2.alloc hsz2 _, HST⟩, by simp [intOf]; omega⟩
end Go.Proofs.Ytfmghbmbahembaa

/- A reader of a message: note, must, bytes. -/
namespace Go.Proofs.Ytfmghbmbahembaa
open Go.RowKit Go.Shelf
attribute [local go_sem] Oper.semAt_some

def rCells (bv : Value) (at' : Nat) (e : Int) : Array Value := #[bv, .int .i64 (at' : Int), .int .i64 e]
/-- How a reader stands: at a place, or something was wrong. -/
def stands (s : Option Nat) (at' : Nat) (e : Int) : Prop := (s = some at' ∧ e = 0) ∨ (s = none ∧ e = 2)
/-- Block B is a reader of b. -/
structure RdS (B : Nat) (b : List UInt8) (bv : Value) (s : Option Nat) (W : World) : Prop where
  ex : ∃ (at' : Nat) (e : Int), Block W B (rCells bv at' e) 60 ∧ at' ≤ b.length ∧ stands s at' e
  read : ReadB bv b W
abbrev Only (B : Nat) : Nat → Prop := fun k => k = B
theorem RdS.below {B : Nat} {b : List UInt8} {bv : Value} {s : Option Nat} {W W' : World} (h : RdS B b bv s W) (hb : Below W.heap.size W W') : RdS B b bv s W' := by
  obtain ⟨at', e, h1, h2, h3⟩ := h.ex
  exact ⟨⟨at', e, h1.below hb, h2, h3⟩, readB_below h.read hb⟩
theorem RdS.lt {B : Nat} {b : List UInt8} {bv : Value} {s : Option Nat} {W : World} (h : RdS B b bv s W) : B < W.heap.size := by
  obtain ⟨at', e, h1, _⟩ := h.ex
  exact h1.lt
/-- Bytes don't lie in a reader's block. -/
theorem readB_set {B i : Nat} {b l : List UInt8} {bv v u : Value} {at' : Nat} {e : Int} {W : World} (hv : ReadB v l W) (hB : Block W B (rCells bv at' e) 60) (hbv : ReadB bv b W) : ReadB v l (W.setCell ⟨B, i, none⟩ u) := by
  obtain ⟨ao, cap, rfl, hc⟩ := hv.form
  obtain ⟨bo, bcap, rfl, _⟩ := hbv.form
  refine ⟨ao, cap, rfl, fun j hj => ?_⟩
  obtain ⟨g, off, e', c⟩ := hc j hj
  refine ⟨g, off, e', ?_⟩
  have hne : g ≠ B := by
    rintro rfl
    have c' : (rCells (.slice bo b.length bcap) at' e)[off + j]? = some (encB l[j]) := by
      have : W.cell? ⟨g, off + j, none⟩ = (rCells (.slice bo b.length bcap) at' e)[off + j]? := by
        show (match W.heap[g]? with | some (.cells c _ _) => c[off + j]? | _ => none) = _
        rw [show W.heap[g]? = _ from hB]
      rw [← this]; exact c
    unfold rCells encB at c'
    match hq : off + j with
    | 0 => rw [hq] at c'; simp at c'
    | 1 => rw [hq] at c'; simp at c'
    | 2 => rw [hq] at c'; simp at c'
    | n + 3 => rw [hq] at c'; simp at c'
  rw [World.cell?_of_block (a := ⟨g, off + j, none⟩) (Below.heap_setCell W ⟨B, i, none⟩ u g hne)]
  exact c
theorem turn_block {B i : Nat} {bv : Value} {at' : Nat} {e : Int} {W : World} (h : Block W B (rCells bv at' e) 60) (v : Value) : Turn (Only B) W (W.setCell ⟨B, i, none⟩ v) :=
  turn_setCell (f := Only B) (show W.heap[B]? = some (.cells _ _ (0, 0)) from h) (by simp [rCells]) rfl i v

/-- Where it stands behind a look that may fail. -/
def after (ok : Bool) (s : Option Nat) : Option Nat := if ok then s else none
def errOf (ok : Bool) : Int := if ok then 0 else 2
theorem rCells2 (bv : Value) (at' : Nat) (e n : Int) : (rCells bv at' e).setIfInBounds 2 (.int .i64 n) = rCells bv at' n := rfl
theorem rCells1 (bv : Value) (at' k : Nat) (e : Int) : (rCells bv at' e).setIfInBounds 1 (.int .i64 (k : Int)) = rCells bv k e := rfl
/-- What an act on a reader comes to. -/
def RdRet (B : Nat) (b : List UInt8) (bv : Value) (v : Value) (s' : Option Nat) (w : World) (e : Ending) (w' : World) : Prop := e = .returned v ∧ Turn (Only B) w w' ∧ RdS B b bv s' w'

set_option maxRecDepth 100000 in
set_option maxHeartbeats 400000 in
theorem dnote_any (B : Nat) (b : List UInt8) (bv : Value) (s : Option Nat) (ok : Bool) (w : World) (h : RdS B b bv s w) :
    Calls Try.prog 76 #[.pointer (some ⟨B, 0, none⟩), .int .i64 (errOf ok)] w (RdRet B b bv (.tuple #[]) (after ok s) w) := by
  obtain ⟨at', e, hB, ha, hs⟩ := h.ex
  have HH := Lib.hid h
  have hc := hB.cell (i := 2) (v := .int .i64 e) rfl
  have hf := hB.frozen 2
  have HB := Lib.hid hB
  have HS := Lib.hid hs
  clear h hB
  obtain ⟨n, hn⟩ : ∃ n : Int, errOf ok = n := ⟨_, rfl⟩
  rw [hn]
  have HN := Lib.hid hn
  clear hn
  rcases hs with ⟨hs, he⟩ | ⟨hs, he⟩
  · have HS0 := Lib.hid hs
    have HE := Lib.hid he
    have g1 : ((e : Int) == 0) = true := by rw [he]; rfl
    clear hs he
    go_enter Try.func76, Try.ntmps76
    go_wp2
    go_end0
    have hb2 := HB.out.set 2 (.int .i64 n)
    rw [rCells2] at hb2
    refine ⟨rfl, turn_block HB.out _, ⟨at', n, hb2, ha, ?_⟩, readB_set HH.out.read HB.out HH.out.read⟩
    rw [← HN.out, HS0.out]
    cases ok with
    | true => exact .inl ⟨rfl, rfl⟩
    | false => exact .inr ⟨rfl, rfl⟩
  · have HS0 := Lib.hid hs
    have HE := Lib.hid he
    have g1 : ((e : Int) == 0) = false := by rw [he]; rfl
    clear hs he
    go_enter Try.func76, Try.ntmps76
    go_wp2
    go_end0
    refine ⟨rfl, Turn.refl _ _, ⟨at', e, HB.out, ha, ?_⟩, HH.out.read⟩
    rw [HS0.out, HE.out]
    cases ok with
    | true => exact .inr ⟨rfl, rfl⟩
    | false => exact .inr ⟨rfl, rfl⟩

set_option maxRecDepth 100000 in
set_option maxHeartbeats 400000 in
theorem dmust_any (B : Nat) (b : List UInt8) (bv : Value) (s : Option Nat) (ok : Bool) (w : World) (h : RdS B b bv s w) :
    Calls Try.prog 57 #[.pointer (some ⟨B, 0, none⟩), .bool ok] w (RdRet B b bv (.tuple #[]) (after ok s) w) := by
  have HH := Lib.hid h
  clear h
  cases ok with
  | true =>
    go_enter Try.func57, Try.ntmps57
    go_wp2
    go_end0
    exact ⟨rfl, Turn.refl _ _, HH.out⟩
  | false =>
    have C := Lib.hid (dnote_any B b bv s false w HH.out)
    go_enter Try.func57, Try.ntmps57
    go_wp2_with fail
    refine C.out.mono ?_
    rintro e w1 ⟨rfl, h1, h2⟩
    go_wp2
    go_end0
    exact ⟨rfl, h1, h2⟩
end Go.Proofs.Ytfmghbmbahembaa

/- A reader of a message: bytes. -/
namespace Go.Proofs.Ytfmghbmbahembaa
open Go.RowKit Go.Shelf
attribute [local go_sem] Oper.semAt_some

/-- The bytes that are told, and where it stands behind them. -/
def BytesRet (B : Nat) (b : List UInt8) (bv : Value) (l : List UInt8) (s' : Option Nat) (w : World) (e : Ending) (w' : World) : Prop := ∃ v, e = .returned v ∧ ReadB v l w' ∧ Turn (Only B) w w' ∧ RdS B b bv s' w'
theorem readB_nil (W : World) : ReadB (.slice none 0 0) [] W := ⟨none, 0, rfl, fun j hj => by simp at hj⟩

theorem RdS.here {B : Nat} {b : List UInt8} {bv : Value} {p : Nat} {W : World} (h : RdS B b bv (some p) W) : Block W B (rCells bv p 0) 60 := by
  obtain ⟨at', e, hB, ha, hs⟩ := h.ex
  obtain ⟨rfl, rfl⟩ : p = at' ∧ e = 0 := by rcases hs with ⟨h1, h2⟩ | ⟨h1, _⟩ <;> simp_all
  exact hB
theorem RdS.le {B : Nat} {b : List UInt8} {bv : Value} {p : Nat} {W : World} (h : RdS B b bv (some p) W) : p ≤ b.length := by
  obtain ⟨at', e, hB, ha, hs⟩ := h.ex
  obtain ⟨rfl, rfl⟩ : p = at' ∧ e = 0 := by rcases hs with ⟨h1, h2⟩ | ⟨h1, _⟩ <;> simp_all
  exact ha
theorem RdS.bad {B : Nat} {b : List UInt8} {bv : Value} {W : World} (h : RdS B b bv none W) : ∃ at' : Nat, Block W B (rCells bv at' 2) 60 ∧ at' ≤ b.length := by
  obtain ⟨at', e, hB, ha, hs⟩ := h.ex
  obtain rfl : e = 2 := by rcases hs with ⟨h1, h2⟩ | ⟨h1, h2⟩ <;> simp_all
  exact ⟨at', hB, ha⟩
theorem RdS.of {B : Nat} {b : List UInt8} {bv : Value} {p : Nat} {W : World} (h : Block W B (rCells bv p 0) 60) (hp : p ≤ b.length) (hr : ReadB bv b W) : RdS B b bv (some p) W := ⟨⟨p, 0, h, hp, .inl ⟨rfl, rfl⟩⟩, hr⟩
theorem only_drew (B : Nat) (w : World) : Turn (Only B) w w.drew := Turn.of_below (Below.refl _ w).drew

set_option maxRecDepth 100000 in
set_option maxHeartbeats 1000000 in
theorem dbytes_yes (B : Nat) (b : List UInt8) (bv : Value) (p k : Nat) (w : World) (h : RdS B b bv (some p) w) (hcap : CapOk bv) (hlen : b.length ≤ 100000) (hk : p + k ≤ b.length) :
    Calls Try.prog 89 #[.pointer (some ⟨B, 0, none⟩), .int .i64 (k : Int)] w (BytesRet B b bv ((b.drop p).take k) (some (p + k)) w) := by
  obtain ⟨ao, cap, rfl, _⟩ := h.read.form
  obtain ⟨L, hL⟩ : ∃ L, (b.drop p).take k = L := ⟨_, rfl⟩
  have hB := h.here
  have hc0 := hB.cell (i := 0) (v := .slice ao b.length cap) rfl
  have hc1 := hB.cell (i := 1) (v := .int .i64 (p : Int)) rfl
  have C := Lib.hid (fun W (hb : RdS B b (.slice ao b.length cap) (some p) W) => dmust_any B b _ (some p) true W hb)
  have HH := Lib.hid (h.below (Below.refl w.heap.size w).drew)
  obtain ⟨pv, hpv, hpr⟩ := run_part h.read hcap (p := p) (e := p + k) (by omega) hk
  have hpv' : ∀ W, (Instr.slice 22 (.slice ao b.length cap) (some (.int .i64 (p : Int))) (some (.int .i64 ((p : Int) + (k : Int)))) none).run Try.prog W = .ok pv W := hpv
  have hpart : ∀ W, ReadB (.slice ao b.length cap) b W → ReadB pv L W := fun W hr => by
    obtain ⟨pv', hpv2, hpr2⟩ := run_part hr hcap (p := p) (e := p + k) (by omega) hk
    rw [show p + k - p = k by omega] at hpr2
    have := (hpv w).symm.trans (hpv2 w)
    cases this
    rw [hL] at hpr2
    exact hpr2
  rw [show p + k - p = k by omega, hL] at hpr
  rw [hL]
  obtain ⟨ao2, cap2, rfl, _⟩ := hpr.form
  have HPART := Lib.hid hpart
  have hk0 : 0 ≤ (k : Int) := by omega
  clear h hB hpr hpv hcap hpart hL
  have dW := (Below.refl w.heap.size w).drew
  replace hc0 := keep_cell dW hc0
  replace hc1 := keep_cell dW hc1
  clear dW
  have hd : decide ((k : Int) ≤ (b.length : Int) - (p : Int)) = true := decide_eq_true (by omega)
  have hw : IntKind.i64.wrap ((b.length : Int) - (p : Int)) = (b.length : Int) - (p : Int) := IntWalk.i64_in _ (by omega)
  go_enter Try.func89, Try.ntmps89
  go_wp2_with fail
  refine wp_region_still_tail 17 (by kernel_rfl) (by kernel_rfl) ?_
  simp only [List.take_succ_cons, List.take_zero, List.drop_succ_cons, List.drop_zero]
  repeat (with_reducible refine wpStill_step (fun K hK => ?_); go_simp; with_reducible refine hK _ ?_; clear hK K)
  with_reducible refine wpStill_nil ?_
  go_wp2_with fail
  refine (C.out _ HH.out).mono ?_
  clear hd hw
  rintro e w1 ⟨rfl, hT, hR⟩
  have hB1 := RdS.here hR
  clear hc0 hc1
  have c0 := hB1.cell (i := 0) (v := .slice ao b.length cap) rfl
  have c1 := hB1.cell (i := 1) (v := .int .i64 (p : Int)) rfl
  have c2 := hB1.cell (i := 2) (v := .int .i64 0) rfl
  have f1 := hB1.frozen 1
  have HT := Lib.hid hT
  have HR := Lib.hid hR
  have HB1 := Lib.hid hB1
  clear hT hR hB1
  go_wp2_with fail
  go_quiet (fail)
  go_wp2_with fail
  go_ret
  have hB2 := HB1.out.set 1 (.int .i64 ((p + k : Nat) : Int))
  rw [rCells1, show ((p + k : Nat) : Int) = (p : Int) + (k : Int) by omega] at hB2
  have hr2 := readB_set (i := 1) (u := .int .i64 ((p : Int) + (k : Int))) HR.out.read HB1.out HR.out.read
  exact ⟨_, rfl, HPART.out _ (readB_below hr2 (below_drewN (Below.refl _ _) _)), ((only_drew B w).then HT.out).then ((turn_block HB1.out _).then (Turn.of_below (below_drewN (Below.refl _ _) _))), RdS.of (hB2.below (below_drewN (Below.refl _ _) _)) hk (readB_below hr2 (below_drewN (Below.refl _ _) _))⟩

theorem after_true (s : Option Nat) : after true s = s := rfl
theorem after_false (s : Option Nat) : after false s = none := rfl

set_option maxRecDepth 100000 in
set_option maxHeartbeats 1000000 in
theorem dbytes_no (B : Nat) (b : List UInt8) (bv : Value) (s : Option Nat) (n : Int) (w : World) (h : RdS B b bv s w) (hlen : b.length ≤ 100000) (hno : ∀ p, s = some p → n < 0 ∨ (b.length : Int) < p + n) :
    Calls Try.prog 89 #[.pointer (some ⟨B, 0, none⟩), .int .i64 n] w (BytesRet B b bv [] none w) := by
  obtain ⟨p, e, hB, ha, hs⟩ := h.ex
  have hch : ∃ ok : Bool, after ok s = none ∧ ((n < 0 ∧ ok = false) ∨ (0 ≤ n ∧ decide (n ≤ (b.length : Int) - (p : Int)) = ok)) := by
    by_cases hn : n < 0
    · exact ⟨false, rfl, .inl ⟨hn, rfl⟩⟩
    · refine ⟨_, ?_, .inr ⟨by omega, rfl⟩⟩
      rcases hs with ⟨h1, _⟩ | ⟨h1, _⟩
      · rcases hno p h1 with h2 | h2
        · omega
        · rw [decide_eq_false (by omega)]; rfl
      · rw [h1]; unfold after; split <;> rfl
  obtain ⟨ok, haf, hch⟩ := hch
  obtain ⟨ao, cap, rfl, _⟩ := h.read.form
  have hc0 := hB.cell (i := 0) (v := .slice ao b.length cap) rfl
  have hc1 := hB.cell (i := 1) (v := .int .i64 (p : Int)) rfl
  have C := Lib.hid (fun W (hb : RdS B b (.slice ao b.length cap) s W) => dmust_any B b _ s ok W hb)
  rw [haf] at C
  have HH := Lib.hid (h.below (Below.refl w.heap.size w).drew)
  clear h hB hs hno haf
  have dW := (Below.refl w.heap.size w).drew
  replace hc0 := keep_cell dW hc0
  replace hc1 := keep_cell dW hc1
  clear dW
  have hw : IntKind.i64.wrap ((b.length : Int) - (p : Int)) = (b.length : Int) - (p : Int) := IntWalk.i64_in _ (by omega)
  rcases hch with ⟨hn, rfl⟩ | ⟨hn, hd⟩
  · have hd : decide (0 ≤ n) = false := decide_eq_false (by omega)
    clear hn
    go_enter Try.func89, Try.ntmps89
    go_wp2_with fail
    refine wp_region_still_tail 17 (by kernel_rfl) (by kernel_rfl) ?_
    simp only [List.take_succ_cons, List.take_zero, List.drop_succ_cons, List.drop_zero]
    repeat (with_reducible refine wpStill_step (fun K hK => ?_); go_simp; with_reducible refine hK _ ?_; clear hK K)
    with_reducible refine wpStill_nil ?_
    go_wp2_with fail
    refine (C.out _ HH.out).mono ?_
    clear hd hw
    rintro e w1 ⟨rfl, hT, hR⟩
    obtain ⟨q, hB1, hq⟩ := RdS.bad hR
    clear hc0 hc1
    have c2 := hB1.cell (i := 2) (v := .int .i64 2) rfl
    have HT := Lib.hid hT
    have HR := Lib.hid hR
    clear hT hR hB1
    go_wp2_with fail
    go_ret
    exact ⟨_, rfl, readB_nil _, (only_drew B w).then HT.out, HR.out⟩
  · go_enter Try.func89, Try.ntmps89
    go_wp2_with fail
    refine wp_region_still_tail 17 (by kernel_rfl) (by kernel_rfl) ?_
    simp only [List.take_succ_cons, List.take_zero, List.drop_succ_cons, List.drop_zero]
    repeat (with_reducible refine wpStill_step (fun K hK => ?_); go_simp; with_reducible refine hK _ ?_; clear hK K)
    with_reducible refine wpStill_nil ?_
    go_wp2_with fail
    refine (C.out _ HH.out).mono ?_
    clear hd hw
    rintro e w1 ⟨rfl, hT, hR⟩
    obtain ⟨q, hB1, hq⟩ := RdS.bad hR
    clear hc0 hc1
    have c2 := hB1.cell (i := 2) (v := .int .i64 2) rfl
    have HT := Lib.hid hT
    have HR := Lib.hid hR
    clear hT hR hB1
    go_wp2_with fail
    go_ret
    exact ⟨_, rfl, readB_nil _, (only_drew B w).then HT.out, HR.out⟩
end Go.Proofs.Ytfmghbmbahembaa
