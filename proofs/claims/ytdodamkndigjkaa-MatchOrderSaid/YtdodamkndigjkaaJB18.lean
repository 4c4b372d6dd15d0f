/- Sets' own iterator. -/
import Derived.Test.YtdodamkndigjkaaJB14
import Derived.Test.YtdodamkndigjkaaJB16
import Derived.Test.YtdodamkndigjkaaJB17
/- Sets' own iterator. -/
set_option maxRecDepth 100000
namespace Go.Proofs.Ytdodamkndigjkaa
open Go.RowKit Go.Shelf Go.Maps
attribute [local go_sem] Oper.semAt_some

/-- What the walk of groups keeps: the groups. -/
def KG (base : Nat) (gv : Value) (L : List Ge) (W W' : World) : Prop := GHas 117 base gv L W → GHas 117 base gv L W'
def encY (x : Ge) : Array Value := #[keyV x.name x.typ, x.v]
theorem kg_t {base : Nat} {gv : Value} {L : List Ge} {A B C : World} (h : KG base gv L A B) (k : KG base gv L B C) : KG base gv L A C := fun x => k (h x)

set_option maxHeartbeats 8000000 in
theorem sets_iter (n l B base b0 : Nat) (hn : 1 ≤ n) (gv : Value) (L : List Ge) (J Jx : List Ge → World → Prop) (W : World) (hJ : OwnBk W.heap.size J) (hL : L.length ≤ 100000) (hLr : ∀ g ∈ L, g.rrs.length ≤ 100000) (hb0 : b0 ≤ W.heap.size)
    (hY : ∀ pre x W1, J pre W1 → OwnK encRR 5 51 b0 x.v x.rrs W1 → (pre ++ [x]).map Ge.gr <+: L.map Ge.gr → YieldAt Fence.wide (n - 1) Try.prog l (encY x) W1 fun e W' =>
      (e = .returned (.bool true) ∧ J (pre ++ [x]) W' ∧ KG base gv L W1 W' ∧ W1.heap.size ≤ W'.heap.size) ∨ (e = .returned (.bool false) ∧ Jx (pre ++ [x]) W'))
    (hB : Block W B #[gv] 113) (hG : GHas 117 base gv L W) (h0 : J [] W) :
    CallsIn Fence.wide n Try.prog 71 #[.func (.yield l) #[] #[], .pointer (some ⟨B, 0, none⟩)] W fun e W' => (∃ v, e = .returned v) ∧
      ((∃ ys : List Ge, ys.map Ge.gr = L.map Ge.gr ∧ J ys W') ∨ (∃ pre : List Ge, pre.map Ge.gr <+: L.map Ge.gr ∧ Jx pre W')) := by
  have hJb : ∀ {pre : List Ge} {W1 W2 : World}, J pre W1 → Below W1.heap.size W1 W2 → J pre W2 := fun h hb => hJ _ _ _ none h ⟨hb.os, hb.tape, hb.output, hb.size, fun k hk _ => hb.block k hk⟩ (fun r e => by cases e)
  have k0 := hB.cell (i := 0) (v := gv) rfl
  have HY := Lib.hid hY
  have HJb : Hid (∀ (pre : List Ge) (W1 W2 : World), J pre W1 → Below W1.heap.size W1 W2 → J pre W2) := Lib.hid (fun _ _ _ => hJb)
  have HG := Lib.hid hG
  have HLR := Lib.hid hLr
  clear hY hB hG hJb hLr
  obtain ⟨ao, cap, rfl, _⟩ := HG.out.read.form
  refine callsIn_of_wp Try.func71 rfl trivial ?_ rfl
  simp only [Try.ntmps71, List.size_toArray, List.length_cons, List.length_nil, Nat.reduceAdd, Nat.reduceSub, Array.replicate_succ, Array.replicate_zero, List.push_toArray, List.append_toArray, List.nil_append, List.cons_append]
  gi_wp2_with fail
  gi_loopw [7] (fun p wr => ∃ (i : Nat) (ys : List Ge), p = .int .i64 (i : Int) ∧ i ≤ L.length ∧ ys.map Ge.gr = (L.take i).map Ge.gr ∧ Hid (J ys wr) ∧ Hid (GHas 117 base (.slice ao L.length cap) L wr) ∧ W.heap.size ≤ wr.heap.size) (fun p _ => L.length + 1 - (intOf p).toNat)
  case atStart => exact ⟨0, [], rfl, by omega, rfl, Lib.hid h0, HG, Nat.le_refl _⟩
  case round =>
    clear HG h0
    obtain ⟨i, ys, rfl, hi, hys, HJ, HG, hWr⟩ := hrel
    by_cases hlt : i < L.length
    · obtain ⟨ao', cap', e, hc⟩ := HG.out.read.form
      cases e
      obtain ⟨g, off, rfl, x0, x1, x2⟩ := hc i hlt
      have hown := HG.out.each i hlt
      have hpre : ∀ x : Ge, x.gr = L[i].gr → (ys ++ [x]).map Ge.gr = (L.take (i + 1)).map Ge.gr := fun x hx => by
        rw [List.map_append, hys, List.take_succ_eq_append_getElem hlt, List.map_append, List.map_cons, List.map_nil, hx, List.map_cons, List.map_nil]
      have hrl := HLR.out L[i] (List.getElem_mem hlt)
      obtain ⟨⟨pn, pt, pr, pao, pcap⟩, hpq⟩ : ∃ x, L[i] = x := ⟨_, rfl⟩
      rw [hpq] at x0 x1 x2 hown hpre hrl
      simp only [Ge.gr] at x0 x1 x2 hpre hrl
      simp only [Ge.v] at x2 hown
      have HPRE := Lib.hid hpre
      have HYS := Lib.hid hys
      clear hpq hc hpre hys
      obtain ⟨pa, hpa⟩ : ∃ a : Option Addr, pao.map (fun b => (⟨b, 0, none⟩ : Addr)) = a := ⟨_, rfl⟩
      rw [hpa] at x2 hown
      clear hpa
      have hbA := (Below.refl wr.heap.size wr).alloc (Nat.le_refl _) (.cells #[.string ⟨pn.toArray⟩, .int .i64 pt, .slice pa pr.length pcap] 117)
      have kA := Block.new wr #[.string ⟨pn.toArray⟩, .int .i64 pt, .slice pa pr.length pcap] 117
      have d0 := kA.cell (i := 0) rfl
      have d1 := kA.cell (i := 1) rfl
      have d2 := kA.cell (i := 2) rfl
      have HBA := Lib.hid hbA
      have HRD := Lib.hid (readR_below (readR_own hown) hbA)
      have HCL := Lib.hid (fun W' (hb : Below (wr.alloc (.cells #[.string ⟨pn.toArray⟩, .int .i64 pt, .slice pa pr.length pcap] 117)).heap.size (wr.alloc (.cells #[.string ⟨pn.toArray⟩, .int .i64 pt, .slice pa pr.length pcap] 117)) W') => rrclone_any pr _ W' (readR_below HRD.out hb) hrl)
      clear kA hbA hown
      have hF : Fence.wide.fn 69 := trivial
      have hmx : Try.prog.follows .mixedOrders = true := by kernel_rfl
      gi_wp2_with fail
      gi_region_with_o (first
        | (gi_at_call 69; refine (callsIn_wide.2 (HCL.out _ ((Below.refl _ _).drew))).mono ?_; rintro e W2 ⟨v2, rfl, ho2, b2⟩; have hb2 := Lib.hid (below_trans HBA.out.drew b2); have hs2 := hb2.out.size; have z0 := keep_cell (below_trans ((Below.refl _ _).drew) b2) d0; have z1 := keep_cell (below_trans ((Below.refl _ _).drew) b2) d1; obtain ⟨ao2, cp2, rfl, ho2'⟩ := own_map (World.ownsRow.mono ho2 (Nat.le_trans hb0 (Nat.le_trans hWr HBA.out.size))); obtain ⟨fn, tmps, assign, body, hy, hR⟩ := HY.out ys ⟨pn, pt, pr, ao2, cp2⟩ W2 (HJb.out _ _ _ HJ.out hb2.out) ho2' (by rw [HPRE.out _ rfl]; exact List.IsPrefix.map _ (List.take_prefix _ _)); simp only [encY, keyV, Ge.v] at hy)
        | (refine hR.mono ?_; intro e W3 hor; obtain ⟨bb, rfl, hbb3⟩ := one_of hor))
      all_goals
        have hfin := hbb3.out
        clear hbb3
        cases bb with
        | false =>
          obtain ⟨_, hJx3⟩ := hfin.resolve_left (fun h => by cases h.1)
          have HJx := Lib.hid hJx3
          clear hJx3 hfin
          gi_wp2_with fail
          refine bodyPost_ret (results_none rfl _ _ _) rfl ?_
          exact ⟨⟨_, rfl⟩, .inr ⟨_, by rw [HPRE.out _ rfl]; exact List.IsPrefix.map _ (List.take_prefix _ _), HJx.out⟩⟩
        | true =>
          obtain ⟨_, hJ3, hk3, hs3⟩ := hfin.resolve_right (fun h => by cases h.1)
          have HJ3 := Lib.hid hJ3
          have HG3 := Lib.hid (hk3 (HG.out.below hb2.out))
          have HRB := Lib.hid hR
          clear hJ3 hk3 hfin
          have hmapY := HPRE.out ⟨pn, pt, pr, ao2, cp2⟩ rfl
          gi_wp2_with fail
          go_roundw
          case rel => exact ⟨i + 1, _, by go_num, by omega, hmapY, HJ3, HG3, by omega⟩
          case measure => simp [intOf]; omega
    · obtain rfl : i = L.length := by omega
      have HJ4 := HJ.out
      rw [List.take_length] at hys
      gi_wp2_with fail
      go_end0
      exact ⟨⟨_, rfl⟩, .inl ⟨ys, hys, HJ4⟩⟩
theorem sets_stops (n : Nat) (hn : 1 ≤ n) (B base : Nat) (gv : Value) (L : List Ge) (w : World) (hL : L.length ≤ 100000) (hLr : ∀ g ∈ L, g.rrs.length ≤ 100000) (hB : Block w B #[gv] 113) (hG : GHas 117 base gv L w) (N : Nat) (hN : L.length ≤ N) :
    SeqStopsY Fence.wide n Try.prog 71 #[.pointer (some ⟨B, 0, none⟩)] encY (KG base gv L) (fun ys => ys.map Ge.gr = L.map Ge.gr) (fun pre => pre.map Ge.gr <+: L.map Ge.gr) N (fun x W => OwnK encRR 5 51 w.heap.size x.v x.rrs W) w :=
  fun l J Jx W hW hJ _ hY h0 => sets_iter n l B base w.heap.size hn gv L J Jx W hJ hL hLr hW.size (fun pre x W1 h1 ho hp => by
    obtain ⟨fn, tmps, assign, body, hy, hR⟩ := hY pre x W1 h1 ho (by have := hp.length_le; simp at this; omega) hp
    exact ⟨fn, tmps, assign, body, hy, hR.mono fun e W' h => h.imp (fun h => ⟨h.1, h.2.1, h.2.2.1, h.2.2.2.size⟩) (fun h => ⟨h.1, h.2.1⟩)⟩) (hB.below hW) (hG.below hW) h0

/-- What Sets gives: a function whose own memory lies above base. -/
def SetsRet (l : List Rd.RR) (w : World) (e : Ending) (w' : World) : Prop :=
  ∃ B gv L, e = .returned (.func (.func 71) #[] #[.pointer (some ⟨B, 0, none⟩)]) ∧ w.heap.size ≤ B ∧ Block w' B #[gv] 113 ∧ GHas 117 w.heap.size gv L w' ∧ L.map Ge.gr = Mt.sets l ∧ Below w.heap.size w w'
end Go.Proofs.Ytdodamkndigjkaa
