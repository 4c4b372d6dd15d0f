/- 2 texts put together: Grouped, SetsF. -/
import Derived.Carry
import Derived.WalkKit
import Derived.Deep.RegionHeld3
import Derived.Test.YtdodamkndigjkaaJB16
import Derived.Test.YtdodamkndigjkaaJB17
import Derived.Test.YtdodamkndigjkaaJB18
/- grouped: records by name and type. -/
set_option maxRecDepth 100000
namespace Go.Proofs.Ytdodamkndigjkaa
open Go.RowKit Go.Shelf Go.Maps
attribute [local go_sem] Oper.semAt_some

theorem infoG : (Try.prog.info? 117).map (fun i => (i.zero, i.size, i.bytes)) = some (some (.agg #[.string ⟨#[]⟩, .int .i64 0, .slice none 0 0]), 3, 48) := by kernel_rfl
theorem zeroUnit (w : World) : (zeroValue 143).run Try.prog w = .ok (.agg #[]) w := by kernel_rfl
theorem zeroInt (w : World) : (zeroValue 3).run Try.prog w = .ok (.int .i64 0) w := by kernel_rfl
def PlOwn (W : World) (b n : Nat) (D : DataW Unit) : Prop := W.ownsMap Try.prog 53 (plainElem (H := Unit) Try.prog 3) b n D
theorem plOwn_grown {W W' : World} {b n : Nat} {D : DataW Unit} (h : PlOwn W b n D) {row : Option Nat} (hg : W.grownBy W' row) (hr : row ≠ some b) : PlOwn W' b n D := World.ownsMap.kept h hg (fun e => hr e.symm)
theorem setOwn_grown {W W' : World} {b n : Nat} {l : List Rd.RR} (h : SetOwn W b n l) {row : Option Nat} (hg : W.grownBy W' row) (hr : row ≠ some b) : SetOwn W' b n l := World.ownsMap.kept h hg (fun e => hr e.symm)

/-- What lies in memory when k records were looked at. -/
structure GrSt (w : World) (l : List Rd.RR) (k : Nat) (v : Value) (W : World) : Prop where
  st : ∃ L ML D, GOwn 117 (w.heap.size + 2) v L W ∧ L.map Ge.gr = Mt.sets (l.take k) ∧ SetOwn W (w.heap.size + 1) k ML ∧ MetOk ML (Mt.sets (l.take k)) ∧ PlOwn W w.heap.size k D ∧ PlOk D (Mt.sets (l.take k))
  bel : Below w.heap.size w W
  size : w.heap.size + 2 ≤ W.heap.size

theorem GrSt.keep {w W W' : World} {l : List Rd.RR} {k : Nat} {v : Value} {L : List Ge} {ML : List Rd.RR} {D : DataW Unit} (hG : GOwn 117 (w.heap.size + 2) v L W) (hL : L.map Ge.gr = Mt.sets (l.take k)) (hS : SetOwn W (w.heap.size + 1) k ML) (hM : MetOk ML (Mt.sets (l.take k)))
    (hP : PlOwn W w.heap.size k D) (hD : PlOk D (Mt.sets (l.take k))) (hb : Below w.heap.size w W) (hs : w.heap.size + 2 ≤ W.heap.size) (hsn : Mt.sets (l.take (k + 1)) = Mt.sets (l.take k)) (hB : Below W.heap.size W W') : GrSt w l (k + 1) v W' := by
  refine ⟨⟨L, ML, D, hG.below hB, by rw [hsn]; exact hL, World.ownsMap.mono (setOwn_below hS hB) (Nat.le_succ _), by rw [hsn]; exact hM, World.ownsMap.mono (plOwn_grown hP (row := none) ⟨hB.os, hB.tape, hB.output, hB.size, fun k hk _ => hB.block k hk⟩ (by simp)) (Nat.le_succ _), by rw [hsn]; exact hD⟩, hb.trans (hB.mono (by omega)), Nat.le_trans hs hB.size⟩

theorem grSt_added {w WT w5 : World} {l : List Rd.RR} {k : Nat} {L : List Ge} {ML : List Rd.RR} {D : DataW Unit} {gs : List Mt.Gr} {G cap ix : Nat} {r : Rd.RR} {v5 : Value} {o : Obj}
    (hG : GOwn 117 (w.heap.size + 2) (.slice (some ⟨G, 0, none⟩) L.length cap) L WT) (hix : ix < L.length) (hS : SetOwn WT (w.heap.size + 1) (k + 1) ML) (hM : MetOk ML (Mt.put gs r)) (hP : PlOwn WT w.heap.size (k + 1) D) (hD : PlOk D (Mt.put gs r))
    (hb : Below w.heap.size w WT) (hs : w.heap.size + 2 ≤ WT.heap.size) (ho : OwnK encRR 5 51 (w.heap.size + 2) v5 (L[ix].rrs ++ [r]) w5) (hg : (WT.drew.alloc o).grownBy w5 L[ix].v.ownBlock) (hv : v5.ownBlock = L[ix].v.ownBlock ∨ v5.ownBlock = some (WT.drew.alloc o).heap.size)
    (hop : Mt.openK gs (Nm.fold r.name) r.typ = L.map Ge.gr) (hat : Mt.atK gs (Nm.fold r.name) r.typ = ix) (hsn : Mt.sets (l.take (k + 1)) = Mt.put gs r) :
    GrSt w l (k + 1) (.slice (some ⟨G, 0, none⟩) L.length cap) (w5.setCell ⟨G, ix * 3 + 2, none⟩ v5) := by
  have bA : Below WT.heap.size WT (WT.drew.alloc o) := (Below.refl _ WT).drew.alloc (Nat.le_refl _) o
  have hGA := hG.below bA
  obtain ⟨ge, hg1, hg2, hG6⟩ := GOwn.added (by decide) hGA hix ho hg hv
  have hne : ∀ g, L[ix].v.ownBlock = some g → w.heap.size + 2 ≤ g := fun g e => (World.ownsRow.lt (hG.each ix hix) g e).1
  have hGb := (World.ownsRow.lt hG.row G rfl)
  have hrow5 : OwnK encG 3 117 (w.heap.size + 2) (.slice (some ⟨G, 0, none⟩) L.length cap) L w5 := ownK_grown hGA.row hg (fun g e1 e2 => own_apart hGA.row (hGA.each ix hix) (by decide) g e1 e2)
  have hst := World.ownsRow.stored hrow5 (ix * 3 + 2) v5
  have hgB : WT.grownBy (WT.drew.alloc o) none := ⟨bA.os, bA.tape, bA.output, bA.size, fun k hk _ => bA.block k hk⟩
  have hs5 := hg.size
  have hsA := bA.size
  refine ⟨⟨L.set ix ge, ML, D, hG6, ?_, ?_, by rw [hsn]; exact hM, ?_, by rw [hsn]; exact hD⟩, ?_, ?_⟩
  · rw [hsn]
    unfold Mt.put
    rw [hop, hat]
    exact map_set_gr hix hg2
  · exact setOwn_grown (setOwn_grown (setOwn_below hS bA) hg (fun e => by have := hne _ e; omega)) hst.2 (by simp; omega)
  · exact plOwn_grown (plOwn_grown (plOwn_grown hP hgB (by simp)) hg (fun e => by have := hne _ e; omega)) hst.2 (by simp; omega)
  · exact ((hb.trans (bA.mono (by omega))).grown hg (by omega) (fun j e => by have := hne j e; omega)).grown hst.2 (by omega) (fun j e => by cases e; omega)
  · have := hst.2.size; omega

def GroupedRet (l : List Rd.RR) (w : World) (e : Ending) (w' : World) : Prop := ∃ v L, e = .returned v ∧ GOwn 117 (w.heap.size + 2) v L w' ∧ L.map Ge.gr = Mt.sets l ∧ Below w.heap.size w w'

set_option maxHeartbeats 4000000 in
theorem grouped_any (l : List Rd.RR) (sv : Value) (w : World) (hr : ReadR sv l w) (hf : ∀ r ∈ l, Fine r) (hl : l.length ≤ 100000) :
    Calls Try.prog 70 #[sv] w (GroupedRet l w) := by
  obtain ⟨ao, cap, rfl, hc⟩ := hr.form
  have HC := Lib.hid hc
  have HF := Lib.hid hf
  clear hc hf hr
  go_enter Try.func70, Try.ntmps70
  have hmm := @run_makeMap Try.prog
  go_wp2
  go_loopw [3, 18] (fun v i wr => ∃ k : Nat, i = .int .i64 (k : Int) ∧ k ≤ l.length ∧ GrSt w l k v wr) (fun _ i _ => l.length + 1 - (intOf i).toNat)
  case atStart =>
    refine ⟨0, rfl, by omega, ⟨⟨[], [], .map [], GOwn.nil _ _ _, rfl, ?_, metOk_nil, ?_, plOk_nil⟩, ?_, by simp⟩⟩
    · have := World.ownsMap_made (w.alloc (.map #[] 0)) Try.prog 51 (unitElem (H := Unit))
      unfold SetOwn
      rw [setD_nil]
      simpa using this
    · exact World.ownsMap.alloc (World.ownsMap_made w Try.prog 53 (plainElem (H := Unit) Try.prog 3)) _
    · exact ((Below.refl _ w).alloc (Nat.le_refl _) _).alloc (by simp) _
  case round =>
    obtain ⟨k, rfl, hk, hst⟩ := hrel
    have hwr := hst.bel.size
    by_cases hlt : k < l.length
    · obtain ⟨g, off, rfl, c0, c1, c2, c3, c4⟩ := HC.out k hlt
      have hgl : g < w.heap.size := cell_lt c0
      replace c0 := (hst.bel.cell (p := ⟨g, off + k * 5, none⟩) hgl).trans c0
      replace c1 := (hst.bel.cell (p := ⟨g, off + k * 5 + 1, none⟩) hgl).trans c1
      replace c2 := (hst.bel.cell (p := ⟨g, off + k * 5 + 2, none⟩) hgl).trans c2
      replace c3 := (hst.bel.cell (p := ⟨g, off + k * 5 + 3, none⟩) hgl).trans c3
      replace c4 := (hst.bel.cell (p := ⟨g, off + k * 5 + 4, none⟩) hgl).trans c4
      have hfin := HF.out l[k] (List.getElem_mem hlt)
      have hfo := fun W => folded_any l[k] W hfin.name hfin.data
      have hkey := key_of (fine_fold hfin)
      have hsn := Mt.sets_take hlt
      obtain ⟨L, ML, D, hG, hL, hS, hM, hP, hD⟩ := hst.st
      obtain ⟨aov, capv, rfl, hao⟩ := ownK_form hG.row
      obtain ⟨r, hrr⟩ : ∃ r, l[k] = r := ⟨_, rfl⟩
      rw [hrr] at c0 c1 c2 c3 c4 hfo hkey hfin hsn
      have hhas := metOk_has hM hfin
      obtain ⟨n, t, c, ttl, d⟩ := r
      have hmp := Mt.met (Mt.sets (l.take k)) ⟨n, t, c, ttl, d⟩
      obtain ⟨⟨A0, A1, A2, A3, A4⟩, hA⟩ : ∃ A, Rd.foldR ⟨n, t, c, ttl, d⟩ = A := ⟨_, rfl⟩
      have HA0 : Hid (A0 = Nm.fold n) := Lib.hid (by unfold Rd.foldR at hA; injection hA with h1; exact h1.symm)
      rw [hA] at hfo hkey hhas
      unfold rrV at hfo hkey
      simp only at hfo hkey c0 c1 c2 c3 c4
      obtain ⟨kl, hkl⟩ : ∃ kl, klOf ⟨A0, A1, A2, A3, A4⟩ = kl := ⟨_, rfl⟩
      rw [hkl] at hkey hhas
      obtain ⟨b, hb⟩ : ∃ b, Mt.met (Mt.sets (l.take k)) ⟨n, t, c, ttl, d⟩ = b := ⟨_, rfl⟩
      rw [hb] at hhas
      have HFO := Lib.hid hfo
      have HK := Lib.hid hkey
      have HH := Lib.hid hhas
      have HB := Lib.hid hb
      have HG := Lib.hid hG
      have HL := Lib.hid hL
      have HS := Lib.hid hS
      have HM := Lib.hid hM
      have HP := Lib.hid hP
      have HD := Lib.hid hD
      have HBW := Lib.hid hst.bel
      have hsz := hst.size
      have HSN := Lib.hid hsn
      have HRR := Lib.hid hrr
      have HKL := Lib.hid hkl
      have HFI := Lib.hid hfin
      have HA := Lib.hid hA
      clear hfo hkey hhas hb hG hL hS hM hP hD hst hsn hrr hfin hA hkl hmp
      go_wp2_with (first
        | (go_at_call 94; refine (HFO.out _).mono ?_; rintro e w1 ⟨rfl, b1⟩; refine Hid.out ?_))
      refine Lib.hid ?_
      have hbw1 : Below wr.heap.size wr w1 := below_trans ((Below.refl _ wr).alloc (Nat.le_refl _) _) b1
      have KR1 := Lib.hid ((Block.new wr #[.string ⟨n.toArray⟩, .int .i64 t, .int .i64 c, .int .i64 ttl, .string ⟨d.toArray⟩] 51).below b1)
      have HS1 := Lib.hid (setOwn_below HS.out hbw1)
      have HP1 := Lib.hid (plOwn_grown HP.out (row := none) ⟨hbw1.os, hbw1.tape, hbw1.output, hbw1.size, fun k hk _ => hbw1.block k hk⟩ (by simp))
      have HG1 := Lib.hid (HG.out.below hbw1)
      have HBW1 := Lib.hid (below_trans HBW.out hbw1)
      have HLR := Lib.hid (fun (i g : Nat) (h : (L[i]?).bind Ge.ao = some g) => (HG.out.lt h).2)
      have hw1 := hbw1.size
      have hRl := KR1.out.lt
      obtain ⟨R, hR⟩ : ∃ R, wr.heap.size = R := ⟨_, rfl⟩
      rw [hR] at KR1 hRl HLR ⊢
      clear b1 hbw1 HS HP HG HBW
      have r0 := KR1.out.cell (i := 0) rfl
      have r1 := KR1.out.cell (i := 1) rfl
      have r2 := KR1.out.cell (i := 2) rfl
      have r3 := KR1.out.cell (i := 3) rfl
      have r4 := KR1.out.cell (i := 4) rfl
      cases b with
      | true =>
        have hskip : Mt.step (Mt.sets (l.take k)) ⟨n, t, c, ttl, d⟩ = Mt.sets (l.take k) := by unfold Mt.step; rw [if_neg (by rw [HB.out]; simp)]
        have HSK := Lib.hid hskip
        clear hskip
        go_wp2_with (first
          | (at_lookup; refine wpList_look_unit _ rfl _ _ 141 rfl 51 143 keyedRR Try.underlying141 (zeroUnit _) (w.heap.size + 1) k _ rfl (World.ownsMap.alloc HS1.out _) _ _ rfl HK.out true HH.out ?_))
        go_roundw
        case rel => exact ⟨k + 1, by go_num, by omega, GrSt.keep HG1.out HL.out HS1.out HM.out HP1.out HD.out HBW1.out (by omega) (HSN.out.trans HSK.out) (((Below.refl _ w1).alloc (Nat.le_refl _) _).alloc (by simp) _)⟩
        case measure => simp [intOf]; omega
      | false =>
        by_cases hcl : c = 1
        · subst hcl
          have hstep : Mt.step (Mt.sets (l.take k)) ⟨n, t, 1, ttl, d⟩ = Mt.put (Mt.sets (l.take k)) ⟨n, t, 1, ttl, d⟩ := by unfold Mt.step; rw [if_pos ⟨rfl, HB.out⟩]
          have HSK := Lib.hid (HSN.out.trans hstep)
          clear hstep
          go_wp2_with (first
            | (at_lookup; refine wpList_look_unit _ rfl _ _ 141 rfl 51 143 keyedRR Try.underlying141 (zeroUnit _) (w.heap.size + 1) k _ rfl (World.ownsMap.alloc HS1.out _) _ _ rfl HK.out false HH.out ?_)
            | (at_mapUpdate; refine wpList_mapUpdate_own _ rfl _ _ _ 141 rfl 51 143 keyedRR Try.underlying141 (unitElem (H := Unit)) (w.heap.size + 1) k _ rfl (World.ownsMap.alloc (World.ownsMap.alloc HS1.out _) _) (by unfold maxLen; omega) _ _ kl rfl rfl HK.out unitD [] unitElem_mk ?_; intro w2 hm2 hg2; refine Hid.out ?_))
          refine Lib.hid ?_
          obtain ⟨F, hFe⟩ : ∃ F, w1.heap.size = F := ⟨_, rfl⟩
          have bAl : Below w1.heap.size w1 ((w1.alloc (.cells #[.string ⟨A0.toArray⟩, .int .i64 A1, .int .i64 A2, .int .i64 A3, .string ⟨A4.toArray⟩] 51)).alloc (.cells #[] 143)) := ((Below.refl _ w1).alloc (Nat.le_refl _) _).alloc (by simp) _
          have s2 := hg2.size
          simp at s2
          have HG2 := Lib.hid ((HG1.out.below bAl).mapped hg2 (by omega))
          have HS2 : Hid (SetOwn w2 (w.heap.size + 1) (k + 1) (ML ++ [Rd.foldR ⟨n, t, 1, ttl, d⟩])) := Lib.hid (by unfold SetOwn; rw [setD_snoc, HA.out, HKL.out]; exact hm2)
          have HP2 := Lib.hid (plOwn_grown (plOwn_grown HP1.out (row := none) ⟨bAl.os, bAl.tape, bAl.output, bAl.size, fun k hk _ => bAl.block k hk⟩ (by simp)) hg2 (by simp))
          have HBW2 : Hid (Below w.heap.size w w2) := Lib.hid ((HBW1.out.trans (bAl.mono (by omega))).grown hg2 (by simp; omega) (fun j e => by cases e; omega))
          have KR2 := Lib.hid (block_grown (KR1.out.below bAl) hg2 (by simp; omega))
          have KF2 := Lib.hid (block_grown ((Block.new w1 #[.string ⟨A0.toArray⟩, .int .i64 A1, .int .i64 A2, .int .i64 A3, .string ⟨A4.toArray⟩] 51).alloc (.cells #[] 143)) hg2 (by simp; omega))
          clear hm2 hg2 bAl KR1 HG1 HS1 HP1 HBW1
          clear r0 r1 r2 r3 r4
          rw [hFe] at KF2 s2 hw1 hRl ⊢
          clear hFe
          have r0 := KR2.out.cell (i := 0) rfl
          have r1 := KR2.out.cell (i := 1) rfl
          have r2 := KR2.out.cell (i := 2) rfl
          have r3 := KR2.out.cell (i := 3) rfl
          have r4 := KR2.out.cell (i := 4) rfl
          have f0 := KF2.out.cell (i := 0) rfl
          have f1 := KF2.out.cell (i := 1) rfl
          have hfk : FineK A0 t := ⟨by rw [HA0.out, Rd.fold_len]; exact HFI.out.name, HFI.out.typ⟩
          have HK2 := Lib.hid (kk_of hfk)
          have hpl := HD.out A0 t hfk
          obtain ⟨q, hq⟩ : ∃ q, Mt.hasK (Mt.sets (l.take k)) A0 t = q := ⟨_, rfl⟩
          rw [hq] at hpl
          have HPL := Lib.hid hpl
          have HQ := Lib.hid hq
          have HFK := Lib.hid hfk
          clear hpl hq hfk
          unfold keyV at HK2
          cases q with
          | true =>
            have hat := Mt.atK_has HQ.out
            have hLl : L.length = (Mt.sets (l.take k)).length := by rw [← HL.out, List.length_map]
            obtain ⟨G, rfl⟩ := hao (fun e => by rw [e] at hLl; simp at hLl; omega)
            obtain ⟨ix, hix⟩ : ∃ ix, Mt.atK (Mt.sets (l.take k)) A0 t = ix := ⟨_, rfl⟩
            rw [hix] at hat HPL
            have hop : Mt.openK (Mt.sets (l.take k)) A0 t = L.map Ge.gr := by unfold Mt.openK; rw [if_pos HQ.out, HL.out]
            have HOP := Lib.hid hop
            have hixL : ix < L.length := by omega
            have HIX := Lib.hid hix
            clear hop hix hat hLl
            go_wp2_with (first
              | (at_lookup; refine wpList_look_int _ rfl _ _ 140 rfl 53 3 keyedKey Try.underlying140 Try.underlying3 (zeroInt _) w.heap.size k _ rfl (World.ownsMap.alloc HP2.out _) _ _ rfl HK2.out true HPL.out.1 (ix : Int) (HPL.out.2 rfl _) ?_))
            have bA := (Below.refl w2.heap.size w2).alloc (Nat.le_refl _) (.cells #[.string ⟨A0.toArray⟩, .int .i64 t] 53)
            have HGT := Lib.hid (HG2.out.below bA)
            have HST := Lib.hid (setOwn_below HS2.out bA)
            have HPT := Lib.hid (World.ownsMap.alloc HP2.out (.cells #[.string ⟨A0.toArray⟩, .int .i64 t] 53))
            have HBT := Lib.hid (HBW2.out.trans (bA.mono (by omega)))
            have KRT := Lib.hid (KR2.out.below bA)
            have hWs : w2.heap.size + 1 ≤ (w2.alloc (.cells #[.string ⟨A0.toArray⟩, .int .i64 t] 53)).heap.size := by simp
            obtain ⟨KB, hKB⟩ : ∃ B, w2.heap.size = B := ⟨_, rfl⟩
            obtain ⟨WT, hWT⟩ : ∃ W, w2.alloc (.cells #[.string ⟨A0.toArray⟩, .int .i64 t] 53) = W := ⟨_, rfl⟩
            rw [hWT] at HGT HST HPT HBT KRT hWs ⊢
            rw [hKB] at hWs s2 ⊢
            clear hWT hKB bA HG2 HS2 HP2 HBW2 KR2 KF2 r0 r1 r2 r3 r4 f0 f1
            have t0 := KRT.out.cell (i := 0) rfl
            have t1 := KRT.out.cell (i := 1) rfl
            have t2 := KRT.out.cell (i := 2) rfl
            have t3 := KRT.out.cell (i := 3) rfl
            have t4 := KRT.out.cell (i := 4) rfl
            have g2 := ownK_cell encG_len HGT.out.row hixL (i := 2) (by omega)
            rw [show (encG L[ix])[2]? = some L[ix].v from rfl, Nat.zero_add] at g2
            have hGl : G < WT.heap.size := (World.ownsRow.lt HGT.out.row G rfl).2
            have hcapv : L.length ≤ capv := (ownK_cap HGT.out.row).2.1
            have own0 : OwnK encRR 5 51 (w.heap.size + 2) L[ix].v L[ix].rrs (WT.drew.alloc (.cells #[.string ⟨n.toArray⟩, .int .i64 t, .int .i64 1, .int .i64 ttl, .string ⟨d.toArray⟩] 51)) := ownK_alloc (HGT.out.each ix hixL) _
            have row0 : OwnK encG 3 117 (w.heap.size + 2) (.slice (some ⟨G, 0, none⟩) L.length capv) L (WT.drew.alloc (.cells #[.string ⟨n.toArray⟩, .int .i64 t, .int .i64 1, .int .i64 ttl, .string ⟨d.toArray⟩] 51)) := ownK_alloc HGT.out.row _
            obtain ⟨aoi, capi, hvi, hvo⟩ := ownK_form (HGT.out.each ix hixL)
            have hown0 : (Value.slice aoi L[ix].rrs.length capi).ownBlock = L[ix].v.ownBlock := by rw [hvi]
            obtain ⟨VI, hVI⟩ : ∃ VI, L[ix].v = VI := ⟨_, rfl⟩
            obtain ⟨LI, hLI⟩ : ∃ LI, L[ix].rrs = LI := ⟨_, rfl⟩
            rw [hVI] at g2 own0
            rw [hLI] at own0
            have HO0 := Lib.hid own0
            have HR0 := Lib.hid row0
            have HVI := Lib.hid hVI
            have HLI := Lib.hid hLI
            have hll : LI.length ≤ 100000 := by
              rw [← HLI.out]
              have hmem : L[ix].gr ∈ Mt.sets (l.take k) := by rw [← HL.out]; exact List.mem_map.2 ⟨_, List.getElem_mem _, rfl⟩
              have := Mt.rrs_len _ _ hmem
              rw [List.length_take] at this
              exact Nat.le_trans this (by omega)
            have hneG : VI.ownBlock ≠ some G := by rw [← HVI.out]; exact own_apart HGT.out.row (HGT.out.each ix hixL) (by decide) G rfl
            have hneR : VI.ownBlock ≠ some R := fun e => by
              rw [← HVI.out, Ge.v_own] at e
              exact absurd (HLR.out ix R (by rw [List.getElem?_eq_getElem hixL]; exact e)) (Nat.lt_irrefl _)
            have KR5 := Lib.hid (KRT.out.below ((Below.refl _ WT).drew.alloc (Nat.le_refl _) (.cells #[.string ⟨n.toArray⟩, .int .i64 t, .int .i64 1, .int .i64 ttl, .string ⟨d.toArray⟩] 51)))
            clear own0 row0 hvi hvo hown0 hVI hLI
            have g2A := keep_cell ((Below.refl _ WT).drew.alloc (Nat.le_refl _) (.cells #[.string ⟨n.toArray⟩, .int .i64 t, .int .i64 1, .int .i64 ttl, .string ⟨d.toArray⟩] 51)) g2
            go_region_law (refine step_apG encRR 5 encRR_len (by omega) encRR_one 25 51 _ 56 Try.underlying25 infoRR rfl (by omega) (by rfl) (.tmp 68) (.tmp 70) (by rfl) (w.heap.size + 2) VI LI (by rfl) (by exact HO0.out) WT.heap.size ⟨n, t, 1, ttl, d⟩ (by rfl) (by exact Block.new _ _ _) (by omega) (by simp; omega) ?_; intro v5 w5 ho5 hg5 hv5; have row5 := Lib.hid (ownK_grown HR0.out hg5 (fun g e => by cases e; exact hneG)); have y2 := ownK_cell encG_len row5.out hixL (i := 2) (by omega); rw [show (encG L[ix])[2]? = some L[ix].v from rfl, Nat.zero_add, HVI.out] at y2; have yf := World.ownsRow.frozenAt row5.out (ix * 3 + 2); obtain ⟨ao5, cap5, rfl, _⟩ := ownK_form ho5)
            all_goals
              have hlen5 : (LI ++ [(⟨n, t, 1, ttl, d⟩ : Rd.RR)]).length = LI.length + 1 := by rw [List.length_append]; rfl
              rw [hlen5] at ho5 hv5
              clear hlen5
              go_wp2_with fail
              go_roundw
              case rel =>
                exact ⟨k + 1, by go_num, by omega, grSt_added HGT.out hixL HST.out (metOk_put HM.out HFI.out) (World.ownsMap.mono HPT.out (Nat.le_succ _)) (plOk_old HD.out (by rw [← HA0.out]; exact HQ.out)) HBT.out (by omega) (by rw [HLI.out]; exact ho5) (by rw [HVI.out]; exact hg5) (by rw [HVI.out]; exact hv5) (by rw [← HA0.out]; exact HOP.out) (by rw [← HA0.out]; exact HIX.out) HSK.out⟩
              case measure => simp [intOf]; omega
          | false =>
            have hLl : L.length = (Mt.sets (l.take k)).length := by rw [← HL.out, List.length_map]
            have hLk : L.length ≤ 100000 := by have := Mt.sets_len (l.take k); rw [List.length_take] at this; omega
            have hat := Mt.atK_not HQ.out
            rw [← hLl] at hat
            have hop : Mt.openK (Mt.sets (l.take k)) A0 t = (L ++ [(⟨A0, t, [], none, 0⟩ : Ge)]).map Ge.gr := by unfold Mt.openK; rw [if_neg (by rw [HQ.out]; simp), List.map_append, HL.out]; rfl
            have HOP := Lib.hid hop
            have HIX := Lib.hid hat
            have HLL := Lib.hid hLl
            have hval : plainElem (H := Unit) Try.prog 3 (.int .i64 (L.length : Int)) = some (.lit (.int .i64 (L.length : Int)), []) := plainElem_int Try.underlying3 (lit_wf ⟨by omega, by omega⟩)
            have HVAL := Lib.hid hval
            clear hop hat hLl hval
            go_wp2_with (first
              | (at_lookup; refine wpList_look_int _ rfl _ _ 140 rfl 53 3 keyedKey Try.underlying140 Try.underlying3 (zeroInt _) w.heap.size k _ rfl (World.ownsMap.alloc HP2.out _) _ _ rfl HK2.out false HPL.out.1 0 (atKey_of_not_has HPL.out.1 _) ?_)
              | (at_mapUpdate; refine wpList_mapUpdate_own _ rfl _ _ _ 140 rfl 53 3 keyedKey Try.underlying140 (plainElem (H := Unit) Try.prog 3) w.heap.size k _ rfl (World.ownsMap.alloc HP2.out _) (by unfold maxLen; omega) _ _ (kk A0 t) rfl rfl HK2.out _ [] HVAL.out ?_; intro w3 hm3 hg3; refine Hid.out ?_))
            refine Lib.hid ?_
            have bA := (Below.refl w2.heap.size w2).alloc (Nat.le_refl _) (.cells #[.string ⟨A0.toArray⟩, .int .i64 t] 53)
            have s3 := hg3.size
            simp at s3
            have HG3 := Lib.hid ((HG2.out.below bA).mapped hg3 (by omega))
            have HS3 := Lib.hid (setOwn_grown (setOwn_below HS2.out bA) hg3 (by simp))
            have HP3 : Hid (PlOwn w3 w.heap.size (k + 1) (D.put (kk A0 t) (.lit (.int .i64 (L.length : Int))))) := Lib.hid hm3
            have HB3 : Hid (Below w.heap.size w w3) := Lib.hid ((HBW2.out.trans (bA.mono (by omega))).grown hg3 (by simp; omega) (fun j e => by cases e; omega))
            have KR3 := Lib.hid (block_grown (KR2.out.below bA) hg3 (by simp; omega))
            have KK3 := Lib.hid (block_grown (Block.new w2 #[.string ⟨A0.toArray⟩, .int .i64 t] 53) hg3 (by simp; omega))
            have hisMap : Maps.IsMap D := World.ownsMap.isMap HP2.out
            have HIM := Lib.hid hisMap
            obtain ⟨KB, hKB⟩ : ∃ B, w2.heap.size = B := ⟨_, rfl⟩
            rw [hKB] at KK3 s3 s2 ⊢
            clear hKB bA hm3 hg3 HG2 HS2 HP2 HBW2 KR2 KF2 r0 r1 r2 r3 r4 f0 f1 hisMap
            have k0 := KK3.out.cell (i := 0) rfl
            have k1 := KK3.out.cell (i := 1) rfl
            go_wp2_with (first
              | go_loud (at_builtin; refine wpList_apk _ rfl _ _ 113 rfl encG 3 encG_len (by omega) encG_one (w.heap.size + 2) 117 _ 48 Try.underlying113 infoG rfl _ L rfl (ownK_alloc HG3.out.row _) ⟨_, 0, none⟩ 1 1 [⟨A0, t, [], none, 0⟩] rfl rfl (infoOne (enc := encG) ⟨A0, t, [], none, 0⟩ _ _ _ (Block.new _ _ _)) (by omega) (by omega) (by simp; omega) ?_; intro v4 w4 ho4 hg4 _; refine Hid.out ?_))
            refine Lib.hid ?_
            have s4 := hg4.size
            simp at s4
            have bC := (Below.refl w3.heap.size w3).alloc (Nat.le_refl _) (.cells #[.string ⟨A0.toArray⟩, .int .i64 t, .slice none 0 0] 117)
            have hrow3 := HG3.out.below bC
            have hnb : ∀ g, (Value.slice aov L.length capv).ownBlock = some g → w.heap.size + 2 ≤ g := fun g e => (World.ownsRow.lt hrow3.row g e).1
            have HGT0 := hrow3.opened (by decide) ho4 hg4
            have HST : Hid (SetOwn w4 (w.heap.size + 1) (k + 1) (ML ++ [Rd.foldR ⟨n, t, 1, ttl, d⟩])) := Lib.hid (setOwn_grown (setOwn_below HS3.out bC) hg4 (fun e => by have := hnb _ e; omega))
            have HPT : Hid (PlOwn w4 w.heap.size (k + 1) (D.put (kk A0 t) (.lit (.int .i64 (L.length : Int))))) := Lib.hid (plOwn_grown (World.ownsMap.alloc HP3.out _) hg4 (fun e => by have := hnb _ e; omega))
            have HBT : Hid (Below w.heap.size w w4) := Lib.hid ((HB3.out.trans (bC.mono (by omega))).grown hg4 (by simp; omega) (fun j e => by have := hnb _ e; omega))
            have KRT := Lib.hid (block_grown (KR3.out.below bC) hg4 (own_blk hrow3.row (KR3.out.below bC) (by decide)))
            obtain ⟨ao4, cap4, rfl, hao4⟩ := ownK_form ho4
            obtain ⟨G, rfl⟩ := hao4 (by simp)
            obtain ⟨LT, ix, hLT, hix, hixL, hnew, hnev⟩ : ∃ (LT : List Ge) (ix : Nat), LT = L ++ [(⟨A0, t, [], none, 0⟩ : Ge)] ∧ ix = L.length ∧ ∃ h : ix < LT.length, LT[ix].rrs = [] ∧ LT[ix].v.ownBlock = none := ⟨_, _, rfl, rfl, by simp, by simp, by simp [Ge.v, Value.ownBlock]⟩
            have hlt4 : LT.length = ix + 1 := by rw [hLT, hix]; simp
            have hlx : LT.length ≤ 100001 := by omega
            clear hlt4
            simp only [← hix] at HIX HLL HPT ⊢
            simp only [← hLT] at HGT0 HOP ⊢
            have HGT := Lib.hid HGT0
            have HNEW := Lib.hid hnew
            have HNEV := Lib.hid hnev
            clear HGT0 ho4 hg4 hrow3 hnb hnew hnev hLT hix HG3 HS3 HP3 HB3 KR3 KK3 k0 k1 bC hao4
            obtain ⟨WT, hWT⟩ : ∃ W, w4 = W := ⟨_, rfl⟩
            rw [hWT] at HGT HST HPT HBT KRT s4 ⊢
            clear hWT
            go_wp2_with fail
            have t0 := KRT.out.cell (i := 0) rfl
            have t1 := KRT.out.cell (i := 1) rfl
            have t2 := KRT.out.cell (i := 2) rfl
            have t3 := KRT.out.cell (i := 3) rfl
            have t4 := KRT.out.cell (i := 4) rfl
            have g2 := ownK_cell encG_len HGT.out.row hixL (i := 2) (by omega)
            rw [show (encG LT[ix])[2]? = some LT[ix].v from rfl, Nat.zero_add] at g2
            have hGl : G < WT.heap.size := (World.ownsRow.lt HGT.out.row G rfl).2
            have hcap4 : LT.length ≤ cap4 := (ownK_cap HGT.out.row).2.1
            have own0 : OwnK encRR 5 51 (w.heap.size + 2) LT[ix].v LT[ix].rrs (WT.drew.alloc (.cells #[.string ⟨n.toArray⟩, .int .i64 t, .int .i64 1, .int .i64 ttl, .string ⟨d.toArray⟩] 51)) := ownK_alloc (HGT.out.each ix hixL) _
            have row0 : OwnK encG 3 117 (w.heap.size + 2) (.slice (some ⟨G, 0, none⟩) LT.length cap4) LT (WT.drew.alloc (.cells #[.string ⟨n.toArray⟩, .int .i64 t, .int .i64 1, .int .i64 ttl, .string ⟨d.toArray⟩] 51)) := ownK_alloc HGT.out.row _
            obtain ⟨aoi, capi, hvi, hvo⟩ := ownK_form (HGT.out.each ix hixL)
            have hown0 : (Value.slice aoi LT[ix].rrs.length capi).ownBlock = LT[ix].v.ownBlock := by rw [hvi]
            obtain ⟨VI, hVI⟩ : ∃ VI, LT[ix].v = VI := ⟨_, rfl⟩
            obtain ⟨LI, hLI⟩ : ∃ LI, LT[ix].rrs = LI := ⟨_, rfl⟩
            rw [hVI] at g2 own0
            rw [hLI] at own0
            have HO0 := Lib.hid own0
            have HR0 := Lib.hid row0
            have HVI := Lib.hid hVI
            have HLI := Lib.hid hLI
            have hll : LI.length ≤ 100000 := by rw [← HLI.out, HNEW.out]; exact Nat.zero_le _
            have hneG : VI.ownBlock ≠ some G := by rw [← HVI.out]; exact own_apart HGT.out.row (HGT.out.each ix hixL) (by decide) G rfl
            have hneR : VI.ownBlock ≠ some R := fun e => by
              rw [← HVI.out, HNEV.out] at e
              cases e
            have KR5 := Lib.hid (KRT.out.below ((Below.refl _ WT).drew.alloc (Nat.le_refl _) (.cells #[.string ⟨n.toArray⟩, .int .i64 t, .int .i64 1, .int .i64 ttl, .string ⟨d.toArray⟩] 51)))
            clear own0 row0 hvi hvo hown0 hVI hLI
            have g2A := keep_cell ((Below.refl _ WT).drew.alloc (Nat.le_refl _) (.cells #[.string ⟨n.toArray⟩, .int .i64 t, .int .i64 1, .int .i64 ttl, .string ⟨d.toArray⟩] 51)) g2
            go_region_law (refine step_apG encRR 5 encRR_len (by omega) encRR_one 25 51 _ 56 Try.underlying25 infoRR rfl (by omega) (by rfl) (.tmp 68) (.tmp 70) (by rfl) (w.heap.size + 2) VI LI (by rfl) (by exact HO0.out) WT.heap.size ⟨n, t, 1, ttl, d⟩ (by rfl) (by exact Block.new _ _ _) (by omega) (by simp; omega) ?_; intro v5 w5 ho5 hg5 hv5; have row5 := Lib.hid (ownK_grown HR0.out hg5 (fun g e => by cases e; exact hneG)); have y2 := ownK_cell encG_len row5.out hixL (i := 2) (by omega); rw [show (encG LT[ix])[2]? = some LT[ix].v from rfl, Nat.zero_add, HVI.out] at y2; have yf := World.ownsRow.frozenAt row5.out (ix * 3 + 2); obtain ⟨ao5, cap5, rfl, _⟩ := ownK_form ho5)
            all_goals
              have hlen5 : (LI ++ [(⟨n, t, 1, ttl, d⟩ : Rd.RR)]).length = LI.length + 1 := by rw [List.length_append]; rfl
              rw [hlen5] at ho5 hv5
              clear hlen5
              go_wp2_with fail
              go_roundw
              case rel =>
                exact ⟨k + 1, by go_num, by omega, grSt_added HGT.out hixL HST.out (metOk_put HM.out HFI.out) HPT.out (by have := plOk_put HIM.out HD.out (r := ⟨n, t, 1, ttl, d⟩) (by rw [← HA0.out]; exact HFK.out) (by rw [← HA0.out]; exact HQ.out); rw [← HA0.out, ← HLL.out] at this; exact this) HBT.out (by omega) (by rw [HLI.out]; exact ho5) (by rw [HVI.out]; exact hg5) (by rw [HVI.out]; exact hv5) (by rw [← HA0.out]; exact HOP.out) (by rw [← HA0.out, HIX.out]) HSK.out⟩
              case measure => simp [intOf]; omega
        · have hskip : Mt.step (Mt.sets (l.take k)) ⟨n, t, c, ttl, d⟩ = Mt.sets (l.take k) := by unfold Mt.step; rw [if_neg (fun h => hcl h.1)]
          have HSK := Lib.hid hskip
          clear hskip
          go_wp2_with (first
            | (at_lookup; refine wpList_look_unit _ rfl _ _ 141 rfl 51 143 keyedRR Try.underlying141 (zeroUnit _) (w.heap.size + 1) k _ rfl (World.ownsMap.alloc HS1.out _) _ _ rfl HK.out false HH.out ?_))
          go_roundw
          case rel => exact ⟨k + 1, by go_num, by omega, GrSt.keep HG1.out HL.out HS1.out HM.out HP1.out HD.out HBW1.out (by omega) (HSN.out.trans HSK.out) (((Below.refl _ w1).alloc (Nat.le_refl _) _).alloc (by simp) _)⟩
          case measure => simp [intOf]; omega
    · obtain rfl : k = l.length := by omega
      have hst' := Lib.hid hst
      clear hst
      go_wp2
      go_ret
      obtain ⟨L, ML, D, hG, hL, _⟩ := hst'.out.st
      exact ⟨_, L, rfl, hG, by rw [hL, List.take_length], hst'.out.bel⟩
end Go.Proofs.Ytdodamkndigjkaa

/- Sets: what it makes of records. -/
set_option maxRecDepth 100000
namespace Go.Proofs.Ytdodamkndigjkaa
open Go.RowKit Go.Shelf Go.Maps
attribute [local go_sem] Oper.semAt_some

set_option maxHeartbeats 4000000 in
theorem sets_any (l : List Rd.RR) (sv : Value) (w : World) (hr : ReadR sv l w) (hf : ∀ r ∈ l, Fine r) (hl : l.length ≤ 100000) :
    Calls Try.prog 42 #[sv] w (SetsRet l w) := by
  have HC := Lib.hid (copied_any l sv w hr hl (fun r h => ⟨(hf r h).name, (hf r h).data⟩))
  have HGR := Lib.hid (fun v W (h : ReadR v l W) => grouped_any l v W h hf hl)
  obtain ⟨ao, cap, rfl, _⟩ := hr.form
  clear hr hf hl
  go_enter Try.func42, Try.ntmps42
  go_wp2_with fail
  refine HC.out.mono ?_
  rintro e w1 ⟨v1, rfl, ho1, b1⟩
  obtain ⟨ao1, cap1, rfl, _⟩ := ownK_form ho1
  go_wp2_with fail
  refine (HGR.out _ _ (readR_own ho1)).mono ?_
  rintro e w2 ⟨v2, L, rfl, hG, hL, b2⟩
  obtain ⟨ao2, cap2, rfl, _⟩ := ownK_form hG.row
  have hs1 := b1.size
  have hs2 := b2.size
  have b12 := below_trans b1 b2
  have HB := Lib.hid (b12.alloc b12.size (.cells #[.slice ao2 L.length cap2] 113))
  have HG := Lib.hid ((hG.has.mono (base' := w.heap.size) (by omega)).below ((Below.refl _ w2).alloc (Nat.le_refl _) (.cells #[.slice ao2 L.length cap2] 113)))
  have HK := Lib.hid (Block.new w2 #[.slice ao2 L.length cap2] 113)
  clear hG b1 b2 b12 ho1
  go_wp2_with fail
  go_ret
  exact ⟨_, _, L, rfl, by omega, HK.out, HG.out, hL, HB.out⟩
end Go.Proofs.Ytdodamkndigjkaa
