/- 3 texts put together: Wcw, Wpt, Wds. -/
import Derived.Deep.LoopGhost
import Derived.Test.YtchlemajppnehaaJW14
import Derived.Test.YtchlemajppnehaaJW21
/- A walk is parted: what is left is gathered, walked. -/
set_option maxRecDepth 100000
namespace Go.Proofs.Ytchlemajppnehaa
open Go Go.RowKit Go.Shelf Go.Maps
attribute [local go_sem] Oper.semAt_some
theorem infoLs : (Try.prog.info? tLs).map (fun i => (i.zero, i.size, i.bytes)) = some (some (.slice none 0 0), 1, 24) := by kernel_rfl
section
variable {S : Du.St} {L : TL} {dv : Value} {o : List Nat}
variable {X : Nat} {E R : List (Int × Int)} {most : Int} {N xb : Nat} {f : Nat → Prop} {w : World} {nf : Value}
theorem udp_any (h : UDp X S L dv o E most N xb R f w) (hN : N < 80000) (hnf : Blk w xb [nf] tWb) : ∃ B fb db, nf = nfD B fb db ∧
    Calls Try.prog 75 #[.pointer (some ⟨B, 0, none⟩), .pointer (some ⟨fb, 0, none⟩), .pointer (some ⟨db, 0, none⟩)] w fun e w' => ∃ x ok R', e = .returned (.tuple #[.agg #[.int .i64 x.1, .int .i64 x.2], .bool ok]) ∧ Trn f w w' ∧ UDp X S L dv o E most N xb R' (grow f w w') w' ∧
      (∀ (b : Nat) (cs : List Value) (t : TypeId), t ≠ tHp → t ≠ 3 → Blk w b cs t → w'.heap[b]? = w.heap[b]?) ∧ ((ok = true ∧ R = x :: R') ∨ (ok = false ∧ R = [] ∧ R' = [])) := by
  have c0 := hnf.cell (i := 0) rfl
  cases R with
  | nil =>
    obtain ⟨B, fb, db, h1, h2⟩ := udp_nil h
    refine ⟨B, fb, db, by rw [c0] at h1; exact Option.some.inj h1, h2.mono ?_⟩
    rintro e w' ⟨rfl, t, h3, h4⟩
    exact ⟨(0, 0), false, [], rfl, t, h3, h4, .inr ⟨rfl, rfl, rfl⟩⟩
  | cons x R =>
    obtain ⟨B, fb, db, h1, h2⟩ := udp_cons h hN
    refine ⟨B, fb, db, by rw [c0] at h1; exact Option.some.inj h1, h2.mono ?_⟩
    rintro e w' ⟨rfl, t, h3, h4⟩
    exact ⟨x, true, R, rfl, t, h3, h4, .inl ⟨rfl, rfl⟩⟩
def HeadC (X : Nat) (S : Du.St) (L : TL) (dv : Value) (o : List Nat) (E R : List (Int × Int)) (most : Int) (N xb : Nat) (f : Nat → Prop) (w : World) (nf : Value) (lb n : Nat) (v ok : Value) (wr : World) : Prop :=
  ∃ vb x okb pre R' f1, v = .pointer (some ⟨vb, 0, none⟩) ∧ ok = .bool okb ∧ CopI X S L dv o E most N xb f w nf lb vb pre R' f1 x wr ∧ ((okb = true ∧ pre ++ x :: R' = R ∧ n = R'.length + 1) ∨ (okb = false ∧ pre = R ∧ R' = [] ∧ n = 0))
set_option maxHeartbeats 8000000 in
theorem dcopied_any (h : UDp X S L dv o E most N xb R f w) (hN : N < 80000) (hR : R.length < 90000) (hnf : Blk w xb [nf] tWb) :
    Calls Try.prog 68 #[nf] w fun e w' => ∃ lb v f', e = .returned (nfC lb) ∧ MvL f w f' w' ∧ UDp X S L dv o E most N xb [] f' w' ∧ w.heap.size ≤ lb ∧ Blk w' lb [v] tLs ∧ OwnK encQ 2 tTm w.heap.size v R w' ∧ Blk w' xb [nf] tWb ∧ (∀ (b : Nat) (cs : List Value) (t : TypeId), t ≠ tHp → t ≠ 3 → Blk w b cs t → w'.heap[b]? = w.heap[b]?) := by
  have hba : Below w.heap.size w (w.alloc (.cells #[.slice none 0 0] tLs)) := (Below.refl _ _).alloc (Nat.le_refl _) _
  have L0 := Blk.new w [.slice none 0 0] tLs
  have hU := h.below hba
  have hM := (MvL.refl (f := f) w).next (Trn.of_below hba)
  have nf1 := hnf.alloc (.cells #[.slice none 0 0] tLs)
  obtain ⟨B, fb, db, hnfe, c1⟩ := udp_any hU hN nf1
  obtain ⟨nB, hnB⟩ : ∃ q, q = nf := ⟨_, rfl⟩
  rw [hnfe]
  go_enter Try.func68, Try.ntmps68
  unfold nfD
  go_wp2_with fail
  refine c1.mono ?_
  rintro e w2 ⟨x0, ok0, R0, rfl, t2, hU2, hk2, hor⟩
  have L2 := L0.kept (hk2 _ _ _ (by decide) (by decide) L0)
  have nf2 := nf1.kept (hk2 _ _ _ (by decide) (by decide) nf1)
  have hz := t2.size
  rw [World.size_alloc] at hz
  have I0 : CopI X S L dv o E most N xb f w nf w.heap.size w2.heap.size [] R0 _ x0 (w2.alloc (.cells #[.int .i64 x0.1, .int .i64 x0.2] tTm)) :=
    ⟨(hM.next t2).next (Trn.of_below ((Below.refl _ _).alloc (Nat.le_refl _) _)), hU2.below ((Below.refl _ _).alloc (Nat.le_refl _) _), nf2.alloc _, ⟨_, L2.alloc _, ownK_nil _ _ _ _ _, fun e => by cases e⟩, Blk.new w2 _ _, ⟨Nat.le_refl _, by omega⟩, fun b cs t n1 n2 hB => (Below.heap_alloc w2 _ b (by have := hB.lt; omega)).trans ((hk2 b cs t n1 n2 (hB.kept (hba.block b hB.lt))).trans (hba.block b hB.lt))⟩
  have H0 : ∃ n, HeadC X S L dv o E R most N xb f w nf w.heap.size n (.pointer (some ⟨w2.heap.size, 0, none⟩)) (.bool ok0) (w2.alloc (.cells #[.int .i64 x0.1, .int .i64 x0.2] tTm)) := by
    rcases hor with ⟨rfl, rfl⟩ | ⟨rfl, rfl, rfl⟩
    · exact ⟨_, _, x0, true, [], R0, _, rfl, rfl, I0, .inl ⟨rfl, rfl, rfl⟩⟩
    · exact ⟨_, _, x0, false, [], [], _, rfl, rfl, I0, .inr ⟨rfl, rfl, rfl, rfl⟩⟩
  have V0 := (Blk.new w2 [.int .i64 x0.1, .int .i64 x0.2] tTm).frozen
  have H1 := Lib.hid H0
  have HNF := Lib.hid hnfe
  clear I0 H0 hor L2 nf2 hU2 hk2 t2 hM hU L0 nf1 hba c1 hnf h hnB hnfe
  go_wp2_with fail
  go_loopw [4, 5] (fun v ok wr => ∃ n, HeadC X S L dv o E R most N xb f w nf w.heap.size n v ok wr) (fun v ok wr => leastOf (fun n => HeadC X S L dv o E R most N xb f w nf w.heap.size n v ok wr))
  case atStart => exact H1.out
  case round =>
    clear H1 V0
    obtain ⟨hR1, hmin⟩ := leastOf_spec hrel
    obtain ⟨vb, x, okb, pre, R', f1, rfl, rfl, hI, hor⟩ := hR1
    have HI := Lib.hid hI
    have d0 := hI.vbx.cell (i := 0) rfl
    have d1 := hI.vbx.cell (i := 1) rfl
    obtain ⟨u, hl, ho, hu⟩ := hI.lbx
    have l0 := hl.cell (i := 0) rfl
    have lf := hl.frozen
    obtain ⟨ao, cap, rfl, _⟩ := ownK_form ho
    rcases hor with ⟨rfl, hT, hn⟩ | ⟨rfl, rfl, rfl, hn⟩
    · have HN := Lib.hid hn
      have HT := Lib.hid hT
      have hpl : pre.length + 1 < 90001 := by have := congrArg List.length hT; simp at this; omega
      clear hn hmin hrel hT hI
      go_wp2_with (at_builtin; go_loud (
        refine wpList_apK encQ_len (by decide) encQ_one (x := fun _ => True) Try.underlying114 infoTm rfl (by decide) rfl _ _ rfl w.heap.size _ pre rfl (ownK_alloc ho _) (.slice (some ⟨wr.heap.size, 0, none⟩) 1 1) [x] (by simp) rfl (RK.oneN (enc := encQ) x tTm _ _ (by simp) _ rfl) (by simp; omega) (by rw [World.size_alloc]; have := HI.out.mv.1.size; omega) ?_
        intro g cp w1 ho1 hg1 hl1
        rw [List.length_append, List.length_singleton] at ho1
        rw [List.length_append, List.length_singleton]
        obtain ⟨P1, P2⟩ := HI.out.push hl ho hu ho1 hg1 hl1
        have p0 := P2.cell (i := 0) rfl
        have pf := P2.frozen 0
        have q0 := P1.vbx.cell (i := 0) rfl
        have q1 := P1.vbx.cell (i := 1) rfl
        have HP := Lib.hid P1
        clear P1 P2 d0 d1 l0 lf hg1 hl1 ho1 hl ho hu))
      have P2 := HP.out.box x
      rw [show (w1.setCell ⟨w.heap.size, 0, none⟩ (.slice (some ⟨g, 0, none⟩) (pre.length + 1) cp)).heap.size = w1.heap.size by simp] at P2
      generalize w1.setCell ⟨w.heap.size, 0, none⟩ (.slice (some ⟨g, 0, none⟩) (pre.length + 1) cp) = W2 at *
      obtain ⟨B', fb', db', e', c2⟩ := udp_any P2.ud hN P2.nf
      rw [HNF.out] at e'
      unfold nfD at e'
      simp at e'
      obtain ⟨rfl, rfl, rfl⟩ := e'
      refine c2.mono ?_
      rintro e w5 ⟨x5, ok5, R5, rfl, t5, hU5, hk5, hor5⟩
      have P5 := P2.step t5 hU5 hk5
      clear c2 P2 t5 hU5 hk5
      obtain ⟨f6, P6⟩ := P5.store x5
      have v5 := P5.vbx
      have vf := v5.frozen
      have v0 := v5.cell (i := 0) rfl
      have v1 := v5.cell (i := 1) rfl
      have H6 : ∃ m, m ≤ R'.length ∧ HeadC X S L dv o E R most N xb f w nf w.heap.size m (.pointer (some ⟨w1.heap.size, 0, none⟩)) (.bool ok5) ((w5.setCell ⟨w1.heap.size, 0, none⟩ (.int .i64 x5.1)).setCell ⟨w1.heap.size, 1, none⟩ (.int .i64 x5.2)) := by
        rcases hor5 with ⟨rfl, rfl⟩ | ⟨rfl, rfl, rfl⟩
        · exact ⟨R5.length + 1, by simp, _, x5, true, pre ++ [x], R5, _, rfl, rfl, P6, .inl ⟨rfl, by rw [← HT.out]; simp, rfl⟩⟩
        · exact ⟨0, Nat.zero_le _, _, x5, false, pre ++ [x], [], _, rfl, rfl, P6, .inr ⟨rfl, HT.out, rfl, rfl⟩⟩
      have HH := Lib.hid H6
      clear P5 P6 H6 hor5 v5 HP
      have HN2 := HN.out
      go_wp2_with fail
      go_roundw
      case rel =>
        obtain ⟨m, _, h6⟩ := HH.out
        exact ⟨m, h6⟩
      case measure =>
        obtain ⟨m, hm, h6⟩ := HH.out
        have h5 := (leastOf_spec (p := fun n => HeadC X S L dv o E R most N xb f w nf w.heap.size n (.pointer (some ⟨w1.heap.size, 0, none⟩)) (.bool ok5) ((w5.setCell ⟨w1.heap.size, 0, none⟩ (.int .i64 x5.1)).setCell ⟨w1.heap.size, 1, none⟩ (.int .i64 x5.2))) ⟨_, h6⟩).2 _ h6
        rw [HN2]
        exact Nat.lt_succ_of_le (Nat.le_trans h5 hm)
    · clear hn hmin hrel ho hu hl l0 lf d0 d1
      go_wp2
      go_ret
      obtain ⟨u, j1, j2, _⟩ := HI.out.lbx
      exact ⟨_, u, _, rfl, HI.out.mv, HI.out.ud, Nat.le_refl _, j1, j2, (by have h := HI.out.nf; rw [HNF.out] at h; exact h), HI.out.old⟩
end
end Go.Proofs.Ytchlemajppnehaa

/- A Due that is walked is parted from its walk. -/
set_option maxRecDepth 100000
namespace Go.Proofs.Ytchlemajppnehaa
open Go Go.RowKit Go.Shelf Go.Maps
attribute [local go_sem] Oper.semAt_some
/-- Behind it: the walk has what was left for itself. -/
structure Parted (X : Nat) (S : Du.St) (L : TL) (dv : Value) (xb : Nat) (R : List (Int × Int)) (f : Nat → Prop) (w w' : World) : Prop where
  due : DueE X S L dv (.slice none 0 0) w'
  ex : ∃ lb v f', MvL f w f' w' ∧ Blk w' xb [nfC lb] tWb ∧ w.heap.size ≤ lb ∧ Blk w' lb [v] tLs ∧ OwnK encQ 2 tTm w.heap.size v R w'
  old : ∀ (b : Nat) (cs : List Value) (t : TypeId), t ≠ tHp → t ≠ 3 → t ≠ tWb → t ≠ tDue → Blk w b cs t → w'.heap[b]? = w.heap[b]?
section
variable {S : Du.St} {L : TL} {dv : Value} {o : List Nat}
variable {X : Nat} {E R : List (Int × Int)} {most : Int} {N xb : Nat} {f : Nat → Prop} {w : World}
set_option maxHeartbeats 4000000 in
theorem dpart1 (h : UDp X S L dv o E most N xb R f w) (hN : N < 80000) (hR : R.length < 90000) :
    Calls Try.prog 45 #[.pointer (some ⟨X, 7, none⟩)] w fun e w' => e = .returned (.tuple #[]) ∧ Parted X S L dv xb R f w w' := by
  obtain ⟨g, cap, hv, T, B, db, mb, fb, j, h1, h2, h3, h4, h5, h6, h7, _⟩ := id h.ex
  obtain ⟨s, hw, _⟩ := h1.ex
  obtain ⟨_, _, _, _, _, q7, qf⟩ := hw.due.cells
  have kk := ownK_cell encW_len h2 (j := 0) (i := 0) (by simp) (by omega)
  simp [encW] at kk
  have x0 := h7.cell (i := 0) rfl
  have hc := dcopied_any h hN hR h7
  unfold nfD at x0 hc
  have HC := Lib.hid hc
  clear hc h1 h2 h3 h4 h5 h6 h7 hw
  go_enter Try.func45, Try.ntmps45
  go_wp2
  refine wp_loop_rounds 2 ?_
  rw [rounds_succ]
  go_wp2_with fail
  refine HC.out.mono ?_
  rintro e w2 ⟨lb, v, f', rfl, hM, hU, hlb, hL, ho, hX, hold⟩
  clear HC q7 qf kk x0
  obtain ⟨g2, cap2, hv2, T2, B2, db2, mb2, fb2, j2, k1, k2, _, _, _, _, _, _, _, _, _, _, _, _, _, _, _, _, _, fx⟩ := id hU.ex
  obtain ⟨s2, hw2, _⟩ := k1.ex
  have hd3 := hw2.due.kind (i := 0) (u := nfC lb) hX (by decide) (by decide) (by decide)
  have hX3 := hX.set 0 (nfC lb)
  have t3 : Trn f' w2 (w2.setCell ⟨xb, 0, none⟩ (nfC lb)) := Trn.set hX fx 0 _
  have nlx : lb ≠ xb := hL.ne hX (by decide)
  have hL3 := hL.other nlx 0 (nfC lb)
  have ho3 : OwnK encQ 2 tTm w.heap.size v R (w2.setCell ⟨xb, 0, none⟩ (nfC lb)) := own_kept ho fun b e => Below.heap_setCell w2 ⟨xb, 0, none⟩ _ b fun e2 => by
    obtain ⟨c, hc⟩ := own_blk' ho e
    have e2 : b = xb := e2
    exact hc.ne hX (by decide) e2
  obtain ⟨hd4, t4⟩ := hd3.walks (.slice none 0 0)
  obtain ⟨_, _, _, _, _, q7, qf⟩ := hd3.cells
  have x0 := hX.cell (i := 0) rfl
  have xf := hX.frozen 0
  obtain ⟨bx3, ht3, _⟩ := hd3.ex
  have nXx : xb ≠ X := hX3.ne ht3.box (by decide)
  have nXl : lb ≠ X := hL3.ne ht3.box (by decide)
  have fin : Parted X S L dv xb R f w ((w2.setCell ⟨xb, 0, none⟩ (nfC lb)).setCell ⟨X, 7, none⟩ (.slice none 0 0)) :=
    ⟨hd4, ⟨lb, v, _, (hM.next t3).next (t4.mono fun b _ e => .inl (e ▸ hU.fX)), hX3.other nXx 7 _, hlb, hL3.other nXl 7 _, own_kept ho3 fun b e => Below.heap_setCell _ ⟨X, 7, none⟩ _ b fun e2 => by
      obtain ⟨c, hc⟩ := own_blk' ho3 e
      have e2 : b = X := e2
      exact hc.ne ht3.box (by decide) e2⟩, fun b cs t n1 n2 n3 n4 hB => by
      have hB2 := hB.kept (hold b cs t n1 n2 hB)
      exact (Below.heap_setCell _ ⟨X, 7, none⟩ _ b fun e2 => by
        have e2 : b = X := e2
        subst e2
        exact (hB2.other (hB2.ne hX n3) 0 (nfC lb)).ne ht3.box n4 rfl).trans ((Below.heap_setCell w2 ⟨xb, 0, none⟩ _ b fun e2 => by
        have e2 : b = xb := e2
        exact hB2.ne hX n3 e2).trans (hold b cs t n1 n2 hB))⟩
  have FIN := Lib.hid fin
  unfold nfC at FIN q7 qf ⊢
  clear fin hd3 hX3 t3 hL3 ho3 hd4 t4 ht3 nXx nXl k1 k2 hw2 hX hL ho hU hM hold
  go_wp2
  rw [rounds_succ]
  go_wp2
  go_end0
  exact ⟨rfl, FIN.out⟩
end
end Go.Proofs.Ytchlemajppnehaa

/- Set and Drop of a Due that may be walked: what parts it from its walk is given. (Made by tools/gen11_set.py.) -/
set_option maxRecDepth 100000
namespace Go.Proofs.Ytchlemajppnehaa
open Go Go.RowKit Go.Shelf Go.Maps
section
variable {X : Nat} {S : Du.St} {L : TL} {hv wv : Value} {w w' : World} {o : List Nat} {N : Nat} {f : Nat → Prop} {Q : World → Prop}
set_option maxHeartbeats 4000000 in
theorem ddrop_hasG (h1 : DueE X S L hv wv w) (h2 : Du.InvD S o N) (h4 : L.n ≤ N) (fX : f X) (fM : f L.M) (fR : f L.R) (fs : ∀ g, L.sv.ownBlock = some g → f g) (fh : ∀ g, hv.ownBlock = some g → f g) (fb : ∀ k, f k → k < w.heap.size) (HP : ∀ w0, Below w.heap.size w w0 → Calls Try.prog 45 #[.pointer (some ⟨X, 7, none⟩)] w0 fun e w1 => e = .returned (.tuple #[]) ∧ DueE X S L hv (.slice none 0 0) w1 ∧ w0.heap.size ≤ w1.heap.size ∧ Q w1) {k : Int} (hk : I64 k) (hm : k ∈ (o.map (Du.ent S)).map (·.1)) (hN : N < 80000) :
    Calls Try.prog 26 #[.pointer (some ⟨X, 0, none⟩), .int .i64 k] w fun e w' => e = .returned (.bool true) ∧ ∃ w1, Q w1 ∧ Trn f w1 w' ∧ DV X ((o.map (Du.ent S)).filter (fun e => e.1 != k)) (N + 1) (grow f w1 w') w' := by
  obtain ⟨x, hx, hg, rfl⟩ := h2.index hm
  have hxl : x < S.T.rows.length := h2.tab.lt x (by simp [hx])
  obtain ⟨s', hs'⟩ := h2.first hx
  obtain ⟨p1, p2, p3, p4⟩ := h2.leave hx hs'
  obtain ⟨g1, g2⟩ := h2.half_old hx hs'
  obtain ⟨g3, g4⟩ := g1.drop
  have hlen := h2.tab.len
  have hbd := h2.tab.bounds
  have hol := h2.llen
  have hpc := (h2.place hx).1
  have hkS : ∀ m, m = (Lr.rat S.T.rows x).k → (Lr.rat (S.at_ s').T.rows x).k = m := fun m e => by rw [h2.rat_at p1 hxl, e]
  go_enter Try.func26, Try.ntmps26
  go_wp2_with fail
  refine (dfind_any h1 hk).mono ?_
  rintro e w1 ⟨rfl, b1⟩
  rw [hg]
  go_wp2_with fail
  refine (HP _ b1).mono ?_
  rintro e w2 ⟨rfl, e2, zz1, hQ⟩
  have fb1 : ∀ k, f k → k < w2.heap.size := fun k e => Nat.lt_of_lt_of_le (fb k e) (Nat.le_trans b1.size zz1)
  have HQ := Lib.hid hQ
  clear hQ HP zz1 fb
  obtain ⟨_, _, _, r3, rf⟩ := e2.row hxl
  have htk := fun W hW => htake_D ((e2.hd (by omega)).same2 W hW) (p := (Lr.rat S.T.rows x).c) hpc h2.okl (by show S.l.length < _; omega)
  rw [hs'] at htk
  have hte := fun W hW => dterm_any (e2.same (w' := W) hW) hxl
  go_wp2_with fail
  go_region_with (first
    | (go_at_call 48; refine (hte w2.drew rfl).mono ?_; rintro e w3 ⟨rfl, rfl⟩)
    | (go_at_call 47; refine (htk w2.drew rfl).mono ?_; rintro e w3 ⟨rfl, v, e3, fv, t3⟩))
  have ed : DueE X (S.at_ s') L v (.slice none 0 0) w3 := e3.due
  have hl1 : (S.at_ s').T.rows.length = S.T.rows.length := Du.withC_len p1
  obtain ⟨bx3, ht3, hx3⟩ := ed.ex
  go_wp2_with fail
  refine (dropT ht3 (i := x) (by rw [hl1]; exact hxl) (by show I64 (Lr.rat (S.at_ s').T.rows x).k; rw [hkS _ rfl]; exact hk) (by show S.T.spare.length < _; omega)).mono ?_
  rintro e w4 ⟨rfl, e4⟩
  obtain ⟨L4, e5, t5, m1, m2, m3, m4⟩ := ed.tab hx3 e4
  go_wp2
  go_ret
  have s2 : Trn f w2 w2.drew := Trn.drew w2 1
  have s3 := s2.trans (t3.mono (g := grow f w2 w2.drew) fun b _ e => .inl (e.elim (fun e => e ▸ fX) (fun e => e.elim (fh b) (fun e => e ▸ fR))))
  have s4 := s3.trans (t5.mono (g := grow f w2 w3) fun b _ e => .inl (e.elim (fun e => e ▸ fX) (fun e => e.elim (fun e => e ▸ fM) (fun e => e.elim (fun e => e ▸ fR) (fs b)))))
  have z3 := s3.size
  have hE : (o.map (Du.ent S)).filter (fun e => e.1 != (Lr.rat S.T.rows x).k) = (o.erase x).map (Du.ent ⟨(S.at_ s').turns, (S.at_ s').T.drop x, (S.at_ s').l⟩) := by
    rw [← h2.erased hx]
    refine List.map_congr_left fun i hi => ?_
    rw [g4 i hi, g2 i (List.mem_of_mem_erase hi)]
  exact ⟨rfl, w2, HQ.out, s4, DV.fin e5 g3 hE (by omega) fX (.inl (by rw [m1]; exact fM)) (m3.imp (fun e => by rw [e]; exact fR) (fun e => by omega)) (fun g e => (m4 g e).imp (fs g) (fun e => by omega)) (fun g e => .inl (fh g (fv g e))) fb1 s4⟩
set_option maxHeartbeats 4000000 in
theorem dset_oldG (h1 : DueE X S L hv wv w) (h2 : Du.InvD S o N) (h4 : L.n ≤ N) (fX : f X) (fM : f L.M) (fR : f L.R) (fs : ∀ g, L.sv.ownBlock = some g → f g) (fh : ∀ g, hv.ownBlock = some g → f g) (fb : ∀ k, f k → k < w.heap.size) (HP : ∀ w0, Below w.heap.size w w0 → Calls Try.prog 45 #[.pointer (some ⟨X, 7, none⟩)] w0 fun e w1 => e = .returned (.tuple #[]) ∧ DueE X S L hv (.slice none 0 0) w1 ∧ w0.heap.size ≤ w1.heap.size ∧ Q w1) {k a : Int} (hk : I64 k) (hm : k ∈ (o.map (Du.ent S)).map (·.1)) (hN : N < 80000) (_ha : I64 a) :
    Calls Try.prog 24 #[.pointer (some ⟨X, 0, none⟩), .int .i64 k, .int .i64 a] w fun e w' => e = .returned (.tuple #[]) ∧ ∃ w1, Q w1 ∧ Trn f w1 w' ∧ DV X ((o.map (Du.ent S)).filter (fun e => e.1 != k) ++ [(k, a)]) (N + 1) (grow f w1 w') w' := by
  obtain ⟨x, hx, hg, rfl⟩ := h2.index hm
  have hxl : x < S.T.rows.length := h2.tab.lt x (by simp [hx])
  obtain ⟨s', hs'⟩ := h2.first hx
  obtain ⟨p1, p2, p3, p4⟩ := h2.leave hx hs'
  obtain ⟨g1, g2⟩ := h2.half_old hx hs'
  have hlen := h2.tab.len
  have hbd := h2.tab.bounds
  have hol := h2.llen
  have hpc := (h2.place hx).1
  obtain ⟨bx, ht, _⟩ := h1.ex
  have q1 := qDue
  have hE : (o.map (Du.ent S)).filter (fun e => e.1 != (Lr.rat S.T.rows x).k) = (o.erase x).map (Du.ent (S.at_ s')) := by
    rw [← h2.erased hx]
    exact List.map_congr_left fun i hi => (g2 i (List.mem_of_mem_erase hi)).symm
  have hkS : (Lr.rat (S.at_ s').T.rows x).k = (Lr.rat S.T.rows x).k := by rw [h2.rat_at p1 hxl]
  obtain ⟨G, hG⟩ : ∃ G, G = (o.map (Du.ent S)).filter (fun e => e.1 != (Lr.rat S.T.rows x).k) ++ [((Lr.rat S.T.rows x).k, a)] := ⟨_, rfl⟩
  rw [← hG]
  rw [hE] at hG
  go_enter Try.func24, Try.ntmps24
  go_wp2_with fail
  refine (takesT ht _ hk).mono ?_
  rintro e w0 ⟨rfl, b0⟩
  go_wp2_with fail
  refine (HP _ b0).mono ?_
  rintro e w1 ⟨rfl, e1, zz1, hQ⟩
  have fb1 : ∀ k, f k → k < w1.heap.size := fun k e => Nat.lt_of_lt_of_le (fb k e) (Nat.le_trans b0.size zz1)
  have HQ := Lib.hid hQ
  clear hQ HP zz1 fb
  go_wp2_with fail
  refine (dfind_any e1 hk).mono ?_
  rintro e w2 ⟨rfl, b2⟩
  rw [hg]
  have e2 := e1.below b2
  obtain ⟨_, _, _, r3, rf⟩ := e2.row hxl
  have htk := fun W hW => htake_D ((e2.hd (by omega)).same2 W hW) (p := (Lr.rat S.T.rows x).c) hpc h2.okl (by show S.l.length < _; omega)
  rw [hs'] at htk
  have hte := fun W hW => dterm_any (e2.same (w' := W) hW) hxl
  go_wp2_with fail
  go_region_with (first
    | (go_at_call 48; refine (hte w2.drew rfl).mono ?_; rintro e w3 ⟨rfl, rfl⟩)
    | (go_at_call 47; refine (htk w2.drew rfl).mono ?_; rintro e w5 ⟨rfl, v, e3, fv, t3⟩))
  have e5 : DueE X (S.at_ s') L v (.slice none 0 0) w5 := e3.due
  have s5 : Trn f w1 w5 := by
    have s2 : Trn f w1 w2 := Trn.of_below b2
    exact (s2.trans (Trn.drew w2 1)).trans (t3.mono (g := grow f w1 w2.drew) fun b _ e => .inl (e.elim (fun e => e ▸ fX) (fun e => e.elim (fh b) (fun e => e ▸ fR))))
  have fvv : ∀ b, v.ownBlock = some b → f b ∨ w1.heap.size ≤ b := fun b e => .inl (fh b (fv b e))
  have fM : f L.M ∨ w1.heap.size ≤ L.M := .inl fM
  have fR : f L.R ∨ w1.heap.size ≤ L.R := .inl fR
  have fs : ∀ g, L.sv.ownBlock = some g → f g ∨ w1.heap.size ≤ g := fun g e => .inl (fs g e)
  have h4 : L.n ≤ N + 1 := by omega
  clear r3 rf htk hte hs' p2 p3 e3 t3 b0 b2 e1 e2 h1 ht hm hg q1 hE hbd hol hpc p4 hx fh fv g2 h2 hlen
  generalize (Lr.rat S.T.rows x).k = k at *
  generalize S.at_ s' = S1 at *
  generalize o.erase x = o1 at *
  have hl5 : x < S1.T.rows.length := g1.tab.lt x (by simp)
  have hlen5 := g1.tab.len
  have htn5 := g1.tn
  obtain ⟨i1, i2, i3, _⟩ := g1.push a
  have ol5 : ∀ y ∈ S1.l, y < S1.T.rows.length := fun y hy => by
    obtain ⟨p, hp, e⟩ := List.mem_iff_getElem.1 hy
    have hm : y ∈ o1 := (g1.heap.rng y).1 ⟨p, hp, by show S1.sp.l.getD p 0 = y; rw [List.getD_eq_getElem?_getD, List.getElem?_eq_getElem (show p < S1.sp.l.length from hp)]; exact e⟩
    exact g1.tab.lt y (by simp [hm])
  have ln5 : S1.l.length = o1.length := Du.is_len g1.heap (List.nodup_append.1 (List.nodup_append.1 g1.tab.nd).1).1
  have bd5 := g1.tab.bounds
  rw [List.length_append, List.length_singleton] at bd5
  obtain ⟨q0, _, _, _, _, _, qf⟩ := e5.cells
  unfold encI at q0
  obtain ⟨e6, t6⟩ := e5.turned (S1.turns + 1)
  go_wp2_with fail
  have hcast : ((S1.turns : Int) + 1) = ((S1.turns + 1 : Nat) : Int) := rfl
  replace e6 : DueE X { S1 with turns := S1.turns + 1 } L v (.slice none 0 0) (w5.setCell ⟨X, 0, none⟩ (.int .i64 ((S1.turns : Int) + 1))) := e6
  replace t6 : Trn (fun b => b = X) w5 (w5.setCell ⟨X, 0, none⟩ (.int .i64 ((S1.turns : Int) + 1))) := t6
  generalize w5.setCell ⟨X, 0, none⟩ (.int .i64 ((S1.turns : Int) + 1)) = w6 at *
  clear q0 qf
  obtain ⟨q0, _, _, _, _, _, qf⟩ := e6.cells
  replace q0 : w6.cell? ⟨X, 0, none⟩ = some (.int .i64 ((S1.turns + 1 : Nat) : Int)) := q0
  obtain ⟨r0, r1, r2, r3, rf⟩ := e6.row (i := x) hl5
  have hte := fun W hW => dterm_any (e6.same (w' := W) hW) (i := x) hl5
  obtain ⟨e7, t7⟩ := e6.write (i := x) hl5 a (S1.turns + 1) 0
  have E8 := Lib.hid (DueE.hd (S := S1.due x a) e7 (by show (S1.T.rows.set _ _).length < _; rw [List.length_set]; omega))
  have T7 := Lib.hid t7
  clear e7 t7
  generalize (S1.turns + 1 : Nat) = tn at *
  go_region_with (first
    | (go_at_call 48; refine (hte w6.drew rfl).mono ?_; rintro e w7 ⟨rfl, rfl⟩))
  all_goals (
    go_wp2_with fail
    refine (hpush_D (HD.same2 E8.out _ (by rfl)) (x := x) (by show x < (S1.T.rows.set _ _).length; rw [List.length_set]; exact hl5) (fun y hy => by show y < (S1.T.rows.set _ _).length; rw [List.length_set]; exact ol5 y hy) (by show S1.l.length + 1 < _; omega)).mono ?_
    rintro e w9 ⟨rfl, v9, e9, f9, t9⟩
    go_wp2
    go_end0
    have s6 := s5.trans (t6.mono (g := grow f w1 w5) fun b _ e => .inl (e ▸ fX))
    have z5 := s5.size
    have z6 := s6.size
    have gR : f L.R ∨ (w1.heap.size ≤ L.R ∧ L.R < w6.heap.size) := fR.imp id (fun e => ⟨e, e6.lt.2⟩)
    have s7 := s6.trans (T7.out.mono (g := grow f w1 w6) fun b _ e => e ▸ gR)
    have z7 := s7.size
    have s8 := (s7.trans (Trn.drew _ 1)).trans (t9.mono (g := grow f w1 _) fun b hb e => e.elim (fun e => .inl (e ▸ fX)) (fun e => e.elim (fun e => (fvv b e).imp id (fun e => ⟨e, hb⟩)) (fun e => (fR.imp (fun e2 => e ▸ e2) (fun e2 => ⟨e ▸ e2, hb⟩)))))
    refine ⟨rfl, w1, HQ.out, s8, DV.fin (o' := o1 ++ [x]) e9.due i1 ?_ h4 fX fM fR fs (fun g e => ?_) fb1 s8⟩
    · show G = (o1 ++ [x]).map (Du.ent ((S1.due x a).at_ (Hp.push (Du.lt (S1.due x a).T.rows) (S1.due x a).sp x)))
      rw [hG, List.map_append, List.map_cons, List.map_nil, i3, hkS]
      exact congrArg (· ++ [(k, a)]) (List.map_congr_left fun i hi => (i2 i hi).symm)
    · rcases f9 g e with e2 | e2
      · exact fvv g e2
      · exact .inr (Nat.le_trans z7 e2)
  )
set_option maxHeartbeats 4000000 in
theorem dset_newG (h1 : DueE X S L hv wv w) (h2 : Du.InvD S o N) (h4 : L.n ≤ N) (fX : f X) (fM : f L.M) (fR : f L.R) (fs : ∀ g, L.sv.ownBlock = some g → f g) (fh : ∀ g, hv.ownBlock = some g → f g) (fb : ∀ k, f k → k < w.heap.size) (HP : ∀ w0, Below w.heap.size w w0 → Calls Try.prog 45 #[.pointer (some ⟨X, 7, none⟩)] w0 fun e w1 => e = .returned (.tuple #[]) ∧ DueE X S L hv (.slice none 0 0) w1 ∧ w0.heap.size ≤ w1.heap.size ∧ Q w1) {k a : Int} (hk : I64 k) (hm : k ∉ (o.map (Du.ent S)).map (·.1)) (hN : N < 80000) (_ha : I64 a) :
    Calls Try.prog 24 #[.pointer (some ⟨X, 0, none⟩), .int .i64 k, .int .i64 a] w fun e w' => e = .returned (.tuple #[]) ∧ ∃ w1, Q w1 ∧ Trn f w1 w' ∧ DV X ((o.map (Du.ent S)).filter (fun e => e.1 != k) ++ [(k, a)]) (N + 1) (grow f w1 w') w' := by
  have hg := h2.none hm
  obtain ⟨g1, g2, hkS, _⟩ := h2.half_new hk hg
  have hlen := h2.tab.len
  have hbd := h2.tab.bounds
  have hol := h2.llen
  have hsl := fun j hj => h2.tab.lt j (List.mem_append_right o hj)
  obtain ⟨bx, ht, _⟩ := h1.ex
  have q1 := qDue
  have hE : (o.map (Du.ent S)).filter (fun e => e.1 != k) = o.map (Du.ent ⟨S.turns, S.T.add k, S.l⟩) := by
    rw [List.filter_eq_self.2 (fun e he => by
      rw [bne_iff_ne]
      exact fun e2 => hm (e2 ▸ List.mem_map_of_mem he))]
    exact List.map_congr_left fun i hi => (g2 i hi).symm
  obtain ⟨G, hG⟩ : ∃ G, G = (o.map (Du.ent S)).filter (fun e => e.1 != k) ++ [(k, a)] := ⟨_, rfl⟩
  rw [← hG]
  rw [hE] at hG
  go_enter Try.func24, Try.ntmps24
  go_wp2_with fail
  refine (takesT ht _ hk).mono ?_
  rintro e w0 ⟨rfl, b0⟩
  go_wp2_with fail
  refine (HP _ b0).mono ?_
  rintro e w1 ⟨rfl, e1, zz1, hQ⟩
  have fb1 : ∀ k, f k → k < w1.heap.size := fun k e => Nat.lt_of_lt_of_le (fb k e) (Nat.le_trans b0.size zz1)
  have HQ := Lib.hid hQ
  clear hQ HP zz1 fb
  go_wp2_with fail
  refine (dfind_any e1 hk).mono ?_
  rintro e w2 ⟨rfl, b2⟩
  rw [hg]
  have e2 := e1.below b2
  go_wp2_with fail
  obtain ⟨bx3, ht3, hx3⟩ := e2.ex
  refine (addT ht3 k hk hsl (by omega) (by omega) (by omega)).mono ?_
  rintro e w5 ⟨rfl, e4⟩
  obtain ⟨L1, e5, t5, m1, m2, m3, m4⟩ := e2.tab hx3 e4
  have s3 : Trn f w1 w2 := Trn.of_below b2
  have s5 : Trn f w1 w5 := s3.trans (t5.mono (g := grow f w1 w2) fun b _ e => .inl (e.elim (fun e => e ▸ fX) (fun e => e.elim (fun e => e ▸ fM) (fun e => e.elim (fun e => e ▸ fR) (fs b)))))
  have z3 := s3.size
  have fvv : ∀ b, hv.ownBlock = some b → f b ∨ w1.heap.size ≤ b := fun b e => .inl (fh b e)
  have fM : f L1.M ∨ w1.heap.size ≤ L1.M := .inl (by rw [m1]; exact fM)
  have fR : f L1.R ∨ w1.heap.size ≤ L1.R := m3.imp (fun e => by rw [e]; exact fR) (fun e => by omega)
  have fs : ∀ g, L1.sv.ownBlock = some g → f g ∨ w1.heap.size ≤ g := fun g e => (m4 g e).imp (fs g) (fun e => by omega)
  have h4 : L1.n ≤ N + 1 := by omega
  clear e4 t5 b0 b2 e1 e2 ht3 hx3 h1 ht hm hg q1 hE hbd hol fh g2 h2 hlen hsl m1 m2 m3 m4 s3
  replace hkS : (Lr.rat (⟨S.turns, S.T.add k, S.l⟩ : Du.St).T.rows S.T.free).k = k := hkS
  generalize S.T.free = x at *
  generalize (⟨S.turns, S.T.add k, S.l⟩ : Du.St) = S1 at *
  have hl5 : x < S1.T.rows.length := g1.tab.lt x (by simp)
  have hlen5 := g1.tab.len
  have htn5 := g1.tn
  obtain ⟨i1, i2, i3, _⟩ := g1.push a
  have ol5 : ∀ y ∈ S1.l, y < S1.T.rows.length := fun y hy => by
    obtain ⟨p, hp, e⟩ := List.mem_iff_getElem.1 hy
    have hm : y ∈ o := (g1.heap.rng y).1 ⟨p, hp, by show S1.sp.l.getD p 0 = y; rw [List.getD_eq_getElem?_getD, List.getElem?_eq_getElem (show p < S1.sp.l.length from hp)]; exact e⟩
    exact g1.tab.lt y (by simp [hm])
  have ln5 : S1.l.length = o.length := Du.is_len g1.heap (List.nodup_append.1 (List.nodup_append.1 g1.tab.nd).1).1
  have bd5 := g1.tab.bounds
  rw [List.length_append, List.length_singleton] at bd5
  obtain ⟨q0, _, _, _, _, _, qf⟩ := e5.cells
  unfold encI at q0
  obtain ⟨e6, t6⟩ := e5.turned (S1.turns + 1)
  go_wp2_with fail
  have hcast : ((S1.turns : Int) + 1) = ((S1.turns + 1 : Nat) : Int) := rfl
  replace e6 : DueE X { S1 with turns := S1.turns + 1 } L1 hv (.slice none 0 0) (w5.setCell ⟨X, 0, none⟩ (.int .i64 ((S1.turns : Int) + 1))) := e6
  replace t6 : Trn (fun b => b = X) w5 (w5.setCell ⟨X, 0, none⟩ (.int .i64 ((S1.turns : Int) + 1))) := t6
  generalize w5.setCell ⟨X, 0, none⟩ (.int .i64 ((S1.turns : Int) + 1)) = w6 at *
  clear q0 qf
  obtain ⟨q0, _, _, _, _, _, qf⟩ := e6.cells
  replace q0 : w6.cell? ⟨X, 0, none⟩ = some (.int .i64 ((S1.turns + 1 : Nat) : Int)) := q0
  obtain ⟨r0, r1, r2, r3, rf⟩ := e6.row (i := x) hl5
  have hte := fun W hW => dterm_any (e6.same (w' := W) hW) (i := x) hl5
  obtain ⟨e7, t7⟩ := e6.write (i := x) hl5 a (S1.turns + 1) 0
  have E8 := Lib.hid (DueE.hd (S := S1.due x a) e7 (by show (S1.T.rows.set _ _).length < _; rw [List.length_set]; omega))
  have T7 := Lib.hid t7
  clear e7 t7
  generalize (S1.turns + 1 : Nat) = tn at *
  go_region_with (first
    | (go_at_call 48; refine (hte w6.drew rfl).mono ?_; rintro e w7 ⟨rfl, rfl⟩))
  all_goals (
    go_wp2_with fail
    refine (hpush_D (HD.same2 E8.out _ (by rfl)) (x := x) (by show x < (S1.T.rows.set _ _).length; rw [List.length_set]; exact hl5) (fun y hy => by show y < (S1.T.rows.set _ _).length; rw [List.length_set]; exact ol5 y hy) (by show S1.l.length + 1 < _; omega)).mono ?_
    rintro e w9 ⟨rfl, v9, e9, f9, t9⟩
    go_wp2
    go_end0
    have s6 := s5.trans (t6.mono (g := grow f w1 w5) fun b _ e => .inl (e ▸ fX))
    have z5 := s5.size
    have z6 := s6.size
    have gR : f L1.R ∨ (w1.heap.size ≤ L1.R ∧ L1.R < w6.heap.size) := fR.imp id (fun e => ⟨e, e6.lt.2⟩)
    have s7 := s6.trans (T7.out.mono (g := grow f w1 w6) fun b _ e => e ▸ gR)
    have z7 := s7.size
    have s8 := (s7.trans (Trn.drew _ 1)).trans (t9.mono (g := grow f w1 _) fun b hb e => e.elim (fun e => .inl (e ▸ fX)) (fun e => e.elim (fun e => (fvv b e).imp id (fun e => ⟨e, hb⟩)) (fun e => (fR.imp (fun e2 => e ▸ e2) (fun e2 => ⟨e ▸ e2, hb⟩)))))
    refine ⟨rfl, w1, HQ.out, s8, DV.fin (o' := o ++ [x]) e9.due i1 ?_ h4 fX fM fR fs (fun g e => ?_) fb1 s8⟩
    · show G = (o ++ [x]).map (Du.ent ((S1.due x a).at_ (Hp.push (Du.lt (S1.due x a).T.rows) (S1.due x a).sp x)))
      rw [hG, List.map_append, List.map_cons, List.map_nil, i3, hkS]
      exact congrArg (· ++ [(k, a)]) (List.map_congr_left fun i hi => (i2 i hi).symm)
    · rcases f9 g e with e2 | e2
      · exact fvv g e2
      · exact .inr (Nat.le_trans z7 e2)
  )
end
end Go.Proofs.Ytchlemajppnehaa
