/- 3 texts put together: Wrun, Dsort, Dupto. -/
import Derived.Test.YtchlemajppnehaaJW15
import Derived.Test.YtchlemajppnehaaJW18
import Derived.Test.YtchlemajppnehaaJW23
/- A walk during which the Due may be changed: the run. (Its beginning as XDrunc's.) -/
set_option maxRecDepth 100000
namespace Go.Proofs.Ytchlemajppnehaa
open Go Go.RowKit Go.Shelf Go.Maps
attribute [local go_sem] Oper.semAt_some
def MvW (s : Ws) (W : World) (s' : Ws) (W' : World) : Prop := MvL s.1 W s'.1 W' ∧ s'.2 = s.2
theorem mvW {s : Ws} {w w' : World} (t : Trn s.1 w w') : MvW s w (grow s.1 w w', s.2) w' := ⟨mvL t, rfl⟩
section
variable {X : Nat} {E T0 : List (Int × Int)} {most : Int} {N xb yb l m : Nat} {vb : Option Nat} {R : List (Int × Int)} {s : Ws} {f : Nat → Prop} {w W : World}
theorem UW.ybox (h : UW X most xb yb l vb R s w) : Blk w yb [.func (.yield l) #[] #[]] tYd := by
  rcases h with ⟨E, h⟩ | ⟨E, h, p⟩
  · exact h.y.1
  · exact p.y.1
set_option maxHeartbeats 2000000 in
theorem dtellW (hm : 1 ≤ m) {x : Int × Int} {C : Ws → World → Prop} {Post : Ending → World → Prop} (hU : UW X most xb yb l vb R s w) (hC : C s w) (hCm : ∀ s s' W W', C s W → MvW s W s' W' → C s' W')
    (hY : ∀ s' W1, s'.2 = s.2 → UW X most xb yb l vb R s' W1 → C s' W1 → YieldAt Fence.wide (m - 1) Try.prog l (encP x) W1 Post) (hP : ∀ e W', Post e W' → ∃ b, e = .returned (.bool b)) :
    CallsIn Fence.wide m Try.prog 54 #[encT x, .pointer (some ⟨yb, 0, none⟩)] w Post := by
  have hb : Below w.heap.size w (w.alloc (.cells #[.int .i64 x.1, .int .i64 x.2] tTm)) := (Below.refl _ _).alloc (Nat.le_refl _) _
  have hU1 := hU.below hb
  have hC1 := hCm _ _ _ _ hC (mvW (Trn.of_below hb))
  have y0 := hU1.ybox.cell (i := 0) rfl
  obtain ⟨fn, tmps, assign, body, hy, hR⟩ := hY (grow s.1 w (w.alloc (.cells #[.int .i64 x.1, .int .i64 x.2] tTm)), s.2) _ rfl hU1 hC1
  unfold encP at hy
  unfold encT
  refine callsIn_of_wp Try.func54 rfl trivial ?_ rfl
  simp only [Try.ntmps54, List.size_toArray, List.length_cons, List.length_nil, Nat.reduceAdd, Nat.reduceSub, Array.replicate_succ, Array.replicate_zero, List.push_toArray, List.append_toArray, List.nil_append, List.cons_append]
  have B0 := Blk.new w [.int .i64 x.1, .int .i64 x.2] tTm
  have k0 := B0.cell (i := 0) rfl
  have k1 := B0.cell (i := 1) rfl
  gi_wp2_with fail
  refine hR.mono ?_
  intro e W' hp
  obtain ⟨b, rfl⟩ := hP e W' hp
  gi_wp2_with fail
  exact hp
/-- At the head of the run's loop: n are left, the one in hand with them. -/
def HeadW (X : Nat) (T0 : List (Int × Int)) (most : Int) (xb yb l : Nat) (C : List (Int × Int) → Ws → World → Prop) (n : Nat) (v ok : Value) (wr : World) : Prop :=
  ∃ x okb vb pre s R, v = .pointer (some ⟨vb, 0, none⟩) ∧ ok = .bool okb ∧ C pre s wr ∧ s.2 < 80000 ∧ UW X most xb yb l (some vb) R s wr ∧ Blk wr vb [.int .i64 x.1, .int .i64 x.2] tTm ∧ ((okb = true ∧ pre ++ x :: R = T0 ∧ n = R.length + 1) ∨ (okb = false ∧ pre = T0 ∧ R = [] ∧ n = 0))
set_option maxHeartbeats 16000000 in
theorem drunW_in (hm : 1 ≤ m) (hN : N < 80000) {S : Du.St} {L : TL} {ao : Option Addr} {cap B db mb fb : Nat} {o T : List Nat} {dv hv : Value} (h1 : WalkE X B db mb fb S L most T (.slice ao 0 cap) dv hv 0 W) (h2 : OwnK encW 1 tWk 0 (.slice ao 0 cap) [] W) (h3 : Du.InvD S o N) (hO : Du.Ordered S most o T) (h5 : E = o.map (Du.ent S)) (h8 : L.n ≤ N)
    (hyb : Blk W yb [.func (.yield l) #[] #[]] 27) (fy : f yb)
    (fX : f X) (fM : f L.M) (fR : f L.R) (fs : ∀ b, L.sv.ownBlock = some b → f b) (fd : ∀ b, dv.ownBlock = some b → f b) (fh : ∀ b, hv.ownBlock = some b → f b) (fg : ∀ b, (Value.slice ao 0 cap).ownBlock = some b → f b) (fB : f B) (fdb : f db) (fm : f mb) (ff : f fb) (fb' : ∀ k, f k → k < W.heap.size)
    (C Cx : List (Int × Int) → Ws → World → Prop) (hC : ∀ pre s s' W W', C pre s W → MvW s W s' W' → C pre s' W') (hCx : ∀ pre s s' W W', Cx pre s W → MvW s W s' W' → Cx pre s' W') (h0 : C [] (f, N) W)
    (hY : ∀ xb vb pre x R s W1, pre ++ x :: R = T.map (Du.ent S) → UW X most xb yb l vb R s W1 → s.2 < 80000 → C pre s W1 → YieldAt Fence.wide (m - 1) Try.prog l (encP x) W1 fun e W' =>
      (e = .returned (.bool true) ∧ ∃ s', (UW X most xb yb l vb R s' W' ∧ s'.2 < 80000) ∧ C (pre ++ [x]) s' W') ∨ (e = .returned (.bool false) ∧ ∃ s', (UW X most xb yb l vb R s' W' ∧ s'.2 < 80000) ∧ Cx (pre ++ [x]) s' W')) :
    CallsIn Fence.wide m Try.prog 52 #[.pointer (some ⟨X, 7, none⟩), nfD B fb db, .func (.func 54) #[] #[.pointer (some ⟨yb, 0, none⟩)]] W fun e W' => (∃ v, e = .returned v) ∧ ∃ s, (∃ E, DV X E s.2 s.1 W') ∧ (C (T.map (Du.ent S)) s W' ∨ ∃ pre, pre <+: T.map (Du.ent S) ∧ Cx pre s W') := by
  obtain ⟨s0, hw0, _⟩ := h1.ex
  obtain ⟨_, _, _, _, _, q6, qf⟩ := hw0.due.cells
  have HY := Lib.hid hY
  have HC := Lib.hid hC
  have HCx := Lib.hid hCx
  have H0 := Lib.hid h0
  clear hY hC hCx h0
  generalize hT0 : T.map (Du.ent S) = T0 at *
  unfold nfD
  refine callsIn_of_wp_defers Try.func52 rfl trivial ?_ rfl
  simp only [Try.ntmps52, List.size_toArray, List.length_cons, List.length_nil, Nat.reduceAdd, Nat.reduceSub, Array.replicate_succ, Array.replicate_zero, List.push_toArray, List.append_toArray, List.nil_append, List.cons_append]
  have nb := Blk.new W [nfD B fb db] 95
  have hba : Below W.heap.size W (W.alloc (.cells #[nfD B fb db] 95)) := (Below.refl _ _).alloc (Nat.le_refl _) _
  have hXW : X < W.heap.size := fb' X fX
  have e1 := h1.below hba
  obtain ⟨s1, hw1, _⟩ := e1.ex
  obtain ⟨_, _, _, _, _, q6', _⟩ := hw1.due.cells
  have o1 := ownK_below h2 hba
  have y1 := hyb.kept (hba.block _ hyb.lt)
  have hyl := hyb.lt
  unfold nfD at q6' nb
  gi_wp2_with (gi_at_builtin; go_loud (
     refine wpListIn_apK encW_len (by decide) encW_one (x := fun _ => True) Try.underlying65 infoWk rfl (by decide) rfl _ _ rfl rfl 0 (.slice ao 0 cap) [] rfl (ownK_alloc (ownK_alloc h2 _) _) (.slice (some ⟨W.heap.size + 1, 0, none⟩) 1 1) [W.heap.size] (by simp) rfl (RK.oneN (enc := encW) W.heap.size tWk _ _ (by simp) _ rfl) (by simp) (Nat.zero_le _) ?_
     intro g cp w1 ho1 hg1 hl1
     simp only [List.nil_append, List.length_singleton] at ho1
     obtain ⟨E2, B2, hgg, hXg, hKK⟩ := drun_made hg1 hl1 e1 o1 nb
     obtain ⟨s2, hw2, _⟩ := E2.ex
     obtain ⟨_, _, _, _, _, q62, f62⟩ := hw2.due.cells
     have d3 := B2.cell (i := 0) rfl
     have hne : ¬ W.heap.size = X := fun e => by omega
     have hUL := drun_begin E2 ho1 B2 hgg hXg hKK h2 hba ⟨hg1.os.symm, hg1.tape.symm, hg1.output.symm, Nat.le_trans (by simp) hg1.size⟩ (Nat.le_refl _) h3 hO h5 h8 fX fM fR fs fd fh fg fB fdb fm ff fb'
     have y2 : Blk w1 yb [.func (.yield l) #[] #[]] 27 := y1.kept (hKK yb y1.lt (fun e => by
       obtain ⟨d, hd⟩ := own_blk' o1 e
       exact y1.ne hd (by decide) rfl))))
  obtain ⟨t3, hU⟩ := hUL
  rw [hT0] at hU
  have d4 := (B2.other hne 7 (.slice (some ⟨g, 0, none⟩) 1 cp)).cell (i := 0) rfl
  have y3 := y2.other (B := yb) (show yb ≠ X from fun e => by
    obtain ⟨bx, ht, _⟩ := hw2.due.ex
    exact y2.ne ht.box (by decide) e) 7 (.slice (some ⟨g, 0, none⟩) 1 cp)
  have hUx : UDx X E most N W.heap.size yb l none T0 _ _ := ⟨hU, fun k e => (by cases e), y3, .inl fy⟩
  clear hKK hne d3 f62 q62 hgg hXg B2 E2 hl1 hg1 ho1 o1 e1 q6' hba nb q6 qf h8 h5 h1 h2 h3 hU y1 y2 y3 hyb hw0 hw1 hw2 hO hT0
  generalize w1.setCell ⟨X, 7, none⟩ (.slice (some ⟨g, 0, none⟩) 1 cp) = W3 at *
  have hC3 := HC.out _ _ _ _ _ H0.out (mvW (s := (f, N)) t3)
  generalize hxb : W.heap.size = xb at *
  have hW0 : UW X most xb yb l none T0 (grow f W W3, N) W3 := .inl ⟨E, hUx⟩
  rcases uw_next hW0 hN with ⟨lb', cb', ab', c1, c2⟩ | ⟨lb', c1, _⟩
  case inr =>
    rw [d4] at c1
    unfold nfC at c1
    simp at c1
  have hnf : nfD lb' cb' ab' = nfD B fb db := by
    rw [d4] at c1
    exact (Option.some.inj c1).symm
  unfold nfD at hnf
  simp at hnf
  obtain ⟨rfl, rfl, rfl⟩ := hnf
  clear c1 d4
  refine ⟨trivial, ?_⟩
  refine (callsIn_wide.2 c2).mono ?_
  rintro e w2 ⟨x0, ok0, R0, rfl, t0, hU0, hor0⟩
  clear c2
  have hC2 := HC.out _ _ _ _ _ hC3 (mvW t0)
  have hb2 : Below w2.heap.size w2 (w2.alloc (.cells #[.int .i64 x0.1, .int .i64 x0.2] tTm)) := (Below.refl _ _).alloc (Nat.le_refl _) _
  have hH : ∃ n, HeadW X T0 most xb yb l C n (.pointer (some ⟨w2.heap.size, 0, none⟩)) (.bool ok0) (w2.alloc (.cells #[.int .i64 x0.1, .int .i64 x0.2] tTm)) := by
    have hU2 := hU0.boxed x0
    have hC4 := HC.out _ _ _ _ _ hC2 (mvW (Trn.of_below (f := grow (grow f W W3) W3 w2) hb2))
    have nb := Blk.new w2 [.int .i64 x0.1, .int .i64 x0.2] tTm
    rcases hor0 with ⟨rfl, e1⟩ | ⟨rfl, e1, rfl⟩
    · exact ⟨_, x0, true, _, [], _, R0, rfl, rfl, hC4, hN, hU2, nb, .inl ⟨rfl, by rw [e1]; rfl, rfl⟩⟩
    · exact ⟨_, x0, false, _, [], _, [], rfl, rfl, hC4, hN, hU2, nb, .inr ⟨rfl, e1.symm, rfl, rfl⟩⟩
  have HH := Lib.hid hH
  clear hH hC2 hU0 hor0 t0 hb2
  gi_wp2_with fail
  gi_loopw [7, 8] (fun v ok wr => ∃ n, HeadW X T0 most xb yb l C n v ok wr) (fun v ok wr => leastOf (fun n => HeadW X T0 most xb yb l C n v ok wr))
  case atStart => exact HH.out
  case round =>
    clear HH hUx hC3 H0 t3 hW0
    obtain ⟨hR1, hmin⟩ := leastOf_spec hrel
    obtain ⟨x, okb, vb, pre, s1, R, rfl, rfl, hc, hs1, hU1, hvb, ⟨rfl, hT, hn⟩ | ⟨rfl, hT, rfl, hn⟩⟩ := hR1
    · have HN := Lib.hid hn
      have d0 := hvb.cell (i := 0) rfl
      have d1 := hvb.cell (i := 1) rfl
      clear hn hmin hrel
      have hT2 : (pre ++ [x]) ++ R = T0 := by rw [List.append_assoc]; exact hT
      have HT2 := Lib.hid hT2
      have hpre : pre ++ [x] <+: T0 := ⟨R, hT2⟩
      have htl := dtellW hm hU1 hc (fun s s' W W' h h' => HC.out pre s s' W W' h h') (fun s W1 he hu hc => HY.out xb (some vb) pre x R s W1 hT hu (by rw [he]; exact hs1) hc) (fun e W' h => h.elim (fun h => ⟨true, h.1⟩) (fun h => ⟨false, h.1⟩))
      unfold encT at htl
      have HTL := Lib.hid htl
      clear hT2 hT hU1 hc htl hs1
      gi_wp2_with fail
      refine ⟨trivial, ?_⟩
      refine (callsIn_wide.2 (callsIn_wide.1 HTL.out)).mono ?_
      intro e W4 hor
      rcases hor with ⟨rfl, s', ⟨hU', hs'⟩, hC'⟩ | ⟨rfl, s', ⟨hU', hs'⟩, hC'⟩
      · have step : ∀ e w5, NextW X most xb yb l (some vb) R s' W4 e w5 → ∃ (x5 : Int × Int) (ok5 : Bool), e = .returned (.tuple #[.agg #[.int .i64 x5.1, .int .i64 x5.2], .bool ok5]) ∧ (∃ a b, Blk w5 vb [.int .i64 a, .int .i64 b] tTm) ∧ ∃ n, n ≤ R.length ∧
            HeadW X T0 most xb yb l C n (.pointer (some ⟨w5.heap.size, 0, none⟩)) (.bool ok5) (((w5.setCell ⟨vb, 0, none⟩ (.int .i64 x5.1)).setCell ⟨vb, 1, none⟩ (.int .i64 x5.2)).alloc (.cells #[.int .i64 x5.1, .int .i64 x5.2] tTm)) := by
          rintro e w5 ⟨x5, ok5, R5, rfl, t5, hU5, hor5⟩
          have hC5 := HC.out _ _ _ _ _ hC' (mvW t5)
          have hv5 : ∃ a b, Blk w5 vb [.int .i64 a, .int .i64 b] tTm := by
            rcases hU5 with ⟨E5, h5⟩ | ⟨E5, h5, p5⟩
            · exact (h5.v vb rfl).1
            · exact (p5.v vb rfl).1
          obtain ⟨hU6, t6⟩ := hU5.store x5
          have hC6 := HC.out _ _ _ _ _ hC5 (mvW (s := (grow s'.1 W4 w5, s'.2)) t6)
          have hU7 := hU6.boxed x5
          have hz : ((w5.setCell ⟨vb, 0, none⟩ (.int .i64 x5.1)).setCell ⟨vb, 1, none⟩ (.int .i64 x5.2)).heap.size = w5.heap.size := by simp
          have hC7 := HC.out _ _ _ _ _ hC6 (mvW (s := (grow (grow s'.1 W4 w5) w5 _, s'.2)) (Trn.of_below ((Below.refl _ ((w5.setCell ⟨vb, 0, none⟩ (.int .i64 x5.1)).setCell ⟨vb, 1, none⟩ (.int .i64 x5.2))).alloc (Nat.le_refl _) (.cells #[.int .i64 x5.1, .int .i64 x5.2] tTm))))
          have nb := Blk.new ((w5.setCell ⟨vb, 0, none⟩ (.int .i64 x5.1)).setCell ⟨vb, 1, none⟩ (.int .i64 x5.2)) [.int .i64 x5.1, .int .i64 x5.2] tTm
          rw [hz] at hU7 nb
          refine ⟨x5, ok5, rfl, hv5, ?_⟩
          rcases hor5 with ⟨rfl, e1⟩ | ⟨rfl, e1, rfl⟩
          · exact ⟨R5.length + 1, by rw [e1]; simp, x5, true, _, pre ++ [x], _, R5, rfl, rfl, hC7, hs', hU7, nb, .inl ⟨rfl, by rw [← HT2.out, e1], rfl⟩⟩
          · exact ⟨0, Nat.zero_le _, x5, false, _, pre ++ [x], _, [], rfl, rfl, hC7, hs', hU7, nb, .inr ⟨rfl, by rw [← HT2.out, e1, List.append_nil], rfl, rfl⟩⟩
        have HST := Lib.hid step
        have hnx := uw_next hU' hs'
        clear d0 d1 hvb hU' hC' step hs'
        rcases hnx with ⟨B2, fb2, db2, c1, c2⟩ | ⟨lb2, c1, c2⟩
        · unfold nfD at c1
          gi_wp2_with fail
          refine ⟨trivial, ?_⟩
          refine (callsIn_wide.2 c2).mono ?_
          clear c1 c2
          intro e w5 hq
          obtain ⟨x5, ok5, rfl, ⟨a5, b5, v5⟩, hfin⟩ := HST.out e w5 hq
          clear hq
          have HF := Lib.hid hfin
          have HN2 := HN.out
          have j0 := v5.cell (i := 0) rfl
          have j1 := v5.cell (i := 1) rfl
          have jf := v5.frozen
          have k0 := (v5.set 0 (.int .i64 x5.1)).set 1 (.int .i64 x5.2)
          have k1 := k0.cell (i := 0) rfl
          have k2 := k0.cell (i := 1) rfl
          clear hfin
          gi_wp2_with fail
          go_roundw
          case rel =>
            obtain ⟨n, _, h6⟩ := HF.out
            exact ⟨n, h6⟩
          case measure =>
            obtain ⟨n, hn, h6⟩ := HF.out
            have h5 := (leastOf_spec (p := fun n => HeadW X T0 most xb yb l C n (.pointer (some ⟨w5.heap.size, 0, none⟩)) (.bool ok5) (((w5.setCell ⟨vb, 0, none⟩ (.int .i64 x5.1)).setCell ⟨vb, 1, none⟩ (.int .i64 x5.2)).alloc (.cells #[.int .i64 x5.1, .int .i64 x5.2] tTm))) ⟨n, h6⟩).2 _ h6
            rw [HN2]
            exact Nat.lt_succ_of_le (Nat.le_trans h5 hn)
        · unfold nfC at c1
          gi_wp2_with fail
          refine ⟨trivial, ?_⟩
          refine (callsIn_wide.2 c2).mono ?_
          clear c1 c2
          intro e w5 hq
          obtain ⟨x5, ok5, rfl, ⟨a5, b5, v5⟩, hfin⟩ := HST.out e w5 hq
          clear hq
          have HF := Lib.hid hfin
          have HN2 := HN.out
          have j0 := v5.cell (i := 0) rfl
          have j1 := v5.cell (i := 1) rfl
          have jf := v5.frozen
          have k0 := (v5.set 0 (.int .i64 x5.1)).set 1 (.int .i64 x5.2)
          have k1 := k0.cell (i := 0) rfl
          have k2 := k0.cell (i := 1) rfl
          clear hfin
          gi_wp2_with fail
          go_roundw
          case rel =>
            obtain ⟨n, _, h6⟩ := HF.out
            exact ⟨n, h6⟩
          case measure =>
            obtain ⟨n, hn, h6⟩ := HF.out
            have h5 := (leastOf_spec (p := fun n => HeadW X T0 most xb yb l C n (.pointer (some ⟨w5.heap.size, 0, none⟩)) (.bool ok5) (((w5.setCell ⟨vb, 0, none⟩ (.int .i64 x5.1)).setCell ⟨vb, 1, none⟩ (.int .i64 x5.2)).alloc (.cells #[.int .i64 x5.1, .int .i64 x5.2] tTm))) ⟨n, h6⟩).2 _ h6
            rw [HN2]
            exact Nat.lt_succ_of_le (Nat.le_trans h5 hn)
      · clear d0 d1 hvb
        gi_wp2_with fail
        refine leavesIn_cons (fv := .func 72) (cap := #[]) (dargs := #[.pointer (some ⟨X, 7, none⟩), .pointer (some ⟨xb, 0, none⟩)]) (f := 72) (args := #[.pointer (some ⟨X, 7, none⟩), .pointer (some ⟨xb, 0, none⟩)]) (by simp) (fun e => by cases e) (by simp [go_sem]) (fun _ _ => trivial) ?_
        refine (uw_end hU').mono ?_
        rintro e u' w6 ⟨rfl, rfl, t6, E6, hV⟩
        exact ⟨_, results_none rfl _ _ _, ⟨_, rfl⟩, (grow s'.1 W4 w6, s'.2), ⟨E6, hV⟩, .inr ⟨_, hpre, HCx.out _ _ _ _ _ hC' (mvW t6)⟩⟩
    · have HC1 := Lib.hid hc
      have HU1 := Lib.hid hU1
      clear hc hn hmin hrel hU1 hs1 hvb
      have HT := Lib.hid hT
      clear hT
      gi_wp2_with fail
      first
        | (refine leavesIn_cons (fv := .func 72) (cap := #[]) (dargs := #[.pointer (some ⟨X, 7, none⟩), .pointer (some ⟨xb, 0, none⟩)]) (f := 72) (args := #[.pointer (some ⟨X, 7, none⟩), .pointer (some ⟨xb, 0, none⟩)]) (by simp) (fun e => by cases e) (by simp [go_sem]) (fun _ _ => trivial) ?_)
        | (refine ⟨(fun _ e => by cases e), ?_⟩
           gi_wp2_with fail
           refine leavesIn_cons (fv := .func 72) (cap := #[]) (dargs := #[.pointer (some ⟨X, 7, none⟩), .pointer (some ⟨xb, 0, none⟩)]) (f := 72) (args := #[.pointer (some ⟨X, 7, none⟩), .pointer (some ⟨xb, 0, none⟩)]) (by simp) (fun e => by cases e) (by simp [go_sem]) (fun _ _ => trivial) ?_)
      refine (uw_end HU1.out).mono ?_
      rintro e u' w6 ⟨rfl, rfl, t6, E6, hV⟩
      refine ⟨_, results_none rfl _ _ _, ⟨_, rfl⟩, (grow s1.1 _ w6, s1.2), ⟨E6, hV⟩, .inl ?_⟩
      have h7 := HC.out _ _ _ _ _ HC1.out (mvW t6)
      rw [HT.out] at h7
      exact h7
end
end Go.Proofs.Ytchlemajppnehaa

/- Who is by then, in order: the mathematics. -/
set_option maxRecDepth 100000
namespace Go.Proofs.Ytchlemajppnehaa
namespace Du
open Tb Lr
/-- One goes behind those that are no later. -/
def insE (x : Int × Int) : List (Int × Int) → List (Int × Int)
  | [] => [x]
  | y :: l => if x.2 < y.2 then x :: y :: l else y :: insE x l
def uptoE (most : Int) : List (Int × Int) → List (Int × Int) → List (Int × Int)
  | [], acc => acc
  | x :: l, acc => uptoE most l (if x.2 ≤ most then insE x acc else acc)
def insI (S : St) (x : Nat) : List Nat → List Nat
  | [] => [x]
  | y :: l => if (rat S.T.rows x).a < (rat S.T.rows y).a then x :: y :: l else y :: insI S x l
variable {S : St} {most : Int} {o T : List Nat} {N : Nat}
theorem insI_map (x : Nat) : ∀ l : List Nat, (insI S x l).map (ent S) = insE (ent S x) (l.map (ent S))
  | [] => rfl
  | y :: l => by
    unfold insI
    show _ = if (rat S.T.rows x).a < (rat S.T.rows y).a then _ else _
    split
    · rfl
    · rw [List.map_cons, insI_map x l]
theorem insI_mem (x v : Nat) : ∀ l : List Nat, v ∈ insI S x l ↔ v = x ∨ v ∈ l
  | [] => by simp [insI]
  | y :: l => by
    unfold insI
    split
    · simp
    · rw [List.mem_cons, insI_mem x v l, List.mem_cons]
      constructor
      · rintro (e | e | e)
        · exact .inr (.inl e)
        · exact .inl e
        · exact .inr (.inr e)
      · rintro (e | e | e)
        · exact .inr (.inl e)
        · exact .inl e
        · exact .inr (.inr e)
theorem insI_lt (x : Nat) : ∀ l : List Nat, l.Pairwise (fun i j => lt S.T.rows i j = true) → (∀ y ∈ l, (rat S.T.rows y).b < (rat S.T.rows x).b) → (insI S x l).Pairwise (fun i j => lt S.T.rows i j = true)
  | [], _, _ => List.pairwise_singleton _ _
  | y :: l, h, hb => by
    obtain ⟨h1, h2⟩ := List.pairwise_cons.1 h
    unfold insI
    split
    · rename_i hlt
      refine List.pairwise_cons.2 ⟨fun z hz => ?_, h⟩
      rw [lt_iff]
      rcases List.mem_cons.1 hz with rfl | hz
      · exact .inl hlt
      · have := h1 z hz
        rw [lt_iff] at this
        left; omega
    · rename_i hle
      refine List.pairwise_cons.2 ⟨fun z hz => ?_, insI_lt x l h2 (fun y hy => hb y (List.mem_cons_of_mem _ hy))⟩
      rcases (insI_mem x z l).1 hz with rfl | hz
      · rw [lt_iff]
        have := hb y (List.mem_cons_self ..)
        omega
      · exact h1 z hz
theorem sorted : ∀ (l acc pre : List Nat), (pre ++ l).Pairwise (fun i j => (rat S.T.rows i).b < (rat S.T.rows j).b) → (∀ i, i ∈ acc ↔ i ∈ pre ∧ (rat S.T.rows i).a ≤ most) → acc.Pairwise (fun i j => lt S.T.rows i j = true) →
    ∃ T, Ordered S most (pre ++ l) T ∧ T.map (ent S) = uptoE most (l.map (ent S)) (acc.map (ent S))
  | [], acc, pre, _, hm, hp => ⟨acc, ⟨by rw [List.append_nil]; exact hm, hp⟩, rfl⟩
  | x :: l, acc, pre, hb, hm, hp => by
    have hb2 : ((pre ++ [x]) ++ l).Pairwise (fun i j => (rat S.T.rows i).b < (rat S.T.rows j).b) := by rw [List.append_assoc]; exact hb
    have hx : ∀ y ∈ pre, (rat S.T.rows y).b < (rat S.T.rows x).b := fun y hy => (List.pairwise_append.1 hb).2.2 y hy x (List.mem_cons_self ..)
    by_cases ha : (rat S.T.rows x).a ≤ most
    · obtain ⟨T, h1, h2⟩ := sorted l (insI S x acc) (pre ++ [x]) hb2 (fun i => by
        rw [insI_mem, hm i, List.mem_append, List.mem_singleton]
        constructor
        · rintro (rfl | ⟨e1, e2⟩)
          · exact ⟨.inr rfl, ha⟩
          · exact ⟨.inl e1, e2⟩
        · rintro ⟨e1 | e1, e2⟩
          · exact .inr ⟨e1, e2⟩
          · exact .inl e1) (insI_lt x acc hp (fun y hy => hx y ((hm y).1 hy).1))
      refine ⟨T, by rw [List.append_assoc] at h1; exact h1, ?_⟩
      rw [h2, insI_map, List.map_cons]
      show _ = uptoE most (l.map (ent S)) (if (rat S.T.rows x).a ≤ most then _ else _)
      rw [if_pos ha]
    · obtain ⟨T, h1, h2⟩ := sorted l acc (pre ++ [x]) hb2 (fun i => by
        rw [hm i, List.mem_append, List.mem_singleton]
        constructor
        · rintro ⟨e1, e2⟩
          exact ⟨.inl e1, e2⟩
        · rintro ⟨e1 | e1, e2⟩
          · exact ⟨e1, e2⟩
          · exact absurd (e1 ▸ e2) ha) hp
      refine ⟨T, by rw [List.append_assoc] at h1; exact h1, ?_⟩
      rw [h2, List.map_cons]
      show _ = uptoE most (l.map (ent S)) (if (rat S.T.rows x).a ≤ most then _ else _)
      rw [if_neg ha]
theorem InvD.sorted (h : InvD S o N) (most : Int) : ∃ T, Ordered S most o T ∧ T.map (ent S) = uptoE most (o.map (ent S)) [] :=
  Du.sorted o [] [] h.turn (fun i => ⟨fun e => (by cases e), fun e => (by cases e.1)⟩) List.Pairwise.nil
end Du
end Go.Proofs.Ytchlemajppnehaa

/- Who is by then, told to a loop. -/
set_option maxRecDepth 100000
namespace Go.Proofs.Ytchlemajppnehaa
open Go Go.RowKit Go.Shelf Go.Maps
theorem qDueN (w : World) (a : Addr) : (binOp .neq 33 (.pointer (some a)) (.pointer none)).run Try.prog w = .ok (.bool true) w := by kernel_rfl
section
variable {X : Nat} {E : List (Int × Int)} {most : Int} {N m l ob mo : Nat} {f : Nat → Prop} {w WW : World}
theorem dupto_any (X : Nat) (most : Int) (w : World) :
    Calls Try.prog 25 #[.pointer (some ⟨X, 0, none⟩), .int .i64 most] w fun e w' => e = .returned (.func (.func 51) #[] #[.pointer (some ⟨w.heap.size, 0, none⟩), .pointer (some ⟨w.heap.size + 1, 0, none⟩)]) ∧ w' = (w.alloc (.cells #[.pointer (some ⟨X, 0, none⟩)] 33)).alloc (.cells #[.int .i64 most] 3) := by
  go_enter Try.func25, Try.ntmps25
  go_wp2
  go_ret
  exact ⟨rfl, rfl⟩
set_option maxHeartbeats 4000000 in
theorem dupto_seq (hm : 1 ≤ m) (hN : N < 80000) (hmo : I64 most) (hVV : DV X E N f WW) (hB : Blk WW ob [.pointer (some ⟨X, 0, none⟩)] 33) (hMB : Blk WW mo [.int .i64 most] 3)
    (C Cx : List (Int × Int) → (Nat → Prop) → World → Prop) (hC : ∀ pre s s' W W', C pre s W → MvL s W s' W' → C pre s' W') (hCx : ∀ pre s s' W W', Cx pre s W → MvL s W s' W' → Cx pre s' W') (h0 : C [] f WW)
    (hY : ∀ xb vb pre x R s W1, pre ++ x :: R = Du.uptoE most E [] → UDx X E most N xb WW.heap.size l vb R s W1 → C pre s W1 → YieldAt Fence.wide (m - 1) Try.prog l (encP x) W1 fun e W' =>
      (e = .returned (.bool true) ∧ ∃ s', UDx X E most N xb WW.heap.size l vb R s' W' ∧ C (pre ++ [x]) s' W') ∨ (e = .returned (.bool false) ∧ ∃ s', UDx X E most N xb WW.heap.size l vb R s' W' ∧ Cx (pre ++ [x]) s' W')) :
    CallsIn Fence.wide m Try.prog 51 #[.func (.yield l) #[] #[], .pointer (some ⟨ob, 0, none⟩), .pointer (some ⟨mo, 0, none⟩)] WW fun e W' => (∃ v, e = .returned v) ∧ ∃ s, DV X E N s W' ∧ (C (Du.uptoE most E []) s W' ∨ ∃ pre, pre <+: Du.uptoE most E [] ∧ Cx pre s W') := by
  obtain ⟨S, L, hv, wv, o, h1, h2, h3, h4, h5, h6, h7, h8, h9, h10⟩ := hVV.ex
  have q1 := qDueN
  refine callsIn_wide.2 ?_
  obtain ⟨ao, cap, hwv, _⟩ := ownK_form h5
  have hwv : wv = .slice ao 0 cap := hwv
  subst hwv
  have hb0 : Below WW.heap.size WW (WW.alloc (.cells #[.func (.yield l) #[] #[]] 27)) := (Below.refl _ _).alloc (Nat.le_refl _) _
  have y0 := Blk.new WW [.func (.yield l) #[] #[]] 27
  have k0 := (hB.kept (hb0.block _ hB.lt)).cell (i := 0) rfl
  have k2 := (hMB.kept (hb0.block _ hMB.lt)).cell (i := 0) rfl
  have h1a := h1.below hb0
  have h5a := ownK_below h5 hb0
  have hsz : (WW.alloc (.cells #[.func (.yield l) #[] #[]] 27)).heap.size = WW.heap.size + 1 := by simp
  go_enter Try.func51, Try.ntmps51
  go_wp2
  generalize WW.alloc (.cells #[.func (.yield l) #[] #[]] 27) = W0 at *
  have HY := Lib.hid hY
  have HC := Lib.hid hC
  have HCx := Lib.hid hCx
  have H0 := Lib.hid h0
  have HE := Lib.hid h3
  have HB0 := Lib.hid hb0
  have HYB : Hid (Blk W0.drew WW.heap.size [.func (.yield l) #[] #[]] 27) := Lib.hid (y0.drew 1)
  have HYL := Lib.hid (Nat.le_refl WW.heap.size)
  clear hY hC hCx h0 h3 hb0
  have H1 := Lib.hid (h1a.same (w' := W0.drew) rfl)
  have HO : Hid (OwnK encW 1 tWk 0 (.slice ao 0 cap) [] W0.drew) := Lib.hid h5a
  have K0 : Hid (W0.drew.cell? ⟨ob, 0, none⟩ = some (.pointer (some ⟨X, 0, none⟩))) := Lib.hid k0
  have K2 : Hid (W0.drew.cell? ⟨mo, 0, none⟩ = some (.int .i64 most)) := Lib.hid k2
  clear h1 h5 k0 k2 q1 h1a h5a y0
  generalize hyb : WW.heap.size = yb at *
  refine wp_region_slotsTL (by simp) slotLe (slotPhi ((fun v _ => v = ?o6) :: (fun v _ => v = ?o7) :: (fun v _ => v = ?o8) :: (fun v _ => v = ?o9) :: (fun v _ => v = ?o10) :: (fun v W' => ∃ B db mb fb u, v = nfD B fb db ∧ (∀ T, WalkE X B db mb fb S L most T (.slice ao 0 cap) hv u 0 W') ∧ W0.drew.heap.size ≤ B ∧ W0.drew.heap.size ≤ db ∧ W0.drew.heap.size ≤ mb ∧ W0.drew.heap.size ≤ fb ∧ (∀ b, u.ownBlock = some b → W0.drew.heap.size ≤ b)) :: (fun v _ => v = ?o12) :: [])) slotLe_refl slotLe_trans (slotPhi_stable ?stb) (by kernel_rfl) (by kernel_rfl) (by kernel_rfl) (by kernel_rfl) (by kernel_rfl) ?steps ?fin
  case stb =>
    refine ⟨by intro _ _ _ _ h; exact h, ?_⟩
    refine ⟨by intro _ _ _ _ h; exact h, ?_⟩
    refine ⟨by intro _ _ _ _ h; exact h, ?_⟩
    refine ⟨by intro _ _ _ _ h; exact h, ?_⟩
    refine ⟨by intro _ _ _ _ h; exact h, ?_⟩
    refine ⟨by rintro v x y h ⟨B, db, mb, fb, u, e, s, g⟩; exact ⟨B, db, mb, fb, u, e, fun T => (s T).below h, g⟩, ?_⟩
    refine ⟨by intro _ _ _ _ h; exact h, ?_⟩
    exact trivial
  case steps =>
    refine ⟨?_, ?_⟩
    · intro a W K N hK
      have e1 : a.tmps[1]?.getD undef = .pointer (some ⟨ob, 0, none⟩) := N.was' 1 _ (by kernel_rfl) rfl
      rw [if_pos (wanted_no rfl)]
      have z := keep_cell N.le K0.out
      go_simp
      refine hK _ _ (slotLe_refl _) ?_
      exact rfl
    refine ⟨?_, ?_⟩
    · intro a W K N hK
      have e6 : a.tmps[6]?.getD undef = _ := N.dep' 0 6 (by kernel_rfl)
      rw [if_pos (wanted_no rfl)]
      go_simp
      refine hK _ _ (slotLe_refl _) ?_
      exact rfl
    refine ⟨?_, ?_⟩
    · intro a W K N hK
      have e7 : a.tmps[7]?.getD undef = _ := N.dep' 1 7 (by kernel_rfl)
      rw [if_pos (wanted_no rfl)]
      go_simp
      refine hK _ _ (slotLe_refl _) ?_
      exact rfl
    refine ⟨?_, ?_⟩
    · intro a W K N hK
      have e1 : a.tmps[1]?.getD undef = .pointer (some ⟨ob, 0, none⟩) := N.was' 1 _ (by kernel_rfl) rfl
      rw [if_pos (wanted_no rfl)]
      have z := keep_cell N.le K0.out
      go_simp
      refine hK _ _ (slotLe_refl _) ?_
      exact rfl
    refine ⟨?_, ?_⟩
    · intro a W K N hK
      have e2 : a.tmps[2]?.getD undef = .pointer (some ⟨mo, 0, none⟩) := N.was' 2 _ (by kernel_rfl) rfl
      rw [if_pos (wanted_no rfl)]
      have z := keep_cell N.le K2.out
      go_simp
      refine hK _ _ (slotLe_refl _) ?_
      exact rfl
    refine ⟨?_, ?_⟩
    · intro a W K N hK
      have e9 : a.tmps[9]?.getD undef = _ := N.dep' 3 9 (by kernel_rfl)
      have e10 : a.tmps[10]?.getD undef = _ := N.dep' 4 10 (by kernel_rfl)
      rw [if_pos (wanted_no rfl)]
      have hl := H1.out.below N.le
      have hs := N.le.size
      go_simp
      go_at_call 53
      refine (dsteps_any hl h2 hN hmo).mono ?_
      rintro e w2 ⟨B, db, mb, fb, u, rfl, s2, b2, g1, g2, g3, g4, g5⟩
      go_simp
      refine hK _ _ b2 ?_
      exact ⟨B, db, mb, fb, u, rfl, s2, Nat.le_trans hs g1, Nat.le_trans hs g2, Nat.le_trans hs g3, Nat.le_trans hs g4, fun b e => Nat.le_trans hs (g5 b e)⟩
    refine ⟨?_, ?_⟩
    · intro a W K N hK
      have e3 : a.tmps[3]?.getD undef = .pointer (some ⟨yb, 0, none⟩) := N.was' 3 _ (by kernel_rfl) rfl
      rw [if_pos (wanted_no rfl)]
      go_simp
      refine hK _ _ (slotLe_refl _) ?_
      exact rfl
    exact trivial
  case fin =>
    intro V hV
    simp only [FinAll, slotPhi, List.dropLast, List.getLast_cons_cons, List.getLast_singleton, List.getD_cons_zero, List.getD_cons_succ, forall_eq, Act.put, List.setIfInBounds_toArray, List.set_cons_zero, List.set_cons_succ]
    intro v11 h11
    obtain ⟨B, db, mb, fb, u, rfl, s2, g1, g2, g3, g4, g5⟩ := h11
    have hb : Below W0.heap.size W0 V := (show Below W0.heap.size W0 W0.drew from ⟨rfl, rfl, rfl, Nat.le_refl _, fun _ _ => rfl⟩).trans hV
    have hB0' : Below WW.heap.size WW W0 := by rw [hyb]; exact HB0.out
    have hbw : Below WW.heap.size WW V := hB0'.trans (hb.mono hB0'.size)
    have hzz : WW.heap.size ≤ W0.heap.size := hB0'.size
    have tr : Trn f WW V := Trn.of_below hbw
    have gs : ∀ b, W0.heap.size ≤ b → b < V.heap.size → grow f WW V b := fun b h1 h2 => .inr ⟨by omega, h2⟩
    obtain ⟨T, hO, hT⟩ := h2.sorted most
    obtain ⟨s3, hw3, _⟩ := (s2 T).ex
    have hC3 := HC.out _ _ _ _ _ H0.out (mvL tr)
    have yV := HYB.out.kept (hV.block _ HYB.out.lt)
    have hrun := drun_in (m := m) (l := l) (yb := yb) (E := E) hm hN (f := grow f WW V) (s2 T) (ownK_below (enc := encW) HO.out hV) h2 hO HE.out h4 yV (.inr ⟨Nat.le_of_eq hyb, yV.lt⟩) (.inl hVV.fX) (.inl h6) (.inl h7) (fun b e => .inl (h8 b e)) (fun b e => .inl (h9 b e)) (fun b e => by obtain ⟨c, hc⟩ := own_blk' hw3.heap e; exact gs _ (g5 b e) hc.lt) (fun b e => .inl (h10 b e)) (gs _ g1 hw3.box.lt) (gs _ g2 hw3.dbx.lt) (gs _ g3 (s2 T).mbx.lt) (gs _ g4 (s2 T).fbx.lt) (fun k e => e.elim (fun e => Nat.lt_of_lt_of_le (hVV.fb k e) hbw.size) (fun e => e.2)) C Cx HC.out HCx.out hC3 (by rw [hT, ← HE.out]; exact HY.out)
    rw [hT, ← HE.out] at hrun
    unfold nfD at hrun ⊢
    go_wp2_with fail
    refine (callsIn_wide.1 hrun).mono ?_
    rintro e w' ⟨⟨v, rfl⟩, s, hV', hC'⟩
    go_wp2
    go_end0
    exact ⟨⟨_, rfl⟩, s, hV', hC'⟩
end
end Go.Proofs.Ytchlemajppnehaa
