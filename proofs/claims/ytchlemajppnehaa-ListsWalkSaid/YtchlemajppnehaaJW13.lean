/- 3 texts put together: HpbD, HpdD, Dua. -/
import Derived.Test.YtchlemajppnehaaJW8
import Derived.Test.YtchlemajppnehaaJW11
import Derived.Test.YtchlemajppnehaaJW12
/- The heap's own functions: next, rise, sink (D). -/
set_option maxRecDepth 100000
namespace Go.Proofs.Ytchlemajppnehaa
open Go Go.RowKit Go.Shelf Go.Maps
section
variable {X : Nat} {S : Du.St} {L : TL} {hv wv : Value} {s : Hp.Sp} {w w' : World}
set_option maxHeartbeats 4000000 in
theorem hnext_D (h : HD X S L wv hv s w) {p : Nat} (hp : 0 < s.l.length) (hpp : p < 100000) (hl : ∀ y ∈ s.l, (fun y => y < S.T.rows.length) y) (hlen : s.l.length < 100000) :
    Calls Try.prog 87 #[.pointer (some ⟨X, 4, none⟩), .int .i64 (p : Int)] w fun e w' => e = .returned (.tuple #[.int .i64 ((Hp.next (Du.lt S.T.rows) s p).1 : Int), .bool (Hp.next (Du.lt S.T.rows) s p).2]) ∧ ∃ n, w' = w.drewN n := by
  obtain ⟨G, cap, hhv, hcap, hc⟩ := own_pos (show OwnK encI1 1 3 0 hv s.l w from h.due.heap) hp
  subst hhv
  obtain ⟨c4, c5⟩ := h.cells
  have H := Lib.hid h
  have okp := fun (i : Nat) (hi : i < s.l.length) => hl s.l[i] (List.getElem_mem hi)
  have hb := below_any p w (by omega)
  obtain ⟨o1, ho1⟩ : ∃ o1, o1 = 2 * p + 1 := ⟨_, rfl⟩
  have hn0 : Hp.next (Du.lt S.T.rows) s p = if o1 + 1 < s.l.length ∧ (Du.lt S.T.rows) (s.at_ (o1 + 1)) (s.at_ o1) = true then (o1 + 1, true) else (o1, decide (o1 < s.l.length)) := by subst ho1; rfl
  rw [← ho1] at hb
  have hob : o1 < 300000 := by omega
  have HO := Lib.hid ho1
  clear ho1 hpp
  by_cases h2 : o1 + 1 < s.l.length
  · have c2 := hc (o1 + 1) h2
    have c1 := hc o1 (by omega)
    have ha := fun n => hahead_D H.out (okp _ h2) (okp o1 (by omega)) n
    rw [at_get h2, at_get (show o1 < s.l.length by omega)] at hn0
    have d3 : decide (o1 < s.l.length) = true := by simp; omega
    rw [d3] at hn0
    have d1 : decide ((o1 : Int) + 1 < (s.l.length : Int)) = true := by simp; omega
    have d2 : decide ((o1 : Int) < (s.l.length : Int)) = true := by simp; omega
    generalize s.l[o1 + 1] = y2 at *
    generalize s.l[o1] = y1 at *
    cases hlt : (Du.lt S.T.rows) y2 y1 with
    | true =>
      rw [hlt] at ha
      rw [if_pos ⟨h2, hlt⟩] at hn0
      rw [hn0]
      clear hlt hn0 hc okp d3
      go_enter Try.func87, Try.ntmps87
      go_wp2_with (go_at_call 76; refine hb.mono ?_; rintro e w1 ⟨rfl, rfl⟩)
      go_quiet ((go_at_call 42; exact ha _))
      go_wp2
      go_ret2
      exact ⟨rfl, _, rfl⟩
    | false =>
      rw [hlt] at ha
      rw [if_neg (fun e => by rw [hlt] at e; cases e.2)] at hn0
      rw [hn0]
      clear hlt hn0 hc okp
      go_enter Try.func87, Try.ntmps87
      go_wp2_with (go_at_call 76; refine hb.mono ?_; rintro e w1 ⟨rfl, rfl⟩)
      go_quiet ((go_at_call 42; exact ha _))
      go_wp2
      go_quiet (fail)
      go_wp2
      go_ret2
      exact ⟨rfl, _, World.drewN_drewN _ _ _⟩
  · rw [if_neg (fun e => h2 e.1)] at hn0
    rw [hn0]
    have d1 : decide ((o1 : Int) + 1 < (s.l.length : Int)) = false := by simp; omega
    have d2 : decide ((o1 : Int) < (s.l.length : Int)) = decide (o1 < s.l.length) := by simp
    have D2 := Lib.hid d2
    clear d2 hn0 hc okp
    by_cases h3 : o1 < s.l.length
    · have d3 : decide ((o1 : Int) < (s.l.length : Int)) = true := by simp; omega
      rw [show decide (o1 < s.l.length) = true by simp; omega]
      go_enter Try.func87, Try.ntmps87
      go_wp2_with (go_at_call 76; refine hb.mono ?_; rintro e w1 ⟨rfl, rfl⟩)
      go_quiet (fail)
      go_wp2
      go_quiet (fail)
      go_wp2
      go_ret2
      exact ⟨rfl, _, World.drewN_drewN _ _ _⟩
    · have d3 : decide ((o1 : Int) < (s.l.length : Int)) = false := by simp; omega
      rw [show decide (o1 < s.l.length) = false by simp; omega]
      go_enter Try.func87, Try.ntmps87
      go_wp2_with (go_at_call 76; refine hb.mono ?_; rintro e w1 ⟨rfl, rfl⟩)
      go_quiet (fail)
      go_wp2
      go_quiet (fail)
      go_wp2
      go_ret2
      exact ⟨rfl, _, World.drewN_drewN _ _ _⟩
/-- What is in the list, put about. -/
theorem ok_put_D {s : Hp.Sp} {x p : Nat} (hl : ∀ y ∈ s.l, (fun y => y < S.T.rows.length) y) (hx : (fun y => y < S.T.rows.length) x) : ∀ y ∈ (s.put x p).l, (fun y => y < S.T.rows.length) y := fun y hy => by
  rcases List.mem_or_eq_of_mem_set hy with h | h
  · exact hl y h
  · exact h ▸ hx
set_option maxHeartbeats 4000000 in
theorem hrise_D (h : HD X S L wv hv s w) {x p : Nat} (hp : p < s.l.length) (hx : (fun y => y < S.T.rows.length) x) (hl : ∀ y ∈ s.l, (fun y => y < S.T.rows.length) y) (hlen : s.l.length < 100000) :
    Calls Try.prog 70 #[.pointer (some ⟨X, 4, none⟩), .int .i64 (x : Int), .int .i64 (p : Int)] w fun e w' => e = .returned (.int .i64 ((Hp.rise (Du.lt S.T.rows) s x p).2 : Int)) ∧ HD X S L wv hv (Hp.rise (Du.lt S.T.rows) s x p).1 w' ∧ Trn (fun b => hv.ownBlock = some b ∨ b = L.R) w w' := by
  have H0 := Lib.hid h
  have HL := Lib.hid hl
  clear h hl
  go_enter Try.func70, Try.ntmps70
  go_wp2_with fail
  go_loopw [2] (fun pv wr => ∃ (s' : Hp.Sp) (p' : Nat), pv = .int .i64 (p' : Int) ∧ Hid (HD X S L wv hv s' wr) ∧ Hid (s'.l.length = s.l.length) ∧ p' < s.l.length ∧ Hid (∀ y ∈ s'.l, (fun y => y < S.T.rows.length) y) ∧ Hid (Hp.rise (Du.lt S.T.rows) s' x p' = Hp.rise (Du.lt S.T.rows) s x p) ∧ Trn (fun b => hv.ownBlock = some b ∨ b = L.R) w wr) (fun pv _ => (intOf pv).toNat)
  case atStart => exact ⟨s, p, rfl, H0, Lib.hid rfl, hp, HL, Lib.hid rfl, Trn.refl _ _⟩
  case round =>
    clear H0 HL
    obtain ⟨s', p', rfl, H1, HS, hp', HL, HR, ht⟩ := hrel
    have h := H1.out
    have hs' : p' < s'.l.length := by rw [HS.out]; exact hp'
    obtain ⟨G, cap, hhv, hcap, hc⟩ := own_pos (show OwnK encI1 1 3 0 hv s'.l wr from h.due.heap) (by omega)
    subst hhv
    obtain ⟨c4, c5⟩ := h.cells
    have okp := fun (i : Nat) (hi : i < s'.l.length) => HL.out s'.l[i] (List.getElem_mem hi)
    have hput := fun (W' : World) (hW : W'.heap = wr.heap) => hput_D (HD.same2 h W' hW) (x := x) (p := p') hx hs'
    have PUTX := Lib.hid hput
    clear hput
    by_cases h0 : 0 < p'
    · have hab := Hp.above_lt h0
      have ca := hc (Hp.above p') (by omega)
      have oka := okp (Hp.above p') (by omega)
      have ha := fun n => hahead_D h hx oka n
      have hr0 : Hp.rise (Du.lt S.T.rows) s' x p' = if (Du.lt S.T.rows) x s'.l[Hp.above p'] then Hp.rise (Du.lt S.T.rows) (s'.put s'.l[Hp.above p'] p') x (Hp.above p') else (s'.put x p', p') := by
        rw [Hp.rise, dif_pos h0, at_get (show Hp.above p' < s'.l.length by omega)]
      have habv := fun W' => above_any p' W' h0 (by omega)
      have d0 : decide ((p' : Int) > 0) = true := by simp; omega
      have HPA := Lib.hid (fun (W' : World) (hW : W'.heap = wr.heap) => hput_D (HD.same2 h W' hW) (x := s'.l[Hp.above p']) (p := p') oka hs')
      have HOK := Lib.hid (ok_put_D (p := p') HL.out oka)
      generalize s'.l[Hp.above p'] = y at *
      have hab2 : Hp.above p' < 100000 := by omega
      have HAB := Lib.hid hab
      generalize hq : Hp.above p' = q at *
      have hqs : q < s'.l.length := by omega
      clear hc okp
      cases hlt : (Du.lt S.T.rows) x y with
      | true =>
        rw [hlt] at ha
        rw [hlt, if_pos rfl] at hr0
        have HR0 := Lib.hid hr0
        clear hr0 hlt hq
        go_wp2_with fail
        go_quiet ((first | (go_at_call 85; exact Calls.quiet_of_same (habv _)) | (go_at_call 42; exact ha _)))
        go_wp2_with fail
        have hh : (wr.drewN nq).heap = wr.heap := rfl
        have c4' : (wr.drewN nq).cell? ⟨X, 4, none⟩ = _ := c4
        have ca' : (wr.drewN nq).cell? ⟨G, q, none⟩ = _ := ca
        have ht' := ht.trans (Trn.drew wr nq)
        generalize wr.drewN nq = W5 at *
        have HH := Lib.hid hh
        have HT := Lib.hid ht'
        clear hh ht'
        go_still_tail 10, (by kernel_rfl)
        still_call (habv _)
        repeat still_step
        refine wpStill_nil ?_
        change wpList _ _ _ _ _ (World.drew _)
        go_wp2_with fail
        refine (HPA.out W5.drew HH.out).mono ?_
        rintro e w4 ⟨rfl, H4, t4⟩
        go_wp2_with (go_at_call 85; refine (habv _).mono ?_; rintro e w6 ⟨rfl, rfl⟩)
        have HR1 := HR.out
        rw [HR0.out] at HR1
        have hlen4 : (s'.put y p').l.length = s.l.length := (Hp.put_len _ _ _).trans HS.out
        have hab3 := HAB.out
        go_roundw
        case rel => exact ⟨s'.put y p', q, rfl, Lib.hid H4, Lib.hid hlen4, by omega, HOK, Lib.hid HR1, (HT.out.trans (Trn.drew W5 1)).trans (t4.mono fun b _ e => .inl e)⟩
        case measure => simp [intOf]; omega
      | false =>
        rw [hlt] at ha
        rw [hlt, if_neg (by simp)] at hr0
        have hr1 := HR.out
        rw [hr0] at hr1
        have HR1 := Lib.hid hr1
        clear hr0 hr1 hlt hq
        go_wp2_with fail
        go_quiet ((first | (go_at_call 85; exact Calls.quiet_of_same (habv _)) | (go_at_call 42; exact ha _)))
        go_wp2_with fail
        refine (PUTX.out (wr.drewN nq) rfl).mono ?_
        rintro e w4 ⟨rfl, H4, t4⟩
        go_wp2_with fail
        go_ret
        rw [← HR1.out]
        exact ⟨rfl, H4, (ht.trans (Trn.drew wr nq)).trans (t4.mono fun b _ e => .inl e)⟩
    · obtain rfl : p' = 0 := by omega
      have hr1 := HR.out
      rw [Hp.rise, dif_neg h0] at hr1
      have HR1 := Lib.hid hr1
      clear hr1 hc okp
      have d0 : decide (((0 : Nat) : Int) > 0) = false := by simp
      simp only [Int.ofNat_zero] at d0
      go_wp2_with fail
      go_quiet (fail)
      go_wp2_with fail
      refine (PUTX.out (wr.drewN nq) rfl).mono ?_
      rintro e w4 ⟨rfl, H4, t4⟩
      go_wp2_with fail
      go_ret
      rw [← HR1.out]
      exact ⟨rfl, H4, (ht.trans (Trn.drew wr nq)).trans (t4.mono fun b _ e => .inl e)⟩
set_option maxHeartbeats 4000000 in
theorem hsink_D (h : HD X S L wv hv s w) {x p : Nat} (hp : p < s.l.length) (hx : (fun y => y < S.T.rows.length) x) (hl : ∀ y ∈ s.l, (fun y => y < S.T.rows.length) y) (hlen : s.l.length < 100000) :
    Calls Try.prog 71 #[.pointer (some ⟨X, 4, none⟩), .int .i64 (x : Int), .int .i64 (p : Int)] w fun e w' => e = .returned (.tuple #[]) ∧ HD X S L wv hv (Hp.sink (Du.lt S.T.rows) s x p) w' ∧ Trn (fun b => hv.ownBlock = some b ∨ b = L.R) w w' := by
  have H0 := Lib.hid h
  have HL := Lib.hid hl
  have hnx := hnext_D h (p := p) (by omega) (by omega) hl hlen
  clear h hl
  go_enter Try.func71, Try.ntmps71
  go_wp2_with fail
  refine hnx.mono ?_
  rintro e w0 ⟨rfl, nn, rfl⟩
  go_wp2_with fail
  go_loopw [2, 6, 7] (fun pv nv okv wr => ∃ (s' : Hp.Sp) (p' : Nat), pv = .int .i64 (p' : Int) ∧ nv = .int .i64 ((Hp.next (Du.lt S.T.rows) s' p').1 : Int) ∧ okv = .bool (Hp.next (Du.lt S.T.rows) s' p').2 ∧ Hid (HD X S L wv hv s' wr) ∧ Hid (s'.l.length = s.l.length) ∧ p' < s.l.length ∧ Hid (∀ y ∈ s'.l, (fun y => y < S.T.rows.length) y) ∧ Hid (Hp.sink (Du.lt S.T.rows) s' x p' = Hp.sink (Du.lt S.T.rows) s x p) ∧ Trn (fun b => hv.ownBlock = some b ∨ b = L.R) w wr) (fun pv _ _ _ => s.l.length - (intOf pv).toNat)
  case atStart => exact ⟨s, p, rfl, rfl, rfl, Lib.hid (HD.same2 H0.out _ rfl), Lib.hid rfl, hp, HL, Lib.hid rfl, Trn.drew _ _⟩
  case round =>
    clear H0 HL hnx
    obtain ⟨s', p', rfl, rfl, rfl, H1, HS, hp', HL, HR, ht⟩ := hrel
    have h := H1.out
    have hs' : p' < s'.l.length := by rw [HS.out]; exact hp'
    have hsl : s'.l.length < 100000 := by rw [HS.out]; exact hlen
    obtain ⟨G, cap, hhv, hcap, hc⟩ := own_pos (show OwnK encI1 1 3 0 hv s'.l wr from h.due.heap) (by omega)
    subst hhv
    obtain ⟨c4, c5⟩ := h.cells
    have okp := fun (i : Nat) (hi : i < s'.l.length) => HL.out s'.l[i] (List.getElem_mem hi)
    have PUTX := Lib.hid (fun (W' : World) (hW : W'.heap = wr.heap) => hput_D (HD.same2 h W' hW) (x := x) (p := p') hx hs')
    have hr0 : Hp.sink (Du.lt S.T.rows) s' x p' = if h : (Hp.next (Du.lt S.T.rows) s' p').2 = true ∧ (Du.lt S.T.rows) (s'.at_ (Hp.next (Du.lt S.T.rows) s' p').1) x = true then Hp.sink (Du.lt S.T.rows) (s'.put (s'.at_ (Hp.next (Du.lt S.T.rows) s' p').1) p') x (Hp.next (Du.lt S.T.rows) s' p').1 else s'.put x p' := by
      rw [Hp.sink]
    have hnl := fun e => Hp.next_lt (Du.lt S.T.rows) (s := s') (p := p') e
    generalize Hp.next (Du.lt S.T.rows) s' p' = nx at *
    obtain ⟨q, b⟩ := nx
    simp only at hr0 hnl ⊢
    cases b with
    | true =>
      obtain ⟨hpq, hql⟩ := hnl rfl
      have cq := hc q hql
      have okq := okp q hql
      have ha := fun n => hahead_D h okq hx n
      rw [at_get hql] at hr0
      have HPA := Lib.hid (fun (W' : World) (hW : W'.heap = wr.heap) => hput_D (HD.same2 h W' hW) (x := s'.l[q]) (p := p') okq hs')
      have HOK := Lib.hid (ok_put_D (p := p') HL.out okq)
      generalize s'.l[q] = y at *
      have hq2 : q < 100000 := by omega
      have HPQ := Lib.hid hpq
      have HQL := Lib.hid hql
      clear hc okp hnl
      cases hlt : (Du.lt S.T.rows) y x with
      | true =>
        rw [hlt] at ha
        rw [dif_pos ⟨rfl, hlt⟩] at hr0
        have HR0 := Lib.hid hr0
        clear hr0 hlt
        go_wp2_with fail
        go_quiet ((go_at_call 42; exact ha _))
        go_wp2_with fail
        refine (HPA.out (wr.drewN nq) rfl).mono ?_
        rintro e w4 ⟨rfl, H4, t4⟩
        have hlen4 : (s'.put y p').l.length = s.l.length := (Hp.put_len _ _ _).trans HS.out
        have hnx4 := hnext_D H4 (p := q) (by omega) hq2 HOK.out (by omega)
        have HL4 := Lib.hid hlen4
        clear hlen4
        go_wp2_with fail
        refine hnx4.mono ?_
        rintro e w5 ⟨rfl, n5, rfl⟩
        have HR1 := HR.out
        rw [HR0.out] at HR1
        have hpq3 := HPQ.out
        have hql3 := HQL.out
        have hs3 := HS.out
        clear hnx4
        go_wp2_with fail
        go_roundw
        case rel => exact ⟨s'.put y p', q, rfl, rfl, rfl, Lib.hid (HD.same2 H4 _ rfl), HL4, by omega, HOK, Lib.hid HR1, ((ht.trans (Trn.drew wr _)).trans (t4.mono fun b _ e => .inl e)).trans (Trn.drew _ _)⟩
        case measure => simp [intOf]; omega
      | false =>
        rw [hlt] at ha
        rw [dif_neg (fun e => by have := e.2; rw [hlt] at this; cases this)] at hr0
        have hr1 := HR.out
        rw [hr0] at hr1
        have HR1 := Lib.hid hr1
        clear hr0 hr1 hlt
        go_wp2_with fail
        go_quiet ((go_at_call 42; exact ha _))
        go_wp2_with fail
        refine (PUTX.out (wr.drewN nq) rfl).mono ?_
        rintro e w4 ⟨rfl, H4, t4⟩
        go_wp2_with fail
        go_end0
        rw [← HR1.out]
        exact ⟨rfl, H4, (ht.trans (Trn.drew wr nq)).trans (t4.mono fun b _ e => .inl e)⟩
    | false =>
      rw [dif_neg (fun e => by cases e.1)] at hr0
      have hr1 := HR.out
      rw [hr0] at hr1
      have HR1 := Lib.hid hr1
      clear hr0 hr1 hnl hc okp
      go_wp2_with fail
      go_quiet (fail)
      go_wp2_with fail
      refine (PUTX.out (wr.drewN nq) rfl).mono ?_
      rintro e w4 ⟨rfl, H4, t4⟩
      go_wp2_with fail
      go_end0
      rw [← HR1.out]
      exact ⟨rfl, H4, (ht.trans (Trn.drew wr nq)).trans (t4.mono fun b _ e => .inl e)⟩
end
end Go.Proofs.Ytchlemajppnehaa

/- The heap's own functions: push, take (D). -/
set_option maxRecDepth 100000
namespace Go.Proofs.Ytchlemajppnehaa
open Go Go.RowKit Go.Shelf Go.Maps
section
variable {X : Nat} {S : Du.St} {L : TL} {hv wv : Value} {s : Hp.Sp} {w w' : World}
set_option maxHeartbeats 4000000 in
theorem hpush_D (h : HD X S L wv hv s w) {x : Nat} (hx : (fun y => y < S.T.rows.length) x) (hl : ∀ y ∈ s.l, (fun y => y < S.T.rows.length) y) (hlen : s.l.length + 1 < 100000) :
    Calls Try.prog 50 #[.pointer (some ⟨X, 4, none⟩), .int .i64 (x : Int)] w fun e w' => e = .returned (.tuple #[]) ∧ ∃ v, HD X S L wv v (Hp.push (Du.lt S.T.rows) s x) w' ∧ (∀ b, v.ownBlock = some b → hv.ownBlock = some b ∨ w.heap.size ≤ b) ∧ Trn (fun b => b = X ∨ ((fun b => hv.ownBlock = some b ∨ b = L.R)) b) w w' := by
  have c0 := h.cells.1
  have hown : OwnK encI1 1 3 0 hv s.l w := h.due.heap
  obtain ⟨ao, cap, hvv, _⟩ := ownK_form hown
  go_enter Try.func50, Try.ntmps50
  go_wp2_with (first
    | (at_builtin; go_loud (
       refine wpList_apK encI1_len (by decide) encI1_one (x := fun _ => True) Try.underlying22 infoInt rfl (by decide) rfl _ _ rfl 0 hv s.l hvv.symm (ownK_alloc hown _) (.slice (some ⟨w.heap.size, 0, none⟩) 1 1) [x] (by simp) rfl ((RK.oneN (enc := encI1) x 3 _ _ (by simp) _ rfl)) (by simp; omega) (Nat.zero_le _) ?_
       intro g cp w1 ho1 hg1 hl1
       obtain ⟨hgg, hk, t1⟩ := own_app hown hg1 hl1
       obtain ⟨nB, d0, df, ⟨bc, bt, hBk⟩, h2⟩ := hlisted_D h hk ho1 (fun b e => by cases e; exact hgg)
       have hgB : ¬ g = X := nB g rfl
       have hBg : ¬ X = g := fun e => hgB e.symm
       have t2 : Trn (fun b => b = X ∨ ((fun b => hv.ownBlock = some b ∨ b = L.R)) b) w (w1.setCell ⟨X, 4, none⟩ (.slice (some ⟨g, 0, none⟩) (s.l ++ [x]).length cp)) := (t1.mono (g := fun b => b = X ∨ ((fun b => hv.ownBlock = some b ∨ b = L.R)) b) (fun b _ e => .inr (.inl e))).trans (Trn.set (f := grow (fun b => b = X ∨ ((fun b => hv.ownBlock = some b ∨ b = L.R)) b) w w1) hBk (.inl (.inl rfl)) 4 _)
       have hl2 : ∀ y ∈ s.l ++ [x], (fun y => y < S.T.rows.length) y := fun y hy => by
         rcases List.mem_append.1 hy with e | e
         · exact hl y e
         · rw [List.mem_singleton.1 e]; exact hx
       have hr := hrise_D h2 (x := x) (p := s.l.length) (by simp) hx hl2 (by simp; omega)
       simp only [List.length_append, List.length_singleton] at hr t2))
    | (go_at_call 70; refine hr.mono ?_; rintro e w2 ⟨rfl, h3, t3⟩))
  go_end0
  have hsz : w.heap.size ≤ w1.heap.size := t1.size
  refine ⟨rfl, _, h3, fun b e => by cases e; exact hgg, t2.trans (t3.mono fun b hb e => ?_)⟩
  exact e.elim (fun e => by cases e; exact hgg.elim (fun e => .inl (.inr (.inl e))) (fun e => .inr ⟨e, hb⟩)) (fun e => .inl (.inr (.inr e)))
set_option maxHeartbeats 4000000 in
theorem htake_D (h : HD X S L wv hv s w) {p : Nat} (hp : p < s.l.length) (hl : ∀ y ∈ s.l, (fun y => y < S.T.rows.length) y) (hlen : s.l.length < 100000) :
    Calls Try.prog 47 #[.pointer (some ⟨X, 4, none⟩), .int .i64 (p : Int)] w fun e w' => e = .returned (encI (Hp.take (Du.lt S.T.rows) s p).1) ∧ ∃ v, HD X S L wv v (Hp.take (Du.lt S.T.rows) s p).2 w' ∧ (∀ b, v.ownBlock = some b → hv.ownBlock = some b) ∧ Trn (fun b => b = X ∨ ((fun b => hv.ownBlock = some b ∨ b = L.R)) b) w w' := by
  have c0 := h.cells.1
  have hown : OwnK encI1 1 3 0 hv s.l w := h.due.heap
  obtain ⟨G, cap, hvv, hcap, hc⟩ := own_pos hown (by omega)
  obtain ⟨n, hn⟩ : ∃ n, s.l.length = n + 1 := ⟨s.l.length - 1, by omega⟩
  rw [hvv, hn] at c0
  rw [hn] at hcap
  have hown' := hown
  rw [hvv] at hown'
  have cp := hc p hp
  have ce := hc n (by omega)
  have e0 : Hp.take (Du.lt S.T.rows) s p = (s.l[p], Hp.refill (Du.lt S.T.rows) ⟨s.l.take n, s.pl⟩ (s.l[n]'(by omega)) p n) := by
    unfold Hp.take
    rw [at_get hp, show s.l.length - 1 = n by omega, at_get (show n < s.l.length by omega)]
  rw [e0]
  clear e0
  have hye := hl (s.l[n]'(by omega)) (List.getElem_mem (by omega))
  have hsl := run_take1 Try.underlying22 infoInt G (n + 1) cap n (by omega) hcap
  have all := fun nq => hlisted_D (w1 := w.drewN nq) (v := .slice (some ⟨G, 0, none⟩) n cap) (l := s.l.take n) h (fun b _ _ => rfl) (own_kept (ownK_take encI1_len hown' n (by omega)) (fun g _ => rfl)) (fun b e => by cases e; exact .inl (by rw [hvv]; rfl))
  have nB := (all 0).1
  have df := (all 0).2.2.1
  have h2 := fun nq => (all nq).2.2.2.2
  have t2 : ∀ nq, Trn (fun b => b = X ∨ ((fun b => hv.ownBlock = some b ∨ b = L.R)) b) w ((w.drewN nq).setCell ⟨X, 4, none⟩ (.slice (some ⟨G, 0, none⟩) n cap)) := fun nq => by
    obtain ⟨_, _, hBk⟩ := (all nq).2.2.2.1
    exact (Trn.drew w nq).trans (Trn.set (f := grow (fun b => b = X ∨ ((fun b => hv.ownBlock = some b ∨ b = L.R)) b) w (w.drewN nq)) hBk (.inl (.inl rfl)) 4 _)
  have hl2 : ∀ y ∈ s.l.take n, (fun y => y < S.T.rows.length) y := fun y hy => hl y (List.mem_of_mem_take hy)
  have hln : (s.l.take n).length = n := by rw [List.length_take]; omega
  have hGB : ¬ G = X := nB G rfl
  have hBG : ¬ X = G := fun e => hGB e.symm
  have hfz := World.ownsRow.frozenAt hown'
  have bfz : ∀ i, w.frozen? ⟨X, i, none⟩ = false := df
  have ho : ∀ b, (Value.slice (some ⟨G, 0, none⟩) n cap).ownBlock = some b → hv.ownBlock = some b := fun b e => by rw [hvv]; exact e
  generalize s.l[p] = x at *
  generalize s.l[n]'(by omega) = y at *
  have hpn : p ≤ n := by omega
  have hn5 : n < 100000 := by omega
  have T2 := Lib.hid t2
  have H2 := Lib.hid h2
  clear hc hown hown' hl hp hlen all t2 hvv
  have hr := fun (hpn : p < n) (nq : Nat) => hrise_D (h2 nq) (x := y) (p := p) (by show p < (s.l.take n).length; rw [hln]; exact hpn) hye hl2 (by show (s.l.take n).length < _; rw [hln]; omega)
  have hrl := Hp.rise_len (Du.lt S.T.rows) p ⟨s.l.take n, s.pl⟩ y p (Nat.le_refl _)
  have hrm := fun (hpn : p < n) => Hp.rise_mem (Du.lt S.T.rows) (Q := (fun y => y < S.T.rows.length)) p ⟨s.l.take n, s.pl⟩ y p (Nat.le_refl _) (by show p < (s.l.take n).length; rw [hln]; exact hpn) hye hl2
  unfold Hp.refill
  generalize Hp.rise (Du.lt S.T.rows) ⟨s.l.take n, s.pl⟩ y p = R at *
  clear h2
  by_cases hpe : p < n
  · have hr := hr hpe
    have hrm := hrm hpe
    have d1 : decide ((p : Int) < (n : Int)) = true := by simpa using hpe
    simp only [if_pos hpe]
    obtain ⟨R1, q⟩ := R
    simp only at hr hrl hrm ⊢
    have hs := fun (w2 : World) (h3 : HD X S L wv (.slice (some ⟨G, 0, none⟩) n cap) R1 w2) => hsink_D h3 (x := y) (p := p) (by rw [hrl.1]; show p < (s.l.take n).length; rw [hln]; exact hpe) hye hrm (by rw [hrl.1]; show (s.l.take n).length < _; rw [hln]; omega)
    by_cases hq : q = p
    · subst hq
      simp only [if_true]
      go_enter Try.func47, Try.ntmps47
      go_wp2_with fail
      go_quiet (fail)
      go_wp2_with (first
        | (go_at_call 70; refine (hr _).mono ?_; rintro e w2 ⟨rfl, h3, t3⟩)
        | (go_at_call 71; refine (hs w2 h3).mono ?_; rintro e w3 ⟨rfl, h4, t4⟩))
      go_ret
      exact ⟨rfl, _, h4, ho, ((T2.out _).trans (t3.mono fun b hb e => e.elim (fun e => .inl (.inr (.inl (ho b e)))) (fun e => .inl (.inr (.inr e))))).trans (t4.mono fun b hb e => e.elim (fun e => .inl (.inr (.inl (ho b e)))) (fun e => .inl (.inr (.inr e))))⟩
    · have d2 : ((q : Int) == (p : Int)) = false := by simp; omega
      simp only [if_neg hq]
      go_enter Try.func47, Try.ntmps47
      go_wp2_with fail
      go_quiet (fail)
      go_wp2_with (go_at_call 70; refine (hr _).mono ?_; rintro e w2 ⟨rfl, h3, t3⟩)
      go_ret
      exact ⟨rfl, _, h3, ho, (T2.out _).trans (t3.mono fun b hb e => e.elim (fun e => .inl (.inr (.inl (ho b e)))) (fun e => .inl (.inr (.inr e))))⟩
  · have d1 : decide ((p : Int) < (n : Int)) = false := by simp; omega
    simp only [if_neg hpe]
    go_enter Try.func47, Try.ntmps47
    go_wp2_with fail
    go_quiet (fail)
    go_wp2_with fail
    go_ret
    exact ⟨rfl, _, (H2.out _), ho, (T2.out _)⟩
end
end Go.Proofs.Ytchlemajppnehaa

/- A Due's calls: what lies in memory; find, part where nobody walks, At, Len. -/
set_option maxRecDepth 100000
namespace Go.Proofs.Ytchlemajppnehaa
open Go Go.RowKit Go.Shelf Go.Maps
abbrev tWk : TypeId := 92
theorem qDue (w : World) (a : Addr) : (binOp .eql 33 (.pointer (some a)) (.pointer none)).run Try.prog w = .ok (.bool false) w := by kernel_rfl
section
variable {X : Nat} {S : Du.St} {L : TL} {hv wv : Value} {w w' : World}
theorem DueE.nX (h : DueE X S L hv wv w) : (∀ g, hv.ownBlock = some g → g ≠ X) := fun g e => (h.hR g e).2.1
theorem DueE.walks (h : DueE X S L hv wv w) (u : Value) : DueE X S L hv u (w.setCell ⟨X, 7, none⟩ u) ∧ Trn (fun b => b = X) w (w.setCell ⟨X, 7, none⟩ u) := by
  have nX := h.nX
  obtain ⟨bx, h1, h2, h3, h4, h5, h6⟩ := h.ex
  have hl := (List.getElem?_eq_some_iff.1 h6).1
  have ho := fun b (hb : b ≠ X) => Below.heap_setCell w ⟨X, 7, none⟩ u b hb
  refine ⟨⟨⟨bx.set 7 u, ?_, ?_, ?_, ?_, ?_, ?_⟩, own_kept h.heap (fun g e => ho g (nX g e)), h.apart⟩, Trn.set1 h1.box _ _⟩
  · exact h1.boxed (i := 7) (u := u) (T' := S.T) (sv' := L.sv) rfl (by rw [List.getElem?_set_ne (by omega)]; exact h1.c0) (by rw [List.getElem?_set_ne (by omega)]; exact h1.c1) (by rw [List.getElem?_set_ne (by omega)]; exact h1.c2) rfl rfl h1.spare (fun g e => (h1.neS e).1)
  · rw [List.getElem?_set_ne (by omega)]; exact h2
  · rw [List.getElem?_set_ne (by omega)]; exact h3
  · rw [List.getElem?_set_ne (by omega)]; exact h4
  · rw [List.getElem?_set_ne (by omega)]; exact h5
  · rw [List.getElem?_set_self (by omega)]
theorem DueE.turned (h : DueE X S L hv wv w) (n : Nat) : DueE X { S with turns := n } L hv wv (w.setCell ⟨X, 0, none⟩ (encI n)) ∧ Trn (fun b => b = X) w (w.setCell ⟨X, 0, none⟩ (encI n)) := by
  have nX := h.nX
  obtain ⟨bx, h1, h2, h3, h4, h5, h6⟩ := h.ex
  have hl := (List.getElem?_eq_some_iff.1 h6).1
  have ho := fun b (hb : b ≠ X) => Below.heap_setCell w ⟨X, 0, none⟩ (encI n) b hb
  refine ⟨⟨⟨bx.set 0 (encI n), ?_, ?_, ?_, ?_, ?_, ?_⟩, own_kept h.heap (fun g e => ho g (nX g e)), h.apart⟩, Trn.set1 h1.box _ _⟩
  · exact h1.boxed (i := 0) (u := encI n) (T' := S.T) (sv' := L.sv) rfl (by rw [List.getElem?_set_ne (by omega)]; exact h1.c0) (by rw [List.getElem?_set_ne (by omega)]; exact h1.c1) (by rw [List.getElem?_set_ne (by omega)]; exact h1.c2) rfl rfl h1.spare (fun g e => (h1.neS e).1)
  · rw [List.getElem?_set_self (by omega)]
  · rw [List.getElem?_set_ne (by omega)]; exact h3
  · rw [List.getElem?_set_ne (by omega)]; exact h4
  · rw [List.getElem?_set_ne (by omega)]; exact h5
  · rw [List.getElem?_set_ne (by omega)]; exact h6
/-- A table's change within a Due. -/
theorem DueE.tab {bx : List Value} {d : Nat} {T' : Tb.Tab} (h : DueE X S L hv wv w) (hx : bx[0]? = some (encI S.turns) ∧ bx[4]? = some hv ∧ bx[5]? = some (fvA X) ∧ bx[6]? = some (fvM X) ∧ bx[7]? = some wv) (ht : TabTo tT X 1 tDue bx L w d T' w') :
    ∃ L', DueE X { S with T := T' } L' hv wv w' ∧ Trn (fun b => b = X ∨ b = L.M ∨ b = L.R ∨ L.sv.ownBlock = some b) w w' ∧ L'.M = L.M ∧ L'.n ≤ L.n + d ∧ (L'.R = L.R ∨ w.heap.size ≤ L'.R) ∧ (∀ g, L'.sv.ownBlock = some g → L.sv.ownBlock = some g ∨ w.heap.size ≤ g) := by
  obtain ⟨L', bx', h1, h2, h3, h4, h5, h6, _, h7⟩ := ht.ex
  have hl : ∀ g, hv.ownBlock = some g → g < w.heap.size := fun g e => by obtain ⟨c, hc⟩ := own_blk' h.heap e; exact hc.lt
  refine ⟨L', ⟨⟨bx', h1, (h7 0 (by omega) (by omega)).trans hx.1, (h7 4 (by omega) (by omega)).trans hx.2.1, (h7 5 (by omega) (by omega)).trans hx.2.2.1, (h7 6 (by omega) (by omega)).trans hx.2.2.2.1, (h7 7 (by omega) (by omega)).trans hx.2.2.2.2⟩, own_kept h.heap (fun g e => h2.block g (hl g e) (fun e2 => ?_)), fun g e e2 => ?_⟩, h2, h3, h4, h5, h6⟩
  · obtain ⟨n1, n2, n3⟩ := h.hR g e
    rcases e2 with e2 | e2 | e2 | e2
    · exact n2 e2
    · exact n3 e2.symm
    · exact n1 e2
    · exact h.apart g e e2
  · rcases h6 g e2 with e3 | e3
    · exact h.apart g e e3
    · exact absurd (hl g e) (by omega)
set_option maxHeartbeats 1000000 in
theorem dpart0 {ao : Option Addr} {cap : Nat} (h : DueE X S L hv (.slice ao 0 cap) w) :
    Calls Try.prog 45 #[.pointer (some ⟨X, 7, none⟩)] w fun e w' => e = .returned (.tuple #[]) ∧ DueE X S L hv (.slice none 0 0) w' ∧ Trn (fun b => b = X) w w' := by
  obtain ⟨_, _, _, _, _, q7, qf⟩ := h.cells
  have hw := h.walks (.slice none 0 0)
  go_enter Try.func45, Try.ntmps45
  go_wp2
  refine wp_loop_rounds 1 ?_
  rw [rounds_succ]
  go_wp2
  go_end0
  exact ⟨rfl, hw⟩
set_option maxHeartbeats 1000000 in
theorem dfind_any (h : DueE X S L hv wv w) {k : Int} (hk : I64 k) :
    Calls Try.prog 46 #[.pointer (some ⟨X, 0, none⟩), .int .i64 k] w fun e w' => e = .returned (.tuple #[.int .i64 (((S.T.g k).getD 0 : Nat) : Int), .bool (S.T.g k).isSome]) ∧ Below w.heap.size w w' := by
  obtain ⟨bx, h1, h2⟩ := h.ex
  have qp := qDue
  go_enter Try.func46, Try.ntmps46
  go_wp2_with (go_at_call 69; refine (findT h1 k hk).mono ?_; rintro e w1 ⟨rfl, b1⟩)
  go_ret2
  exact ⟨rfl, b1⟩
set_option maxHeartbeats 1000000 in
theorem dfind_nil (k : Int) (w : World) :
    Calls Try.prog 46 #[.pointer none, .int .i64 k] w fun e w' => e = .returned (.tuple #[.int .i64 0, .bool false]) ∧ w = w' := by
  go_enter Try.func46, Try.ntmps46
  go_wp2
  go_ret2
  exact ⟨rfl, rfl⟩
end
/-- A Due by its entries, in the order of Set, where nobody walks: at most N calls were made; its blocks are among f. -/
structure DV (X : Nat) (E : List (Int × Int)) (N : Nat) (f : Nat → Prop) (W : World) : Prop where
  ex : ∃ S L hv wv o, DueE X S L hv wv W ∧ Du.InvD S o N ∧ E = o.map (Du.ent S) ∧ L.n ≤ N ∧ OwnK encI1 1 tWk 0 wv [] W ∧ f L.M ∧ f L.R ∧ (∀ g, L.sv.ownBlock = some g → f g) ∧ (∀ g, hv.ownBlock = some g → f g) ∧ (∀ g, wv.ownBlock = some g → f g)
  fX : f X
  fb : ∀ k, f k → k < W.heap.size
section
variable {X : Nat} {E : List (Int × Int)} {N : Nat} {f : Nat → Prop} {w w' : World}
theorem DV.below (h : DV X E N f w) (hb : Below w.heap.size w w') : DV X E N f w' := by
  obtain ⟨S, L, hv, wv, o, h1, h2, h3, h4, h5, h6⟩ := h.ex
  exact ⟨⟨S, L, hv, wv, o, h1.below hb, h2, h3, h4, ownK_below h5 hb, h6⟩, h.fX, fun k e => Nat.lt_of_lt_of_le (h.fb k e) hb.size⟩
theorem DV.wide {g : Nat → Prop} (h : DV X E N f w) (hf : ∀ k, f k → g k) (hg : ∀ k, g k → k < w.heap.size) : DV X E N g w := by
  obtain ⟨S, L, hv, wv, o, h1, h2, h3, h4, h5, h6, h7, h8, h9, h10⟩ := h.ex
  exact ⟨⟨S, L, hv, wv, o, h1, h2, h3, h4, h5, hf _ h6, hf _ h7, fun g e => hf _ (h8 g e), fun g e => hf _ (h9 g e), fun g e => hf _ (h10 g e)⟩, hf _ h.fX, hg⟩
theorem Du.InvD.more {S : Du.St} {o : List Nat} {N N' : Nat} (h : Du.InvD S o N) (hN : N ≤ N') : Du.InvD S o N' :=
  ⟨⟨Nat.le_trans h.tab.len hN, h.tab.nd, h.tab.lt, h.tab.g, h.tab.wf⟩, h.turn, h.top, Nat.le_trans h.tn hN, h.heap, h.pl⟩
theorem DV.more {N' : Nat} (h : DV X E N f w) (hN : N ≤ N') : DV X E N' f w := by
  obtain ⟨S, L, hv, wv, o, h1, h2, h3, h4, h5⟩ := h.ex
  exact ⟨⟨S, L, hv, wv, o, h1, h2.more hN, h3, by omega, h5⟩, h.fX, h.fb⟩
/-- A Due that a call has left, whose blocks are where they were, or new. -/
theorem DV.fin {S' : Du.St} {L' : TL} {hv' : Value} {o' : List Nat} {E' : List (Int × Int)} (hE : DueE X S' L' hv' (.slice none 0 0) w') (hI : Du.InvD S' o' N) (hP : E' = o'.map (Du.ent S')) (hn : L'.n ≤ N) (fX : f X) (fM : f L'.M ∨ w.heap.size ≤ L'.M) (fR : f L'.R ∨ w.heap.size ≤ L'.R)
    (fs : ∀ g, L'.sv.ownBlock = some g → f g ∨ w.heap.size ≤ g) (fh : ∀ g, hv'.ownBlock = some g → f g ∨ w.heap.size ≤ g) (fb : ∀ k, f k → k < w.heap.size) (t : Trn f w w') : DV X E' N (grow f w w') w' := by
  obtain ⟨bx, ht, _⟩ := hE.ex
  obtain ⟨c, hc⟩ := own_blk ht.rows
  have gr : ∀ k, (f k ∨ w.heap.size ≤ k) → k < w'.heap.size → grow f w w' k := fun k e hk => e.imp id (fun e => ⟨e, hk⟩)
  exact ⟨⟨S', L', hv', _, o', hE, hI, hP, hn, ownK_nil _ _ _ _ _, gr _ fM ht.map.lt, gr _ fR hc.lt, fun g e => gr _ (fs g e) (by obtain ⟨c, hc⟩ := own_blk' ht.spare e; exact hc.lt), fun g e => gr _ (fh g e) (by obtain ⟨c, hc⟩ := own_blk' hE.heap e; exact hc.lt), fun g e => by cases e⟩, .inl fX, fun b e => e.elim (fun e => Nat.lt_of_lt_of_le (fb b e) t.size) (fun e => e.2)⟩
theorem Du.InvD.mem_iff {S : Du.St} {o : List Nat} {N : Nat} (h : Du.InvD S o N) (k : Int) : (S.T.g k).isSome = true ↔ k ∈ (o.map (Du.ent S)).map (·.1) := by
  rw [List.map_map, List.mem_map, Option.isSome_iff_exists]
  constructor
  · rintro ⟨i, hi⟩
    have := (h.tab.g k i).1 hi
    exact ⟨i, this.1, this.2⟩
  · rintro ⟨i, hi, rfl⟩
    exact ⟨i, (h.tab.g _ i).2 ⟨hi, rfl⟩⟩
/-- Its keys stand there once. -/
theorem DV.nodup (h : DV X E N f w) : (E.map (·.1)).Nodup := by
  obtain ⟨S, L, hv, wv, o, h1, h2, rfl, _⟩ := h.ex
  rw [List.map_map]
  refine List.pairwise_map.2 (h2.nodup.imp_of_mem fun {a b} ha hb hne e => hne ?_)
  have e1 := (h2.tab.g (Lr.rat S.T.rows a).k a).2 ⟨ha, rfl⟩
  have e2 := (h2.tab.g (Lr.rat S.T.rows a).k b).2 ⟨hb, e.symm⟩
  rw [e1] at e2
  cases e2
  rfl
end
end Go.Proofs.Ytchlemajppnehaa
