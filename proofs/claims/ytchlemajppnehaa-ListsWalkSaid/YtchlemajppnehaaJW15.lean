/- 3 texts put together: HpbW, HpdW, Dwm. -/
import Derived.Test.YtchlemajppnehaaJW8
import Derived.Test.YtchlemajppnehaaJW11
import Derived.Test.YtchlemajppnehaaJW14
/- The heap's own functions: next, rise, sink (W). -/
set_option maxRecDepth 100000
namespace Go.Proofs.Ytchlemajppnehaa
open Go Go.RowKit Go.Shelf Go.Maps
section
variable {X B db : Nat} {S : Du.St} {L : TL} {hv wv dv : Value} {s : Hp.Sp} {w w' : World}
set_option maxHeartbeats 4000000 in
theorem hnext_W (h : HW X B db S L wv dv hv s w) {p : Nat} (hp : 0 < s.l.length) (hpp : p < 100000) (hl : ∀ y ∈ s.l, (fun y => y < S.l.length) y) (hlen : s.l.length < 100000) :
    Calls Try.prog 87 #[.pointer (some ⟨B, 0, none⟩), .int .i64 (p : Int)] w fun e w' => e = .returned (.tuple #[.int .i64 ((Hp.next (Du.ltP S) s p).1 : Int), .bool (Hp.next (Du.ltP S) s p).2]) ∧ ∃ n, w' = w.drewN n := by
  obtain ⟨G, cap, hhv, hcap, hc⟩ := own_pos (show OwnK encI1 1 3 0 hv s.l w from h.heap) hp
  subst hhv
  obtain ⟨c4, c5⟩ := h.cells
  have H := Lib.hid h
  have okp := fun (i : Nat) (hi : i < s.l.length) => hl s.l[i] (List.getElem_mem hi)
  have hb := below_any p w (by omega)
  obtain ⟨o1, ho1⟩ : ∃ o1, o1 = 2 * p + 1 := ⟨_, rfl⟩
  have hn0 : Hp.next (Du.ltP S) s p = if o1 + 1 < s.l.length ∧ (Du.ltP S) (s.at_ (o1 + 1)) (s.at_ o1) = true then (o1 + 1, true) else (o1, decide (o1 < s.l.length)) := by subst ho1; rfl
  rw [← ho1] at hb
  have hob : o1 < 300000 := by omega
  have HO := Lib.hid ho1
  clear ho1 hpp
  by_cases h2 : o1 + 1 < s.l.length
  · have c2 := hc (o1 + 1) h2
    have c1 := hc o1 (by omega)
    have ha := fun n => hahead_W H.out (okp _ h2) (okp o1 (by omega)) n
    rw [at_get h2, at_get (show o1 < s.l.length by omega)] at hn0
    have d3 : decide (o1 < s.l.length) = true := by simp; omega
    rw [d3] at hn0
    have d1 : decide ((o1 : Int) + 1 < (s.l.length : Int)) = true := by simp; omega
    have d2 : decide ((o1 : Int) < (s.l.length : Int)) = true := by simp; omega
    generalize s.l[o1 + 1] = y2 at *
    generalize s.l[o1] = y1 at *
    cases hlt : (Du.ltP S) y2 y1 with
    | true =>
      rw [hlt] at ha
      rw [if_pos ⟨h2, hlt⟩] at hn0
      rw [hn0]
      clear hlt hn0 hc okp d3
      go_enter Try.func87, Try.ntmps87
      go_wp2_with (go_at_call 76; refine hb.mono ?_; rintro e w1 ⟨rfl, rfl⟩)
      go_quiet ((go_at_call 73; exact ha _))
      go_wp2
      go_ret2
      exact ⟨rfl, _, rfl⟩
    | false =>
      rw [hlt] at ha
      rw [if_neg (fun e => by rw [hlt] at e; cases e.2)] at hn0
      rw [hn0]
      clear hlt hn0 hc okp
      go_enter Try.func87, Try.ntmps87
      go_wp2_with (go_at_call 76; refine hb.mono ?_; rintro e w1 ⟨rfl, rfl⟩)
      go_quiet ((go_at_call 73; exact ha _))
      go_wp2
      go_quiet (fail)
      go_wp2
      go_ret2
      exact ⟨rfl, _, World.drewN_drewN _ _ _⟩
  · rw [if_neg (fun e => h2 e.1)] at hn0
    rw [hn0]
    have d1 : decide ((o1 : Int) + 1 < (s.l.length : Int)) = false := by simp; omega
    have d2 : decide ((o1 : Int) < (s.l.length : Int)) = decide (o1 < s.l.length) := by simp
    have D2 := Lib.hid d2
    clear d2 hn0 hc okp
    by_cases h3 : o1 < s.l.length
    · have d3 : decide ((o1 : Int) < (s.l.length : Int)) = true := by simp; omega
      rw [show decide (o1 < s.l.length) = true by simp; omega]
      go_enter Try.func87, Try.ntmps87
      go_wp2_with (go_at_call 76; refine hb.mono ?_; rintro e w1 ⟨rfl, rfl⟩)
      go_quiet (fail)
      go_wp2
      go_quiet (fail)
      go_wp2
      go_ret2
      exact ⟨rfl, _, World.drewN_drewN _ _ _⟩
    · have d3 : decide ((o1 : Int) < (s.l.length : Int)) = false := by simp; omega
      rw [show decide (o1 < s.l.length) = false by simp; omega]
      go_enter Try.func87, Try.ntmps87
      go_wp2_with (go_at_call 76; refine hb.mono ?_; rintro e w1 ⟨rfl, rfl⟩)
      go_quiet (fail)
      go_wp2
      go_quiet (fail)
      go_wp2
      go_ret2
      exact ⟨rfl, _, World.drewN_drewN _ _ _⟩
/-- What is in the list, put about. -/
theorem ok_put_W {s : Hp.Sp} {x p : Nat} (hl : ∀ y ∈ s.l, (fun y => y < S.l.length) y) (hx : (fun y => y < S.l.length) x) : ∀ y ∈ (s.put x p).l, (fun y => y < S.l.length) y := fun y hy => by
  rcases List.mem_or_eq_of_mem_set hy with h | h
  · exact hl y h
  · exact h ▸ hx
set_option maxHeartbeats 4000000 in
theorem hrise_W (h : HW X B db S L wv dv hv s w) {x p : Nat} (hp : p < s.l.length) (hx : (fun y => y < S.l.length) x) (hl : ∀ y ∈ s.l, (fun y => y < S.l.length) y) (hlen : s.l.length < 100000) :
    Calls Try.prog 70 #[.pointer (some ⟨B, 0, none⟩), .int .i64 (x : Int), .int .i64 (p : Int)] w fun e w' => e = .returned (.int .i64 ((Hp.rise (Du.ltP S) s x p).2 : Int)) ∧ HW X B db S L wv dv hv (Hp.rise (Du.ltP S) s x p).1 w' ∧ Trn (fun b => hv.ownBlock = some b) w w' := by
  have H0 := Lib.hid h
  have HL := Lib.hid hl
  clear h hl
  go_enter Try.func70, Try.ntmps70
  go_wp2_with fail
  go_loopw [2] (fun pv wr => ∃ (s' : Hp.Sp) (p' : Nat), pv = .int .i64 (p' : Int) ∧ Hid (HW X B db S L wv dv hv s' wr) ∧ Hid (s'.l.length = s.l.length) ∧ p' < s.l.length ∧ Hid (∀ y ∈ s'.l, (fun y => y < S.l.length) y) ∧ Hid (Hp.rise (Du.ltP S) s' x p' = Hp.rise (Du.ltP S) s x p) ∧ Trn (fun b => hv.ownBlock = some b) w wr) (fun pv _ => (intOf pv).toNat)
  case atStart => exact ⟨s, p, rfl, H0, Lib.hid rfl, hp, HL, Lib.hid rfl, Trn.refl _ _⟩
  case round =>
    clear H0 HL
    obtain ⟨s', p', rfl, H1, HS, hp', HL, HR, ht⟩ := hrel
    have h := H1.out
    have hs' : p' < s'.l.length := by rw [HS.out]; exact hp'
    obtain ⟨G, cap, hhv, hcap, hc⟩ := own_pos (show OwnK encI1 1 3 0 hv s'.l wr from h.heap) (by omega)
    subst hhv
    obtain ⟨c4, c5⟩ := h.cells
    have okp := fun (i : Nat) (hi : i < s'.l.length) => HL.out s'.l[i] (List.getElem_mem hi)
    have hput := fun (W' : World) (hW : W'.heap = wr.heap) => hput_W (HW.same2 h W' hW) (x := x) (p := p') hx hs'
    have PUTX := Lib.hid hput
    clear hput
    by_cases h0 : 0 < p'
    · have hab := Hp.above_lt h0
      have ca := hc (Hp.above p') (by omega)
      have oka := okp (Hp.above p') (by omega)
      have ha := fun n => hahead_W h hx oka n
      have hr0 : Hp.rise (Du.ltP S) s' x p' = if (Du.ltP S) x s'.l[Hp.above p'] then Hp.rise (Du.ltP S) (s'.put s'.l[Hp.above p'] p') x (Hp.above p') else (s'.put x p', p') := by
        rw [Hp.rise, dif_pos h0, at_get (show Hp.above p' < s'.l.length by omega)]
      have habv := fun W' => above_any p' W' h0 (by omega)
      have d0 : decide ((p' : Int) > 0) = true := by simp; omega
      have HPA := Lib.hid (fun (W' : World) (hW : W'.heap = wr.heap) => hput_W (HW.same2 h W' hW) (x := s'.l[Hp.above p']) (p := p') oka hs')
      have HOK := Lib.hid (ok_put_W (p := p') HL.out oka)
      generalize s'.l[Hp.above p'] = y at *
      have hab2 : Hp.above p' < 100000 := by omega
      have HAB := Lib.hid hab
      generalize hq : Hp.above p' = q at *
      have hqs : q < s'.l.length := by omega
      clear hc okp
      cases hlt : (Du.ltP S) x y with
      | true =>
        rw [hlt] at ha
        rw [hlt, if_pos rfl] at hr0
        have HR0 := Lib.hid hr0
        clear hr0 hlt hq
        go_wp2_with fail
        go_quiet ((first | (go_at_call 85; exact Calls.quiet_of_same (habv _)) | (go_at_call 73; exact ha _)))
        go_wp2_with fail
        have hh : (wr.drewN nq).heap = wr.heap := rfl
        have c4' : (wr.drewN nq).cell? ⟨B, 0, none⟩ = _ := c4
        have ca' : (wr.drewN nq).cell? ⟨G, q, none⟩ = _ := ca
        have ht' := ht.trans (Trn.drew wr nq)
        generalize wr.drewN nq = W5 at *
        have HH := Lib.hid hh
        have HT := Lib.hid ht'
        clear hh ht'
        go_still_tail 10, (by kernel_rfl)
        still_call (habv _)
        repeat still_step
        refine wpStill_nil ?_
        change wpList _ _ _ _ _ (World.drew _)
        go_wp2_with fail
        refine (HPA.out W5.drew HH.out).mono ?_
        rintro e w4 ⟨rfl, H4, t4⟩
        go_wp2_with (go_at_call 85; refine (habv _).mono ?_; rintro e w6 ⟨rfl, rfl⟩)
        have HR1 := HR.out
        rw [HR0.out] at HR1
        have hlen4 : (s'.put y p').l.length = s.l.length := (Hp.put_len _ _ _).trans HS.out
        have hab3 := HAB.out
        go_roundw
        case rel => exact ⟨s'.put y p', q, rfl, Lib.hid H4, Lib.hid hlen4, by omega, HOK, Lib.hid HR1, (HT.out.trans (Trn.drew W5 1)).trans (t4.mono fun b _ e => .inl e)⟩
        case measure => simp [intOf]; omega
      | false =>
        rw [hlt] at ha
        rw [hlt, if_neg (by simp)] at hr0
        have hr1 := HR.out
        rw [hr0] at hr1
        have HR1 := Lib.hid hr1
        clear hr0 hr1 hlt hq
        go_wp2_with fail
        go_quiet ((first | (go_at_call 85; exact Calls.quiet_of_same (habv _)) | (go_at_call 73; exact ha _)))
        go_wp2_with fail
        refine (PUTX.out (wr.drewN nq) rfl).mono ?_
        rintro e w4 ⟨rfl, H4, t4⟩
        go_wp2_with fail
        go_ret
        rw [← HR1.out]
        exact ⟨rfl, H4, (ht.trans (Trn.drew wr nq)).trans (t4.mono fun b _ e => .inl e)⟩
    · obtain rfl : p' = 0 := by omega
      have hr1 := HR.out
      rw [Hp.rise, dif_neg h0] at hr1
      have HR1 := Lib.hid hr1
      clear hr1 hc okp
      have d0 : decide (((0 : Nat) : Int) > 0) = false := by simp
      simp only [Int.ofNat_zero] at d0
      go_wp2_with fail
      go_quiet (fail)
      go_wp2_with fail
      refine (PUTX.out (wr.drewN nq) rfl).mono ?_
      rintro e w4 ⟨rfl, H4, t4⟩
      go_wp2_with fail
      go_ret
      rw [← HR1.out]
      exact ⟨rfl, H4, (ht.trans (Trn.drew wr nq)).trans (t4.mono fun b _ e => .inl e)⟩
set_option maxHeartbeats 4000000 in
theorem hsink_W (h : HW X B db S L wv dv hv s w) {x p : Nat} (hp : p < s.l.length) (hx : (fun y => y < S.l.length) x) (hl : ∀ y ∈ s.l, (fun y => y < S.l.length) y) (hlen : s.l.length < 100000) :
    Calls Try.prog 71 #[.pointer (some ⟨B, 0, none⟩), .int .i64 (x : Int), .int .i64 (p : Int)] w fun e w' => e = .returned (.tuple #[]) ∧ HW X B db S L wv dv hv (Hp.sink (Du.ltP S) s x p) w' ∧ Trn (fun b => hv.ownBlock = some b) w w' := by
  have H0 := Lib.hid h
  have HL := Lib.hid hl
  have hnx := hnext_W h (p := p) (by omega) (by omega) hl hlen
  clear h hl
  go_enter Try.func71, Try.ntmps71
  go_wp2_with fail
  refine hnx.mono ?_
  rintro e w0 ⟨rfl, nn, rfl⟩
  go_wp2_with fail
  go_loopw [2, 6, 7] (fun pv nv okv wr => ∃ (s' : Hp.Sp) (p' : Nat), pv = .int .i64 (p' : Int) ∧ nv = .int .i64 ((Hp.next (Du.ltP S) s' p').1 : Int) ∧ okv = .bool (Hp.next (Du.ltP S) s' p').2 ∧ Hid (HW X B db S L wv dv hv s' wr) ∧ Hid (s'.l.length = s.l.length) ∧ p' < s.l.length ∧ Hid (∀ y ∈ s'.l, (fun y => y < S.l.length) y) ∧ Hid (Hp.sink (Du.ltP S) s' x p' = Hp.sink (Du.ltP S) s x p) ∧ Trn (fun b => hv.ownBlock = some b) w wr) (fun pv _ _ _ => s.l.length - (intOf pv).toNat)
  case atStart => exact ⟨s, p, rfl, rfl, rfl, Lib.hid (HW.same2 H0.out _ rfl), Lib.hid rfl, hp, HL, Lib.hid rfl, Trn.drew _ _⟩
  case round =>
    clear H0 HL hnx
    obtain ⟨s', p', rfl, rfl, rfl, H1, HS, hp', HL, HR, ht⟩ := hrel
    have h := H1.out
    have hs' : p' < s'.l.length := by rw [HS.out]; exact hp'
    have hsl : s'.l.length < 100000 := by rw [HS.out]; exact hlen
    obtain ⟨G, cap, hhv, hcap, hc⟩ := own_pos (show OwnK encI1 1 3 0 hv s'.l wr from h.heap) (by omega)
    subst hhv
    obtain ⟨c4, c5⟩ := h.cells
    have okp := fun (i : Nat) (hi : i < s'.l.length) => HL.out s'.l[i] (List.getElem_mem hi)
    have PUTX := Lib.hid (fun (W' : World) (hW : W'.heap = wr.heap) => hput_W (HW.same2 h W' hW) (x := x) (p := p') hx hs')
    have hr0 : Hp.sink (Du.ltP S) s' x p' = if h : (Hp.next (Du.ltP S) s' p').2 = true ∧ (Du.ltP S) (s'.at_ (Hp.next (Du.ltP S) s' p').1) x = true then Hp.sink (Du.ltP S) (s'.put (s'.at_ (Hp.next (Du.ltP S) s' p').1) p') x (Hp.next (Du.ltP S) s' p').1 else s'.put x p' := by
      rw [Hp.sink]
    have hnl := fun e => Hp.next_lt (Du.ltP S) (s := s') (p := p') e
    generalize Hp.next (Du.ltP S) s' p' = nx at *
    obtain ⟨q, b⟩ := nx
    simp only at hr0 hnl ⊢
    cases b with
    | true =>
      obtain ⟨hpq, hql⟩ := hnl rfl
      have cq := hc q hql
      have okq := okp q hql
      have ha := fun n => hahead_W h okq hx n
      rw [at_get hql] at hr0
      have HPA := Lib.hid (fun (W' : World) (hW : W'.heap = wr.heap) => hput_W (HW.same2 h W' hW) (x := s'.l[q]) (p := p') okq hs')
      have HOK := Lib.hid (ok_put_W (p := p') HL.out okq)
      generalize s'.l[q] = y at *
      have hq2 : q < 100000 := by omega
      have HPQ := Lib.hid hpq
      have HQL := Lib.hid hql
      clear hc okp hnl
      cases hlt : (Du.ltP S) y x with
      | true =>
        rw [hlt] at ha
        rw [dif_pos ⟨rfl, hlt⟩] at hr0
        have HR0 := Lib.hid hr0
        clear hr0 hlt
        go_wp2_with fail
        go_quiet ((go_at_call 73; exact ha _))
        go_wp2_with fail
        refine (HPA.out (wr.drewN nq) rfl).mono ?_
        rintro e w4 ⟨rfl, H4, t4⟩
        have hlen4 : (s'.put y p').l.length = s.l.length := (Hp.put_len _ _ _).trans HS.out
        have hnx4 := hnext_W H4 (p := q) (by omega) hq2 HOK.out (by omega)
        have HL4 := Lib.hid hlen4
        clear hlen4
        go_wp2_with fail
        refine hnx4.mono ?_
        rintro e w5 ⟨rfl, n5, rfl⟩
        have HR1 := HR.out
        rw [HR0.out] at HR1
        have hpq3 := HPQ.out
        have hql3 := HQL.out
        have hs3 := HS.out
        clear hnx4
        go_wp2_with fail
        go_roundw
        case rel => exact ⟨s'.put y p', q, rfl, rfl, rfl, Lib.hid (HW.same2 H4 _ rfl), HL4, by omega, HOK, Lib.hid HR1, ((ht.trans (Trn.drew wr _)).trans (t4.mono fun b _ e => .inl e)).trans (Trn.drew _ _)⟩
        case measure => simp [intOf]; omega
      | false =>
        rw [hlt] at ha
        rw [dif_neg (fun e => by have := e.2; rw [hlt] at this; cases this)] at hr0
        have hr1 := HR.out
        rw [hr0] at hr1
        have HR1 := Lib.hid hr1
        clear hr0 hr1 hlt
        go_wp2_with fail
        go_quiet ((go_at_call 73; exact ha _))
        go_wp2_with fail
        refine (PUTX.out (wr.drewN nq) rfl).mono ?_
        rintro e w4 ⟨rfl, H4, t4⟩
        go_wp2_with fail
        go_end0
        rw [← HR1.out]
        exact ⟨rfl, H4, (ht.trans (Trn.drew wr nq)).trans (t4.mono fun b _ e => .inl e)⟩
    | false =>
      rw [dif_neg (fun e => by cases e.1)] at hr0
      have hr1 := HR.out
      rw [hr0] at hr1
      have HR1 := Lib.hid hr1
      clear hr0 hr1 hnl hc okp
      go_wp2_with fail
      go_quiet (fail)
      go_wp2_with fail
      refine (PUTX.out (wr.drewN nq) rfl).mono ?_
      rintro e w4 ⟨rfl, H4, t4⟩
      go_wp2_with fail
      go_end0
      rw [← HR1.out]
      exact ⟨rfl, H4, (ht.trans (Trn.drew wr nq)).trans (t4.mono fun b _ e => .inl e)⟩
end
end Go.Proofs.Ytchlemajppnehaa

/- The heap's own functions: push, take (W). -/
set_option maxRecDepth 100000
namespace Go.Proofs.Ytchlemajppnehaa
open Go Go.RowKit Go.Shelf Go.Maps
section
variable {X B db : Nat} {S : Du.St} {L : TL} {hv wv dv : Value} {s : Hp.Sp} {w w' : World}
set_option maxHeartbeats 4000000 in
theorem hpush_W (h : HW X B db S L wv dv hv s w) {x : Nat} (hx : (fun y => y < S.l.length) x) (hl : ∀ y ∈ s.l, (fun y => y < S.l.length) y) (hlen : s.l.length + 1 < 100000) :
    Calls Try.prog 50 #[.pointer (some ⟨B, 0, none⟩), .int .i64 (x : Int)] w fun e w' => e = .returned (.tuple #[]) ∧ ∃ v, HW X B db S L wv dv v (Hp.push (Du.ltP S) s x) w' ∧ (∀ b, v.ownBlock = some b → hv.ownBlock = some b ∨ w.heap.size ≤ b) ∧ Trn (fun b => b = B ∨ ((fun b => hv.ownBlock = some b)) b) w w' := by
  have c0 := h.cells.1
  have hown : OwnK encI1 1 3 0 hv s.l w := h.heap
  obtain ⟨ao, cap, hvv, _⟩ := ownK_form hown
  go_enter Try.func50, Try.ntmps50
  go_wp2_with (first
    | (at_builtin; go_loud (
       refine wpList_apK encI1_len (by decide) encI1_one (x := fun _ => True) Try.underlying22 infoInt rfl (by decide) rfl _ _ rfl 0 hv s.l hvv.symm (ownK_alloc hown _) (.slice (some ⟨w.heap.size, 0, none⟩) 1 1) [x] (by simp) rfl ((RK.oneN (enc := encI1) x 3 _ _ (by simp) _ rfl)) (by simp; omega) (Nat.zero_le _) ?_
       intro g cp w1 ho1 hg1 hl1
       obtain ⟨hgg, hk, t1⟩ := own_app hown hg1 hl1
       obtain ⟨nB, d0, df, ⟨bc, bt, hBk⟩, h2⟩ := hlisted_W h hk ho1 (fun b e => by cases e; exact hgg)
       have hgB : ¬ g = B := nB g rfl
       have hBg : ¬ B = g := fun e => hgB e.symm
       have t2 : Trn (fun b => b = B ∨ ((fun b => hv.ownBlock = some b)) b) w (w1.setCell ⟨B, 0, none⟩ (.slice (some ⟨g, 0, none⟩) (s.l ++ [x]).length cp)) := (t1.mono (g := fun b => b = B ∨ ((fun b => hv.ownBlock = some b)) b) (fun b _ e => .inr (id e))).trans (Trn.set (f := grow (fun b => b = B ∨ ((fun b => hv.ownBlock = some b)) b) w w1) hBk (.inl (.inl rfl)) 0 _)
       have hl2 : ∀ y ∈ s.l ++ [x], (fun y => y < S.l.length) y := fun y hy => by
         rcases List.mem_append.1 hy with e | e
         · exact hl y e
         · rw [List.mem_singleton.1 e]; exact hx
       have hr := hrise_W h2 (x := x) (p := s.l.length) (by simp) hx hl2 (by simp; omega)
       simp only [List.length_append, List.length_singleton] at hr t2))
    | (go_at_call 70; refine hr.mono ?_; rintro e w2 ⟨rfl, h3, t3⟩))
  go_end0
  have hsz : w.heap.size ≤ w1.heap.size := t1.size
  refine ⟨rfl, _, h3, fun b e => by cases e; exact hgg, t2.trans (t3.mono fun b hb e => ?_)⟩
  cases e; exact hgg.elim (fun e => .inl (.inr e)) (fun e => .inr ⟨e, hb⟩)
set_option maxHeartbeats 4000000 in
theorem htake_W (h : HW X B db S L wv dv hv s w) {p : Nat} (hp : p < s.l.length) (hl : ∀ y ∈ s.l, (fun y => y < S.l.length) y) (hlen : s.l.length < 100000) :
    Calls Try.prog 47 #[.pointer (some ⟨B, 0, none⟩), .int .i64 (p : Int)] w fun e w' => e = .returned (encI (Hp.take (Du.ltP S) s p).1) ∧ ∃ v, HW X B db S L wv dv v (Hp.take (Du.ltP S) s p).2 w' ∧ (∀ b, v.ownBlock = some b → hv.ownBlock = some b) ∧ Trn (fun b => b = B ∨ ((fun b => hv.ownBlock = some b)) b) w w' := by
  have c0 := h.cells.1
  have hown : OwnK encI1 1 3 0 hv s.l w := h.heap
  obtain ⟨G, cap, hvv, hcap, hc⟩ := own_pos hown (by omega)
  obtain ⟨n, hn⟩ : ∃ n, s.l.length = n + 1 := ⟨s.l.length - 1, by omega⟩
  rw [hvv, hn] at c0
  rw [hn] at hcap
  have hown' := hown
  rw [hvv] at hown'
  have cp := hc p hp
  have ce := hc n (by omega)
  have e0 : Hp.take (Du.ltP S) s p = (s.l[p], Hp.refill (Du.ltP S) ⟨s.l.take n, s.pl⟩ (s.l[n]'(by omega)) p n) := by
    unfold Hp.take
    rw [at_get hp, show s.l.length - 1 = n by omega, at_get (show n < s.l.length by omega)]
  rw [e0]
  clear e0
  have hye := hl (s.l[n]'(by omega)) (List.getElem_mem (by omega))
  have hsl := run_take1 Try.underlying22 infoInt G (n + 1) cap n (by omega) hcap
  have all := fun nq => hlisted_W (w1 := w.drewN nq) (v := .slice (some ⟨G, 0, none⟩) n cap) (l := s.l.take n) h (fun b _ _ => rfl) (own_kept (ownK_take encI1_len hown' n (by omega)) (fun g _ => rfl)) (fun b e => by cases e; exact .inl (by rw [hvv]; rfl))
  have nB := (all 0).1
  have df := (all 0).2.2.1
  have h2 := fun nq => (all nq).2.2.2.2
  have t2 : ∀ nq, Trn (fun b => b = B ∨ ((fun b => hv.ownBlock = some b)) b) w ((w.drewN nq).setCell ⟨B, 0, none⟩ (.slice (some ⟨G, 0, none⟩) n cap)) := fun nq => by
    obtain ⟨_, _, hBk⟩ := (all nq).2.2.2.1
    exact (Trn.drew w nq).trans (Trn.set (f := grow (fun b => b = B ∨ ((fun b => hv.ownBlock = some b)) b) w (w.drewN nq)) hBk (.inl (.inl rfl)) 0 _)
  have hl2 : ∀ y ∈ s.l.take n, (fun y => y < S.l.length) y := fun y hy => hl y (List.mem_of_mem_take hy)
  have hln : (s.l.take n).length = n := by rw [List.length_take]; omega
  have hGB : ¬ G = B := nB G rfl
  have hBG : ¬ B = G := fun e => hGB e.symm
  have hfz := World.ownsRow.frozenAt hown'
  have bfz : ∀ i, w.frozen? ⟨B, i, none⟩ = false := df
  have ho : ∀ b, (Value.slice (some ⟨G, 0, none⟩) n cap).ownBlock = some b → hv.ownBlock = some b := fun b e => by rw [hvv]; exact e
  generalize s.l[p] = x at *
  generalize s.l[n]'(by omega) = y at *
  have hpn : p ≤ n := by omega
  have hn5 : n < 100000 := by omega
  have T2 := Lib.hid t2
  have H2 := Lib.hid h2
  clear hc hown hown' hl hp hlen all t2 hvv
  have hr := fun (hpn : p < n) (nq : Nat) => hrise_W (h2 nq) (x := y) (p := p) (by show p < (s.l.take n).length; rw [hln]; exact hpn) hye hl2 (by show (s.l.take n).length < _; rw [hln]; omega)
  have hrl := Hp.rise_len (Du.ltP S) p ⟨s.l.take n, s.pl⟩ y p (Nat.le_refl _)
  have hrm := fun (hpn : p < n) => Hp.rise_mem (Du.ltP S) (Q := (fun y => y < S.l.length)) p ⟨s.l.take n, s.pl⟩ y p (Nat.le_refl _) (by show p < (s.l.take n).length; rw [hln]; exact hpn) hye hl2
  unfold Hp.refill
  generalize Hp.rise (Du.ltP S) ⟨s.l.take n, s.pl⟩ y p = R at *
  clear h2
  by_cases hpe : p < n
  · have hr := hr hpe
    have hrm := hrm hpe
    have d1 : decide ((p : Int) < (n : Int)) = true := by simpa using hpe
    simp only [if_pos hpe]
    obtain ⟨R1, q⟩ := R
    simp only at hr hrl hrm ⊢
    have hs := fun (w2 : World) (h3 : HW X B db S L wv dv (.slice (some ⟨G, 0, none⟩) n cap) R1 w2) => hsink_W h3 (x := y) (p := p) (by rw [hrl.1]; show p < (s.l.take n).length; rw [hln]; exact hpe) hye hrm (by rw [hrl.1]; show (s.l.take n).length < _; rw [hln]; omega)
    by_cases hq : q = p
    · subst hq
      simp only [if_true]
      go_enter Try.func47, Try.ntmps47
      go_wp2_with fail
      go_quiet (fail)
      go_wp2_with (first
        | (go_at_call 70; refine (hr _).mono ?_; rintro e w2 ⟨rfl, h3, t3⟩)
        | (go_at_call 71; refine (hs w2 h3).mono ?_; rintro e w3 ⟨rfl, h4, t4⟩))
      go_ret
      exact ⟨rfl, _, h4, ho, ((T2.out _).trans (t3.mono fun b hb e => .inl (.inr (ho b e)))).trans (t4.mono fun b hb e => .inl (.inr (ho b e)))⟩
    · have d2 : ((q : Int) == (p : Int)) = false := by simp; omega
      simp only [if_neg hq]
      go_enter Try.func47, Try.ntmps47
      go_wp2_with fail
      go_quiet (fail)
      go_wp2_with (go_at_call 70; refine (hr _).mono ?_; rintro e w2 ⟨rfl, h3, t3⟩)
      go_ret
      exact ⟨rfl, _, h3, ho, (T2.out _).trans (t3.mono fun b hb e => .inl (.inr (ho b e)))⟩
  · have d1 : decide ((p : Int) < (n : Int)) = false := by simp; omega
    simp only [if_neg hpe]
    go_enter Try.func47, Try.ntmps47
    go_wp2_with fail
    go_quiet (fail)
    go_wp2_with fail
    go_ret
    exact ⟨rfl, _, (H2.out _), ho, (T2.out _)⟩
end
end Go.Proofs.Ytchlemajppnehaa

/- A Due's walk: who may be next. -/
set_option maxRecDepth 100000
namespace Go.Proofs.Ytchlemajppnehaa
namespace Du
open Tb Lr
def St.lp (S : St) (p : Nat) : Nat := S.l.getD p 0
/-- The places that wait when told are told. -/
def fr (S : St) (most : Int) (told : List Nat) (p : Nat) : Prop := p < S.l.length ∧ (rat S.T.rows (S.lp p)).a ≤ most ∧ S.lp p ∉ told ∧ (p = 0 ∨ S.lp (Hp.above p) ∈ told)
def wait (S : St) (most : Int) (s : Hp.Sp) (p : Nat) : Hp.Sp := if p < S.l.length ∧ (rat S.T.rows (S.lp p)).a ≤ most then Hp.push (ltP S) s p else s
/-- Those of o that are by then, in order. -/
structure Ordered (S : St) (most : Int) (o T : List Nat) : Prop where
  mem : ∀ i, i ∈ T ↔ i ∈ o ∧ (rat S.T.rows i).a ≤ most
  lt : T.Pairwise (fun i j => lt S.T.rows i j = true)
variable {S : St} {most : Int} {o T : List Nat} {N : Nat}
theorem is_congr {lt : Nat → Nat → Bool} {A A' : Nat → Prop} {s : Hp.Sp} (h : Hp.Is lt A s) (hA : ∀ v, A v ↔ A' v) : Hp.Is lt A' s := ⟨h.inj, fun v => (h.rng v).trans (hA v), h.ok⟩
theorem InvD.lp_mem (h : InvD S o N) {p : Nat} (hp : p < S.l.length) : S.lp p ∈ o := (h.heap.rng _).1 ⟨p, hp, rfl⟩
theorem InvD.lp_inj (h : InvD S o N) {p q : Nat} (hp : p < S.l.length) (hq : q < S.l.length) (e : S.lp p = S.lp q) : p = q := h.heap.inj p q hp hq e
theorem wait_is {A : Nat → Prop} {s : Hp.Sp} (h : Hp.Is (ltP S) A s) (hpl : s.pl = []) (p : Nat) (hp : ¬ A p) : Hp.Is (ltP S) (fun v => A v ∨ (v = p ∧ p < S.l.length ∧ (rat S.T.rows (S.lp p)).a ≤ most)) (wait S most s p) ∧ (wait S most s p).pl = [] ∧ (wait S most s p).l.length ≤ s.l.length + 1 := by
  unfold wait
  split
  · rename_i hc
    obtain ⟨h1, h2, h3, _⟩ := Hp.push_ok (ordP S) h hp
    refine ⟨is_congr h1 fun v => ?_, ?_, by omega⟩
    · constructor
      · rintro (e | e)
        · exact .inl e
        · exact .inr ⟨e, hc⟩
      · rintro (e | e)
        · exact .inl e
        · exact .inr e.1
    · rw [hpl] at h3
      exact List.length_eq_zero_iff.1 h3
  · rename_i hc
    refine ⟨is_congr h fun v => ?_, hpl, by omega⟩
    constructor
    · exact .inl
    · rintro (e | e)
      · exact e
      · exact absurd e.2 hc
theorem fr_len {s : Hp.Sp} {told : List Nat} (h : Hp.Is (ltP S) (fr S most told) s) : s.l.length ≤ S.l.length := by
  have h1 : ((List.range s.l.length).map s.at_).Nodup := by
    refine List.pairwise_map.2 (List.Pairwise.imp_of_mem (fun {a b} ha hb hne e => ?_) List.nodup_range)
    exact hne (h.inj a b (List.mem_range.1 ha) (List.mem_range.1 hb) e)
  have := pigeon S.l.length _ h1 (fun v hv => by
    obtain ⟨p, hp, rfl⟩ := List.mem_map.1 hv
    exact ((h.rng _).1 ⟨p, List.mem_range.1 hp, rfl⟩).1)
  simpa using this
/-- An untold one has an untold one ahead that waits. -/
theorem InvD.ahead (h : InvD S o N) {told : List Nat} : ∀ (k p : Nat), p ≤ k → p < S.l.length → (rat S.T.rows (S.lp p)).a ≤ most → S.lp p ∉ told → ∃ q, fr S most told q ∧ ltP S p q = false
  | 0, p, hk, hp, ha, hn => ⟨p, ⟨hp, ha, hn, .inl (by omega)⟩, (ordP S).irr p⟩
  | k + 1, p, hk, hp, ha, hn => by
    by_cases h0 : p = 0
    · exact ⟨p, ⟨hp, ha, hn, .inl h0⟩, (ordP S).irr p⟩
    · by_cases ht : S.lp (Hp.above p) ∈ told
      · exact ⟨p, ⟨hp, ha, hn, .inr ht⟩, (ordP S).irr p⟩
      · have hl := Hp.above_lt (p := p) (by omega)
        have hok : lt S.T.rows (S.lp p) (S.lp (Hp.above p)) = false := h.heap.ok p (by omega) hp
        have ha2 : (rat S.T.rows (S.lp (Hp.above p))).a ≤ most := by
          rw [lt_no] at hok
          omega
        obtain ⟨q, hq, hlt⟩ := h.ahead k (Hp.above p) (by omega) (by omega) ha2 ht
        exact ⟨q, hq, (ordP S).neg _ _ _ hok hlt⟩
theorem Ordered.nodup (h : Ordered S most o T) : T.Nodup := h.lt.imp fun {a b} e e2 => by
  subst e2
  rw [(ord S.T.rows).irr] at e
  cases e
theorem InvD.place_of (h : InvD S o N) {i : Nat} (hi : i ∈ o) : ∃ p, p < S.l.length ∧ S.lp p = i := (h.heap.rng i).2 hi
/-- Nobody waits: all are told. -/
theorem InvD.fr_end (h : InvD S o N) (hT : Ordered S most o T) {j : Nat} {s : Hp.Sp} (hs : Hp.Is (ltP S) (fr S most (T.take j)) s) (hj : j < T.length) : 0 < s.l.length := by
  have hm := List.getElem_mem hj
  obtain ⟨h1, h2⟩ := (hT.mem _).1 hm
  obtain ⟨p, hp, e⟩ := h.place_of h1
  have hn : S.lp p ∉ T.take j := fun e2 => by
    rw [e] at e2
    obtain ⟨i, hi, e3⟩ := List.mem_iff_getElem.1 e2
    rw [List.getElem_take] at e3
    have hil : i < j := by rw [List.length_take] at hi; omega
    have hq := List.pairwise_iff_getElem.1 hT.lt i j (by omega) hj hil
    rw [e3, (ord S.T.rows).irr] at hq
    cases hq
  obtain ⟨q, hq, _⟩ := h.ahead (most := most) p p (Nat.le_refl _) hp (by rw [e]; exact h2) hn
  obtain ⟨z, hz, _⟩ := (hs.rng q).2 hq
  omega
theorem fr_none (h : InvD S o N) (hT : Ordered S most o T) {s : Hp.Sp} (hs : Hp.Is (ltP S) (fr S most (T.take T.length)) s) : s.l.length = 0 := by
  rcases Nat.eq_zero_or_pos s.l.length with e | e
  · exact e
  · obtain ⟨h1, h2, h3, _⟩ := (hs.rng _).1 ⟨0, e, rfl⟩
    rw [List.take_length] at h3
    exact absurd ((hT.mem _).2 ⟨h.lp_mem h1, h2⟩) h3
/-- Who is first of those that wait is next. -/
theorem InvD.fr_next (h : InvD S o N) (hT : Ordered S most o T) {j : Nat} {s : Hp.Sp} (hs : Hp.Is (ltP S) (fr S most (T.take j)) s) (hj : j < T.length) : S.lp (s.at_ 0) = T[j] := by
  have h0 := h.fr_end hT hs hj
  obtain ⟨h1, h2, h3, _⟩ := (hs.rng _).1 ⟨0, h0, rfl⟩
  have hx : S.lp (s.at_ 0) ∈ T := (hT.mem _).2 ⟨h.lp_mem h1, h2⟩
  obtain ⟨i, hi, e⟩ := List.mem_iff_getElem.1 hx
  rcases Nat.lt_trichotomy i j with hlt | heq | hgt
  · exfalso
    apply h3
    rw [← e]
    refine List.mem_iff_getElem.2 ⟨i, by rw [List.length_take]; omega, by rw [List.getElem_take]⟩
  · subst heq; exact e.symm
  · exfalso
    have hlt := List.pairwise_iff_getElem.1 hT.lt j i hj hi hgt
    have hm := List.getElem_mem hj
    obtain ⟨m1, m2⟩ := (hT.mem _).1 hm
    obtain ⟨p, hp, ep⟩ := h.place_of m1
    have hn : S.lp p ∉ T.take j := fun e2 => by
      rw [ep] at e2
      obtain ⟨i', hi', e3⟩ := List.mem_iff_getElem.1 e2
      rw [List.getElem_take] at e3
      have hil : i' < j := by rw [List.length_take] at hi'; omega
      have hq := List.pairwise_iff_getElem.1 hT.lt i' j (by omega) hj hil
      rw [e3, (ord S.T.rows).irr] at hq
      cases hq
    obtain ⟨q, hq, hlq⟩ := h.ahead (most := most) p p (Nat.le_refl _) hp (by rw [ep]; exact m2) hn
    obtain ⟨z, hz, ez⟩ := (hs.rng q).2 hq
    have hle := hs.le (ordP S) z hz
    rw [ez] at hle
    have := (ordP S).neg _ _ _ hlq hle
    have h5 : ltP S p (s.at_ 0) = lt S.T.rows T[j] T[i] := by
      show lt S.T.rows (S.lp p) (S.lp (s.at_ 0)) = _
      rw [ep, e]
    rw [h5, hlt] at this
    cases this
/-- The first wait. -/
theorem fr_start : ∃ s, s = wait S most ⟨[], []⟩ 0 ∧ Hp.Is (ltP S) (fr S most []) s ∧ s.pl = [] := by
  have h0 : Hp.Is (ltP S) (fun _ => False) ⟨[], []⟩ := ⟨fun p q hp => absurd hp (Nat.not_lt_zero p), fun v => ⟨fun ⟨p, hp, _⟩ => absurd hp (Nat.not_lt_zero p), fun e => e.elim⟩, fun p _ hp => absurd hp (Nat.not_lt_zero p)⟩
  obtain ⟨h1, h2, _⟩ := wait_is (most := most) h0 rfl 0 (fun e => e)
  refine ⟨_, rfl, is_congr h1 fun v => ?_, h2⟩
  unfold fr
  constructor
  · rintro (e | ⟨rfl, e1, e2⟩)
    · exact e.elim
    · exact ⟨e1, e2, fun e => (by cases e), .inl rfl⟩
  · rintro ⟨e1, e2, _, e4⟩
    rcases e4 with e | e
    · subst e; exact .inr ⟨rfl, e1, e2⟩
    · cases e
/-- A step: the first one is told, and those below it wait. -/
theorem InvD.fr_step (h : InvD S o N) (hT : Ordered S most o T) {j : Nat} {s : Hp.Sp} (hs : Hp.Is (ltP S) (fr S most (T.take j)) s) (hpl : s.pl = []) (hj : j < T.length) {pl : Nat} {s1 : Hp.Sp} (ht : Hp.take (ltP S) s 0 = (pl, s1)) :
    pl < S.l.length ∧ S.lp pl = T[j] ∧ s1.pl = [] ∧ s1.l.length < s.l.length ∧ (∀ y ∈ s1.l, y < S.l.length) ∧ (∀ y ∈ (wait S most s1 (2 * pl + 1)).l, y < S.l.length) ∧ (wait S most s1 (2 * pl + 1)).pl = [] ∧ (wait S most s1 (2 * pl + 1)).l.length ≤ s1.l.length + 1 ∧
      Hp.Is (ltP S) (fr S most (T.take (j + 1))) (wait S most (wait S most s1 (2 * pl + 1)) (2 * pl + 2)) ∧ (wait S most (wait S most s1 (2 * pl + 1)) (2 * pl + 2)).pl = [] := by
  have h0 := h.fr_end hT hs hj
  have hn := h.fr_next hT hs hj
  have tk := Hp.take_ok (ordP S) hs h0
  rw [ht] at tk
  obtain ⟨t1, t2, t3, t4, _⟩ := tk
  simp only at t1 t2 t3 t4
  subst t1
  obtain ⟨f1, f2, f3, f4⟩ := (hs.rng _).1 ⟨0, h0, rfl⟩
  generalize hpl2 : s.at_ 0 = pl at *
  rw [hpl] at t4
  have t4 : s1.pl = [] := List.length_eq_zero_iff.1 t4
  have hab : ∀ c, (c = 2 * pl + 1 ∨ c = 2 * pl + 2) → Hp.above c = pl := fun c hc => by rcases hc with rfl | rfl; exact Hp.above_l pl; exact Hp.above_r pl
  have hno : ∀ c, (c = 2 * pl + 1 ∨ c = 2 * pl + 2) → ¬ fr S most (T.take j) c := fun c hc hf => by
    rcases hf.2.2.2 with e | e
    · omega
    · rw [hab c hc] at e; exact f3 e
  obtain ⟨w1, w2, w3⟩ := wait_is (most := most) t2 t4 (2 * pl + 1) (fun e => hno _ (.inl rfl) e.1)
  obtain ⟨v1, v2, _⟩ := wait_is (most := most) w1 w2 (2 * pl + 2) (fun e => by
    rcases e with e | e
    · exact hno _ (.inr rfl) e.1
    · omega)
  have hsub : ∀ {A : Nat → Prop} {z : Hp.Sp}, Hp.Is (ltP S) A z → (∀ v, A v → v < S.l.length) → ∀ y ∈ z.l, y < S.l.length := fun {A z} hz hA y hy => by
    obtain ⟨p, hp, e⟩ := List.mem_iff_getElem.1 hy
    exact hA y ((hz.rng y).1 ⟨p, hp, by show z.l.getD p 0 = y; rw [List.getD_eq_getElem?_getD, List.getElem?_eq_getElem hp]; exact e⟩)
  refine ⟨f1, hn, t4, by omega, hsub t2 (fun v e => e.1.1), hsub w1 (fun v e => ?_), w2, w3, is_congr v1 fun v => ?_, v2⟩
  · rcases e with e | e
    · exact e.1.1
    · rw [e.1]; exact e.2.1
  · have htk : T.take (j + 1) = T.take j ++ [T[j]] := by rw [List.take_succ_eq_append_getElem hj]
    unfold fr
    rw [htk]
    simp only [List.mem_append, List.mem_singleton, ← hn]
    constructor
    · rintro ((⟨⟨e1, e2, e3, e4⟩, e5⟩ | ⟨e1, e2, e3⟩) | ⟨e1, e2, e3⟩)
      · refine ⟨e1, e2, fun e => e.elim e3 (fun e => e5 (h.lp_inj e1 f1 e)), e4.imp id .inl⟩
      · subst e1
        have hne : S.lp (2 * pl + 1) ∉ T.take j := fun e => by
          obtain ⟨i, hi, ei⟩ := List.mem_iff_getElem.1 e
          rw [List.getElem_take] at ei
          have hil : i < j := by rw [List.length_take] at hi; omega
          have hlt := List.pairwise_iff_getElem.1 hT.lt i j (by omega) hj hil
          rw [ei, ← hn] at hlt
          have hok : lt S.T.rows (S.lp (2 * pl + 1)) (S.lp (Hp.above (2 * pl + 1))) = false := h.heap.ok _ (by omega) e2
          rw [Hp.above_l, hlt] at hok
          cases hok
        refine ⟨e2, e3, fun e => e.elim hne (fun e => ?_), .inr (.inr (by rw [Hp.above_l]))⟩
        have := h.lp_inj e2 f1 e
        omega
      · subst e1
        have hne : S.lp (2 * pl + 2) ∉ T.take j := fun e => by
          obtain ⟨i, hi, ei⟩ := List.mem_iff_getElem.1 e
          rw [List.getElem_take] at ei
          have hil : i < j := by rw [List.length_take] at hi; omega
          have hlt := List.pairwise_iff_getElem.1 hT.lt i j (by omega) hj hil
          rw [ei, ← hn] at hlt
          have hok : lt S.T.rows (S.lp (2 * pl + 2)) (S.lp (Hp.above (2 * pl + 2))) = false := h.heap.ok _ (by omega) e2
          rw [Hp.above_r, hlt] at hok
          cases hok
        refine ⟨e2, e3, fun e => e.elim hne (fun e => ?_), .inr (.inr (by rw [Hp.above_r]))⟩
        have := h.lp_inj e2 f1 e
        omega
    · rintro ⟨e1, e2, e3, e4⟩
      have e5 : S.lp v ∉ T.take j := fun e => e3 (.inl e)
      have e6 : v ≠ pl := fun e => e3 (.inr (by rw [e]))
      rcases e4 with e | e | e
      · exact .inl (.inl ⟨⟨e1, e2, e5, .inl e⟩, e6⟩)
      · exact .inl (.inl ⟨⟨e1, e2, e5, .inr e⟩, e6⟩)
      · by_cases hv0 : v = 0
        · exact .inl (.inl ⟨⟨e1, e2, e5, .inl hv0⟩, e6⟩)
        · have hav := Hp.above_lt (p := v) (by omega)
          have := h.lp_inj (by omega) f1 e
          rcases Hp.above_two (by omega) this with rfl | rfl
          · exact .inl (.inr ⟨rfl, e1, e2⟩)
          · exact .inr ⟨rfl, e1, e2⟩
end Du
end Go.Proofs.Ytchlemajppnehaa
