/- 2 texts put together: Fit, Cm. -/
import Derived.Test.YtfmghbmbahembaaJB9
import Derived.Test.YtfmghbmbahembaaJMessageRecords1
/- message.Fit is the mathematics' fit, of a message of few and short records. -/
namespace Go.Proofs.Ytfmghbmbahembaa
open Go.RowKit Go.Shelf Go.Maps
attribute [local go_sem] Oper.semAt_some

theorem own_len {v : Value} {l : List UInt8} {base : Nat} {W : World} (h : OwnE encB 5 base v l W) : ∃ ao cp, v = .slice ao l.length cp := by
  rcases ownE_form h with ⟨rfl, rfl⟩ | ⟨g, cap, rfl⟩
  · exact ⟨none, 0, rfl⟩
  · exact ⟨_, _, rfl⟩
theorem slim_drops {m : Ms.M} (h : Slim m) (k : Nat) : Slim (Ms.drops m k) := by
  unfold Ms.drops
  split
  · exact ⟨h.qs, h.names, h.an, h.ns, few_nil _⟩
  · exact ⟨h.qs, h.names, h.an, few_nil _, few_nil _⟩
  · exact ⟨h.qs, h.names, few_nil _, few_nil _, few_nil _⟩
theorem few_drops {m : Ms.M} (h : FewR m.an 3000 ∧ FewR m.ns 3000 ∧ FewR m.ad 3000) (k : Nat) : FewR (Ms.drops m k).an 3000 ∧ FewR (Ms.drops m k).ns 3000 ∧ FewR (Ms.drops m k).ad 3000 := by
  unfold Ms.drops
  split
  · exact ⟨h.1, h.2.1, few_nil _⟩
  · exact ⟨h.1, few_nil _, few_nil _⟩
  · exact ⟨few_nil _, few_nil _, few_nil _⟩
def fitRest : Nat → List Nat
  | 0 => [0, 1, 2]
  | 1 => [1, 2]
  | 2 => [2]
  | _ => []
def FitRet (m : Ms.M) (most : Int) (w : World) (e : Ending) (w' : World) : Prop := ∃ v, e = .returned (.tuple #[v, .int .i64 (Ms.fit m most).2]) ∧ OwnE encB 5 w.heap.size v (Ms.fit m most).1 w' ∧ Below w.heap.size w w'
def fitCells (m : Ms.M) (vq va vn vd : Value) (k : Nat) : Array Value := match k with
  | 0 => #[.int .i64 m.id, .bool m.resp, .int .i64 m.opc, .bool m.auth, .bool true, .bool m.des, .bool m.avl, .int .i64 m.code, vq, va, vn, vd, .bool m.edns, .int .i64 m.size]
  | 1 => #[.int .i64 m.id, .bool m.resp, .int .i64 m.opc, .bool m.auth, .bool true, .bool m.des, .bool m.avl, .int .i64 m.code, vq, va, vn, (.slice none 0 0), .bool m.edns, .int .i64 m.size]
  | 2 => #[.int .i64 m.id, .bool m.resp, .int .i64 m.opc, .bool m.auth, .bool true, .bool m.des, .bool m.avl, .int .i64 m.code, vq, va, (.slice none 0 0), (.slice none 0 0), .bool m.edns, .int .i64 m.size]
  | _ => #[.int .i64 m.id, .bool m.resp, .int .i64 m.opc, .bool m.auth, .bool true, .bool m.des, .bool m.avl, .int .i64 m.code, vq, (.slice none 0 0), (.slice none 0 0), (.slice none 0 0), .bool m.edns, .int .i64 m.size]

set_option maxRecDepth 100000 in
set_option maxHeartbeats 8000000 in
theorem fit_any (m : Ms.M) (vq va vn vd : Value) (most : Int) (w : World) (hL : Lists m vq va vn vd w) (hs : Slim m) (h3 : FewR m.an 3000 ∧ FewR m.ns 3000 ∧ FewR m.ad 3000) :
    Calls Try.prog 24 #[msgV m vq va vn vd, .int .i64 most] w (FitRet m most w) := by
  have HL := Lib.hid hL
  have HS := Lib.hid hs
  have H3 := Lib.hid h3
  obtain ⟨aq, cq, rfl, _⟩ := hL.qs.form
  obtain ⟨aa, ca, rfl, _⟩ := hL.an.form
  obtain ⟨an, cn, rfl, _⟩ := hL.ns.form
  obtain ⟨ad, cd, rfl, _⟩ := hL.ad.form
  clear hL hs h3
  obtain ⟨w0, hw0⟩ : ∃ w0, w.alloc (.cells #[.int .i64 m.id, .bool m.resp, .int .i64 m.opc, .bool m.auth, .bool m.cut, .bool m.des, .bool m.avl, .int .i64 m.code, (.slice aq m.qs.length cq), (.slice aa m.an.length ca), (.slice an m.ns.length cn), (.slice ad m.ad.length cd), .bool m.edns, .int .i64 m.size] 27) = w0 := ⟨_, rfl⟩
  have hb0 : Below w.heap.size w w0 := by rw [← hw0]; exact (Below.refl _ _).alloc (Nat.le_refl _) _
  have hsz0 : w0.heap.size = w.heap.size + 1 := by rw [← hw0]; simp
  have K0 : Hid (Block w0 w.heap.size #[.int .i64 m.id, .bool m.resp, .int .i64 m.opc, .bool m.auth, .bool m.cut, .bool m.des, .bool m.avl, .int .i64 m.code, (.slice aq m.qs.length cq), (.slice aa m.an.length ca), (.slice an m.ns.length cn), (.slice ad m.ad.length cd), .bool m.edns, .int .i64 m.size] 27) := Lib.hid (by rw [← hw0]; exact Block.new _ _ _)
  have EM := Lib.hid (enc_any m _ _ _ _ w0 (HL.out.below hb0) HS.out H3.out.1 H3.out.2.1 H3.out.2.2)
  have HW0 := Lib.hid hw0
  unfold EncRet at EM
  unfold msgV at EM ⊢
  obtain ⟨l, c, hlc⟩ : ∃ l c, Ms.enc m = (l, c) := ⟨_, _, rfl⟩
  have HFT : Hid (Ms.fit m most = if c = 1 then ([], 1) else if c = 0 ∧ (l.length : Int) ≤ most then (l, 0) else Ms.fitF m most [0, 1, 2]) := Lib.hid (by unfold Ms.fit; rw [hlc])
  rw [hlc] at EM
  simp only at EM
  clear hw0 hlc
  go_enter Try.func24, Try.ntmps24
  go_wp2_with fail
  rw [HW0.out]
  refine EM.out.mono ?_
  rintro e w2 ⟨v, rfl, ho, b2⟩
  obtain ⟨av, cv, rfl⟩ := own_len ho
  have K2 := Lib.hid (K0.out.below b2)
  have B2 := Lib.hid (hb0.trans (b2.mono hb0.size))
  have HO := Lib.hid (show OwnE encB 5 w.heap.size _ l w2 from ownE_lower ho (by omega))
  clear ho b2 hb0 hsz0 EM K0 HW0
  by_cases hc1 : c = 1
  · subst hc1
    have HF3 : Hid (Ms.fit m most = ([], 1)) := Lib.hid (by rw [HFT.out, if_pos rfl])
    go_wp2_with fail
    refine bodyPost_ret (results_tmp2 rfl _ _ _) rfl ?_
    refine ⟨.slice none 0 0, ?_, ?_, B2.out⟩
    · rw [HF3.out]; rfl
    · rw [HF3.out]; exact ownE_nil _ _ _ _
  have hb1 : (c == 1) = false := by rw [beq_eq_false_iff_ne]; exact hc1
  have hcs : (c = 0 ∧ (l.length : Int) ≤ most) ∨ (c = 0 ∧ most < (l.length : Int)) ∨ (c ≠ 0) := by omega
  rcases hcs with ⟨rfl, hle⟩ | ⟨rfl, hle⟩ | hc
  · have HF3 : Hid (Ms.fit m most = (l, 0)) := Lib.hid (by rw [HFT.out, if_neg (by decide), if_pos ⟨rfl, hle⟩])
    go_wp2_with fail
    refine bodyPost_ret (results_tmp2 rfl _ _ _) rfl ?_
    refine ⟨.slice av l.length cv, ?_, ?_, B2.out⟩
    · rw [HF3.out]; rfl
    · rw [HF3.out]; exact HO.out
  · have HF0 : Hid (Ms.fit m most = Ms.fitF m most (fitRest 0)) := Lib.hid (by rw [HFT.out, if_neg (by decide), if_neg (fun h => by omega)]; rfl)
    have c0 := K2.out.cell (i := 0) (v := .int .i64 m.id) rfl
    have c1 := K2.out.cell (i := 1) (v := .bool m.resp) rfl
    have c2 := K2.out.cell (i := 2) (v := .int .i64 m.opc) rfl
    have c3 := K2.out.cell (i := 3) (v := .bool m.auth) rfl
    have c4 := K2.out.cell (i := 4) (v := .bool m.cut) rfl
    have c5 := K2.out.cell (i := 5) (v := .bool m.des) rfl
    have c6 := K2.out.cell (i := 6) (v := .bool m.avl) rfl
    have c7 := K2.out.cell (i := 7) (v := .int .i64 m.code) rfl
    have c8 := K2.out.cell (i := 8) (v := (.slice aq m.qs.length cq)) rfl
    have c9 := K2.out.cell (i := 9) (v := (.slice aa m.an.length ca)) rfl
    have c10 := K2.out.cell (i := 10) (v := (.slice an m.ns.length cn)) rfl
    have c11 := K2.out.cell (i := 11) (v := (.slice ad m.ad.length cd)) rfl
    have c12 := K2.out.cell (i := 12) (v := .bool m.edns) rfl
    have c13 := K2.out.cell (i := 13) (v := .int .i64 m.size) rfl
    have f4 := K2.out.frozen 4
    go_wp2_with fail
    have KS : Hid (Block (w2.setCell ⟨w.heap.size, 4, none⟩ (.bool true)) w.heap.size (fitCells m (.slice aq m.qs.length cq) (.slice aa m.an.length ca) (.slice an m.ns.length cn) (.slice ad m.ad.length cd) 0) 27) := Lib.hid (K2.out.set 4 (.bool true))
    have BS := Lib.hid (B2.out.setCell (p := ⟨w.heap.size, 4, none⟩) (Nat.le_refl _) (.bool true))
    clear K2 B2 HO HFT c0 c1 c2 c3 c4 c5 c6 c7 c8 c9 c10 c11 c12 c13 f4
    go_loopw [35] (fun i wx => ∃ k : Nat, i = .int .i64 (k : Int) ∧ k ≤ 3 ∧ Hid (Block wx w.heap.size (fitCells m (.slice aq m.qs.length cq) (.slice aa m.an.length ca) (.slice an m.ns.length cn) (.slice ad m.ad.length cd) k) 27) ∧ Hid (Below w.heap.size w wx) ∧ Hid (Ms.fit m most = Ms.fitF m most (fitRest k))) (fun i _ => 4 - (intOf i).toNat)
    case atStart => exact ⟨0, rfl, by omega, KS, BS, HF0⟩
    case round =>
      clear KS BS HF0
      obtain ⟨k, rfl, hk, hb, BR, hf⟩ := hrel
      have hkk : k = 0 ∨ k = 1 ∨ k = 2 ∨ k = 3 := by omega
      clear hk
      rcases hkk with rfl | rfl | rfl | rfl
      · have KB : Block wr w.heap.size #[.int .i64 m.id, .bool m.resp, .int .i64 m.opc, .bool m.auth, .bool true, .bool m.des, .bool m.avl, .int .i64 m.code, (.slice aq m.qs.length cq), (.slice aa m.an.length ca), (.slice an m.ns.length cn), (.slice ad m.ad.length cd), .bool m.edns, .int .i64 m.size] 27 := hb.out
        have c0 := KB.cell (i := 0) (v := .int .i64 m.id) rfl
        have c1 := KB.cell (i := 1) (v := .bool m.resp) rfl
        have c2 := KB.cell (i := 2) (v := .int .i64 m.opc) rfl
        have c3 := KB.cell (i := 3) (v := .bool m.auth) rfl
        have c4 := KB.cell (i := 4) (v := .bool true) rfl
        have c5 := KB.cell (i := 5) (v := .bool m.des) rfl
        have c6 := KB.cell (i := 6) (v := .bool m.avl) rfl
        have c7 := KB.cell (i := 7) (v := .int .i64 m.code) rfl
        have c8 := KB.cell (i := 8) (v := (.slice aq m.qs.length cq)) rfl
        have c9 := KB.cell (i := 9) (v := (.slice aa m.an.length ca)) rfl
        have c10 := KB.cell (i := 10) (v := (.slice an m.ns.length cn)) rfl
        have c11 := KB.cell (i := 11) (v := (.slice ad m.ad.length cd)) rfl
        have c12 := KB.cell (i := 12) (v := .bool m.edns) rfl
        have c13 := KB.cell (i := 13) (v := .int .i64 m.size) rfl
        have f0 := KB.frozen 11
        have ix := fun W => idx_p0 W (.pointer (some ⟨w.heap.size, 11, none⟩)) (.pointer (some ⟨w.heap.size, 10, none⟩)) (.pointer (some ⟨w.heap.size, 9, none⟩))
        have BX := Lib.hid (BR.out.setCell (p := ⟨w.heap.size, 11, none⟩) (Nat.le_refl _) (.slice none 0 0))
        have KX : Block (wr.setCell ⟨w.heap.size, 11, none⟩ (.slice none 0 0)) w.heap.size #[.int .i64 m.id, .bool m.resp, .int .i64 m.opc, .bool m.auth, .bool true, .bool m.des, .bool m.avl, .int .i64 m.code, (.slice aq m.qs.length cq), (.slice aa m.an.length ca), (.slice an m.ns.length cn), (.slice none 0 0), .bool m.edns, .int .i64 m.size] 27 := KB.set 11 (.slice none 0 0)
        have EK := Lib.hid (enc_any (Ms.drops m 0) (.slice aq m.qs.length cq) (.slice aa m.an.length ca) (.slice an m.ns.length cn) (.slice none 0 0) (wr.setCell ⟨w.heap.size, 11, none⟩ (.slice none 0 0)) ⟨(HL.out.below BX.out).qs, (HL.out.below BX.out).an, (HL.out.below BX.out).ns, readR_nil _⟩ (slim_drops HS.out 0) (few_drops H3.out 0).1 (few_drops H3.out 0).2.1 (few_drops H3.out 0).2.2)
        unfold EncRet at EK
        have HF2 : Hid (Ms.fit m most = if (Ms.enc (Ms.drops m 0)).2 = 0 ∧ ((Ms.enc (Ms.drops m 0)).1.length : Int) ≤ most then ((Ms.enc (Ms.drops m 0)).1, 0) else Ms.fitF m most [1, 2]) := Lib.hid hf.out
        obtain ⟨l, c, hlc⟩ : ∃ l c, Ms.enc (Ms.drops m 0) = (l, c) := ⟨_, _, rfl⟩
        rw [hlc] at EK HF2
        simp only at EK HF2
        have KX' := Lib.hid KX
        clear hlc KX KB hf hb
        by_cases hc : c = 0
        · subst hc
          by_cases hle : (l.length : Int) ≤ most
          · have HF3 : Hid (Ms.fit m most = (l, 0)) := Lib.hid (by rw [HF2.out, if_pos ⟨rfl, hle⟩])
            go_wp2_with fail
            refine EK.out.mono ?_
            rintro e w3 ⟨v, rfl, ho, b3⟩
            obtain ⟨av, cv, rfl⟩ := own_len ho
            have HO := Lib.hid (show OwnE encB 5 w.heap.size _ l w3 from ownE_lower ho (by have := BX.out.size; omega))
            have B3 := Lib.hid (BX.out.trans (b3.mono BX.out.size))
            clear ho b3
            go_wp2_with fail
            refine bodyPost_ret (results_tmp2 rfl _ _ _) rfl ?_
            refine ⟨.slice av l.length cv, ?_, ?_, B3.out⟩
            · rw [HF3.out]; rfl
            · rw [HF3.out]; exact HO.out
          · have hle' : most < (l.length : Int) := by omega
            have HF3 : Hid (Ms.fit m most = Ms.fitF m most [1, 2]) := Lib.hid (by rw [HF2.out, if_neg (fun h => by omega)])
            go_wp2_with fail
            refine EK.out.mono ?_
            rintro e w3 ⟨v, rfl, ho, b3⟩
            obtain ⟨av, cv, rfl⟩ := own_len ho
            have B3 := Lib.hid (BX.out.trans (b3.mono BX.out.size))
            have K3 := Lib.hid (KX'.out.below b3)
            clear ho b3
            go_wp2_with fail
            go_roundw
            case rel => exact ⟨1, by go_num, by omega, K3, B3, HF3⟩
            case measure => simp [intOf]
        · have hcb : (c == 0) = false := by rw [beq_eq_false_iff_ne]; exact hc
          have HF3 : Hid (Ms.fit m most = Ms.fitF m most [1, 2]) := Lib.hid (by rw [HF2.out, if_neg (fun h => hc h.1)])
          go_wp2_with fail
          refine EK.out.mono ?_
          rintro e w3 ⟨v, rfl, ho, b3⟩
          obtain ⟨av, cv, rfl⟩ := own_len ho
          have B3 := Lib.hid (BX.out.trans (b3.mono BX.out.size))
          have K3 := Lib.hid (KX'.out.below b3)
          clear ho b3
          go_wp2_with fail
          go_roundw
          case rel => exact ⟨1, by go_num, by omega, K3, B3, HF3⟩
          case measure => simp [intOf]
      · have KB : Block wr w.heap.size #[.int .i64 m.id, .bool m.resp, .int .i64 m.opc, .bool m.auth, .bool true, .bool m.des, .bool m.avl, .int .i64 m.code, (.slice aq m.qs.length cq), (.slice aa m.an.length ca), (.slice an m.ns.length cn), (.slice none 0 0), .bool m.edns, .int .i64 m.size] 27 := hb.out
        have c0 := KB.cell (i := 0) (v := .int .i64 m.id) rfl
        have c1 := KB.cell (i := 1) (v := .bool m.resp) rfl
        have c2 := KB.cell (i := 2) (v := .int .i64 m.opc) rfl
        have c3 := KB.cell (i := 3) (v := .bool m.auth) rfl
        have c4 := KB.cell (i := 4) (v := .bool true) rfl
        have c5 := KB.cell (i := 5) (v := .bool m.des) rfl
        have c6 := KB.cell (i := 6) (v := .bool m.avl) rfl
        have c7 := KB.cell (i := 7) (v := .int .i64 m.code) rfl
        have c8 := KB.cell (i := 8) (v := (.slice aq m.qs.length cq)) rfl
        have c9 := KB.cell (i := 9) (v := (.slice aa m.an.length ca)) rfl
        have c10 := KB.cell (i := 10) (v := (.slice an m.ns.length cn)) rfl
        have c11 := KB.cell (i := 11) (v := (.slice none 0 0)) rfl
        have c12 := KB.cell (i := 12) (v := .bool m.edns) rfl
        have c13 := KB.cell (i := 13) (v := .int .i64 m.size) rfl
        have f0 := KB.frozen 10
        have ix := fun W => idx_p1 W (.pointer (some ⟨w.heap.size, 11, none⟩)) (.pointer (some ⟨w.heap.size, 10, none⟩)) (.pointer (some ⟨w.heap.size, 9, none⟩))
        have BX := Lib.hid (BR.out.setCell (p := ⟨w.heap.size, 10, none⟩) (Nat.le_refl _) (.slice none 0 0))
        have KX : Block (wr.setCell ⟨w.heap.size, 10, none⟩ (.slice none 0 0)) w.heap.size #[.int .i64 m.id, .bool m.resp, .int .i64 m.opc, .bool m.auth, .bool true, .bool m.des, .bool m.avl, .int .i64 m.code, (.slice aq m.qs.length cq), (.slice aa m.an.length ca), (.slice none 0 0), (.slice none 0 0), .bool m.edns, .int .i64 m.size] 27 := KB.set 10 (.slice none 0 0)
        have EK := Lib.hid (enc_any (Ms.drops m 1) (.slice aq m.qs.length cq) (.slice aa m.an.length ca) (.slice none 0 0) (.slice none 0 0) (wr.setCell ⟨w.heap.size, 10, none⟩ (.slice none 0 0)) ⟨(HL.out.below BX.out).qs, (HL.out.below BX.out).an, readR_nil _, readR_nil _⟩ (slim_drops HS.out 1) (few_drops H3.out 1).1 (few_drops H3.out 1).2.1 (few_drops H3.out 1).2.2)
        unfold EncRet at EK
        have HF2 : Hid (Ms.fit m most = if (Ms.enc (Ms.drops m 1)).2 = 0 ∧ ((Ms.enc (Ms.drops m 1)).1.length : Int) ≤ most then ((Ms.enc (Ms.drops m 1)).1, 0) else Ms.fitF m most [2]) := Lib.hid hf.out
        obtain ⟨l, c, hlc⟩ : ∃ l c, Ms.enc (Ms.drops m 1) = (l, c) := ⟨_, _, rfl⟩
        rw [hlc] at EK HF2
        simp only at EK HF2
        have KX' := Lib.hid KX
        clear hlc KX KB hf hb
        by_cases hc : c = 0
        · subst hc
          by_cases hle : (l.length : Int) ≤ most
          · have HF3 : Hid (Ms.fit m most = (l, 0)) := Lib.hid (by rw [HF2.out, if_pos ⟨rfl, hle⟩])
            go_wp2_with fail
            refine EK.out.mono ?_
            rintro e w3 ⟨v, rfl, ho, b3⟩
            obtain ⟨av, cv, rfl⟩ := own_len ho
            have HO := Lib.hid (show OwnE encB 5 w.heap.size _ l w3 from ownE_lower ho (by have := BX.out.size; omega))
            have B3 := Lib.hid (BX.out.trans (b3.mono BX.out.size))
            clear ho b3
            go_wp2_with fail
            refine bodyPost_ret (results_tmp2 rfl _ _ _) rfl ?_
            refine ⟨.slice av l.length cv, ?_, ?_, B3.out⟩
            · rw [HF3.out]; rfl
            · rw [HF3.out]; exact HO.out
          · have hle' : most < (l.length : Int) := by omega
            have HF3 : Hid (Ms.fit m most = Ms.fitF m most [2]) := Lib.hid (by rw [HF2.out, if_neg (fun h => by omega)])
            go_wp2_with fail
            refine EK.out.mono ?_
            rintro e w3 ⟨v, rfl, ho, b3⟩
            obtain ⟨av, cv, rfl⟩ := own_len ho
            have B3 := Lib.hid (BX.out.trans (b3.mono BX.out.size))
            have K3 := Lib.hid (KX'.out.below b3)
            clear ho b3
            go_wp2_with fail
            go_roundw
            case rel => exact ⟨2, by go_num, by omega, K3, B3, HF3⟩
            case measure => simp [intOf]
        · have hcb : (c == 0) = false := by rw [beq_eq_false_iff_ne]; exact hc
          have HF3 : Hid (Ms.fit m most = Ms.fitF m most [2]) := Lib.hid (by rw [HF2.out, if_neg (fun h => hc h.1)])
          go_wp2_with fail
          refine EK.out.mono ?_
          rintro e w3 ⟨v, rfl, ho, b3⟩
          obtain ⟨av, cv, rfl⟩ := own_len ho
          have B3 := Lib.hid (BX.out.trans (b3.mono BX.out.size))
          have K3 := Lib.hid (KX'.out.below b3)
          clear ho b3
          go_wp2_with fail
          go_roundw
          case rel => exact ⟨2, by go_num, by omega, K3, B3, HF3⟩
          case measure => simp [intOf]
      · have KB : Block wr w.heap.size #[.int .i64 m.id, .bool m.resp, .int .i64 m.opc, .bool m.auth, .bool true, .bool m.des, .bool m.avl, .int .i64 m.code, (.slice aq m.qs.length cq), (.slice aa m.an.length ca), (.slice none 0 0), (.slice none 0 0), .bool m.edns, .int .i64 m.size] 27 := hb.out
        have c0 := KB.cell (i := 0) (v := .int .i64 m.id) rfl
        have c1 := KB.cell (i := 1) (v := .bool m.resp) rfl
        have c2 := KB.cell (i := 2) (v := .int .i64 m.opc) rfl
        have c3 := KB.cell (i := 3) (v := .bool m.auth) rfl
        have c4 := KB.cell (i := 4) (v := .bool true) rfl
        have c5 := KB.cell (i := 5) (v := .bool m.des) rfl
        have c6 := KB.cell (i := 6) (v := .bool m.avl) rfl
        have c7 := KB.cell (i := 7) (v := .int .i64 m.code) rfl
        have c8 := KB.cell (i := 8) (v := (.slice aq m.qs.length cq)) rfl
        have c9 := KB.cell (i := 9) (v := (.slice aa m.an.length ca)) rfl
        have c10 := KB.cell (i := 10) (v := (.slice none 0 0)) rfl
        have c11 := KB.cell (i := 11) (v := (.slice none 0 0)) rfl
        have c12 := KB.cell (i := 12) (v := .bool m.edns) rfl
        have c13 := KB.cell (i := 13) (v := .int .i64 m.size) rfl
        have f0 := KB.frozen 9
        have ix := fun W => idx_p2 W (.pointer (some ⟨w.heap.size, 11, none⟩)) (.pointer (some ⟨w.heap.size, 10, none⟩)) (.pointer (some ⟨w.heap.size, 9, none⟩))
        have BX := Lib.hid (BR.out.setCell (p := ⟨w.heap.size, 9, none⟩) (Nat.le_refl _) (.slice none 0 0))
        have KX : Block (wr.setCell ⟨w.heap.size, 9, none⟩ (.slice none 0 0)) w.heap.size #[.int .i64 m.id, .bool m.resp, .int .i64 m.opc, .bool m.auth, .bool true, .bool m.des, .bool m.avl, .int .i64 m.code, (.slice aq m.qs.length cq), (.slice none 0 0), (.slice none 0 0), (.slice none 0 0), .bool m.edns, .int .i64 m.size] 27 := KB.set 9 (.slice none 0 0)
        have EK := Lib.hid (enc_any (Ms.drops m 2) (.slice aq m.qs.length cq) (.slice none 0 0) (.slice none 0 0) (.slice none 0 0) (wr.setCell ⟨w.heap.size, 9, none⟩ (.slice none 0 0)) ⟨(HL.out.below BX.out).qs, readR_nil _, readR_nil _, readR_nil _⟩ (slim_drops HS.out 2) (few_drops H3.out 2).1 (few_drops H3.out 2).2.1 (few_drops H3.out 2).2.2)
        unfold EncRet at EK
        have HF2 : Hid (Ms.fit m most = if (Ms.enc (Ms.drops m 2)).2 = 0 ∧ ((Ms.enc (Ms.drops m 2)).1.length : Int) ≤ most then ((Ms.enc (Ms.drops m 2)).1, 0) else Ms.fitF m most []) := Lib.hid hf.out
        obtain ⟨l, c, hlc⟩ : ∃ l c, Ms.enc (Ms.drops m 2) = (l, c) := ⟨_, _, rfl⟩
        rw [hlc] at EK HF2
        simp only at EK HF2
        have KX' := Lib.hid KX
        clear hlc KX KB hf hb
        by_cases hc : c = 0
        · subst hc
          by_cases hle : (l.length : Int) ≤ most
          · have HF3 : Hid (Ms.fit m most = (l, 0)) := Lib.hid (by rw [HF2.out, if_pos ⟨rfl, hle⟩])
            go_wp2_with fail
            refine EK.out.mono ?_
            rintro e w3 ⟨v, rfl, ho, b3⟩
            obtain ⟨av, cv, rfl⟩ := own_len ho
            have HO := Lib.hid (show OwnE encB 5 w.heap.size _ l w3 from ownE_lower ho (by have := BX.out.size; omega))
            have B3 := Lib.hid (BX.out.trans (b3.mono BX.out.size))
            clear ho b3
            go_wp2_with fail
            refine bodyPost_ret (results_tmp2 rfl _ _ _) rfl ?_
            refine ⟨.slice av l.length cv, ?_, ?_, B3.out⟩
            · rw [HF3.out]; rfl
            · rw [HF3.out]; exact HO.out
          · have hle' : most < (l.length : Int) := by omega
            have HF3 : Hid (Ms.fit m most = Ms.fitF m most []) := Lib.hid (by rw [HF2.out, if_neg (fun h => by omega)])
            go_wp2_with fail
            refine EK.out.mono ?_
            rintro e w3 ⟨v, rfl, ho, b3⟩
            obtain ⟨av, cv, rfl⟩ := own_len ho
            have B3 := Lib.hid (BX.out.trans (b3.mono BX.out.size))
            have K3 := Lib.hid (KX'.out.below b3)
            clear ho b3
            go_wp2_with fail
            go_roundw
            case rel => exact ⟨3, by go_num, by omega, K3, B3, HF3⟩
            case measure => simp [intOf]
        · have hcb : (c == 0) = false := by rw [beq_eq_false_iff_ne]; exact hc
          have HF3 : Hid (Ms.fit m most = Ms.fitF m most []) := Lib.hid (by rw [HF2.out, if_neg (fun h => hc h.1)])
          go_wp2_with fail
          refine EK.out.mono ?_
          rintro e w3 ⟨v, rfl, ho, b3⟩
          obtain ⟨av, cv, rfl⟩ := own_len ho
          have B3 := Lib.hid (BX.out.trans (b3.mono BX.out.size))
          have K3 := Lib.hid (KX'.out.below b3)
          clear ho b3
          go_wp2_with fail
          go_roundw
          case rel => exact ⟨3, by go_num, by omega, K3, B3, HF3⟩
          case measure => simp [intOf]
      · have HF3 : Hid (Ms.fit m most = ([], 3)) := Lib.hid hf.out
        go_wp2_with fail
        refine bodyPost_ret (results_tmp2 rfl _ _ _) rfl ?_
        refine ⟨.slice none 0 0, ?_, ?_, BR.out⟩
        · rw [HF3.out]; rfl
        · rw [HF3.out]; exact ownE_nil _ _ _ _
  · have hb2 : (c == 0) = false := by rw [beq_eq_false_iff_ne]; exact hc
    have HF0 : Hid (Ms.fit m most = Ms.fitF m most (fitRest 0)) := Lib.hid (by rw [HFT.out, if_neg hc1, if_neg (fun h => hc h.1)]; rfl)
    have c0 := K2.out.cell (i := 0) (v := .int .i64 m.id) rfl
    have c1 := K2.out.cell (i := 1) (v := .bool m.resp) rfl
    have c2 := K2.out.cell (i := 2) (v := .int .i64 m.opc) rfl
    have c3 := K2.out.cell (i := 3) (v := .bool m.auth) rfl
    have c4 := K2.out.cell (i := 4) (v := .bool m.cut) rfl
    have c5 := K2.out.cell (i := 5) (v := .bool m.des) rfl
    have c6 := K2.out.cell (i := 6) (v := .bool m.avl) rfl
    have c7 := K2.out.cell (i := 7) (v := .int .i64 m.code) rfl
    have c8 := K2.out.cell (i := 8) (v := (.slice aq m.qs.length cq)) rfl
    have c9 := K2.out.cell (i := 9) (v := (.slice aa m.an.length ca)) rfl
    have c10 := K2.out.cell (i := 10) (v := (.slice an m.ns.length cn)) rfl
    have c11 := K2.out.cell (i := 11) (v := (.slice ad m.ad.length cd)) rfl
    have c12 := K2.out.cell (i := 12) (v := .bool m.edns) rfl
    have c13 := K2.out.cell (i := 13) (v := .int .i64 m.size) rfl
    have f4 := K2.out.frozen 4
    go_wp2_with fail
    have KS : Hid (Block (w2.setCell ⟨w.heap.size, 4, none⟩ (.bool true)) w.heap.size (fitCells m (.slice aq m.qs.length cq) (.slice aa m.an.length ca) (.slice an m.ns.length cn) (.slice ad m.ad.length cd) 0) 27) := Lib.hid (K2.out.set 4 (.bool true))
    have BS := Lib.hid (B2.out.setCell (p := ⟨w.heap.size, 4, none⟩) (Nat.le_refl _) (.bool true))
    clear K2 B2 HO HFT c0 c1 c2 c3 c4 c5 c6 c7 c8 c9 c10 c11 c12 c13 f4
    go_loopw [35] (fun i wx => ∃ k : Nat, i = .int .i64 (k : Int) ∧ k ≤ 3 ∧ Hid (Block wx w.heap.size (fitCells m (.slice aq m.qs.length cq) (.slice aa m.an.length ca) (.slice an m.ns.length cn) (.slice ad m.ad.length cd) k) 27) ∧ Hid (Below w.heap.size w wx) ∧ Hid (Ms.fit m most = Ms.fitF m most (fitRest k))) (fun i _ => 4 - (intOf i).toNat)
    case atStart => exact ⟨0, rfl, by omega, KS, BS, HF0⟩
    case round =>
      clear KS BS HF0
      obtain ⟨k, rfl, hk, hb, BR, hf⟩ := hrel
      have hkk : k = 0 ∨ k = 1 ∨ k = 2 ∨ k = 3 := by omega
      clear hk
      rcases hkk with rfl | rfl | rfl | rfl
      · have KB : Block wr w.heap.size #[.int .i64 m.id, .bool m.resp, .int .i64 m.opc, .bool m.auth, .bool true, .bool m.des, .bool m.avl, .int .i64 m.code, (.slice aq m.qs.length cq), (.slice aa m.an.length ca), (.slice an m.ns.length cn), (.slice ad m.ad.length cd), .bool m.edns, .int .i64 m.size] 27 := hb.out
        have c0 := KB.cell (i := 0) (v := .int .i64 m.id) rfl
        have c1 := KB.cell (i := 1) (v := .bool m.resp) rfl
        have c2 := KB.cell (i := 2) (v := .int .i64 m.opc) rfl
        have c3 := KB.cell (i := 3) (v := .bool m.auth) rfl
        have c4 := KB.cell (i := 4) (v := .bool true) rfl
        have c5 := KB.cell (i := 5) (v := .bool m.des) rfl
        have c6 := KB.cell (i := 6) (v := .bool m.avl) rfl
        have c7 := KB.cell (i := 7) (v := .int .i64 m.code) rfl
        have c8 := KB.cell (i := 8) (v := (.slice aq m.qs.length cq)) rfl
        have c9 := KB.cell (i := 9) (v := (.slice aa m.an.length ca)) rfl
        have c10 := KB.cell (i := 10) (v := (.slice an m.ns.length cn)) rfl
        have c11 := KB.cell (i := 11) (v := (.slice ad m.ad.length cd)) rfl
        have c12 := KB.cell (i := 12) (v := .bool m.edns) rfl
        have c13 := KB.cell (i := 13) (v := .int .i64 m.size) rfl
        have f0 := KB.frozen 11
        have ix := fun W => idx_p0 W (.pointer (some ⟨w.heap.size, 11, none⟩)) (.pointer (some ⟨w.heap.size, 10, none⟩)) (.pointer (some ⟨w.heap.size, 9, none⟩))
        have BX := Lib.hid (BR.out.setCell (p := ⟨w.heap.size, 11, none⟩) (Nat.le_refl _) (.slice none 0 0))
        have KX : Block (wr.setCell ⟨w.heap.size, 11, none⟩ (.slice none 0 0)) w.heap.size #[.int .i64 m.id, .bool m.resp, .int .i64 m.opc, .bool m.auth, .bool true, .bool m.des, .bool m.avl, .int .i64 m.code, (.slice aq m.qs.length cq), (.slice aa m.an.length ca), (.slice an m.ns.length cn), (.slice none 0 0), .bool m.edns, .int .i64 m.size] 27 := KB.set 11 (.slice none 0 0)
        have EK := Lib.hid (enc_any (Ms.drops m 0) (.slice aq m.qs.length cq) (.slice aa m.an.length ca) (.slice an m.ns.length cn) (.slice none 0 0) (wr.setCell ⟨w.heap.size, 11, none⟩ (.slice none 0 0)) ⟨(HL.out.below BX.out).qs, (HL.out.below BX.out).an, (HL.out.below BX.out).ns, readR_nil _⟩ (slim_drops HS.out 0) (few_drops H3.out 0).1 (few_drops H3.out 0).2.1 (few_drops H3.out 0).2.2)
        unfold EncRet at EK
        have HF2 : Hid (Ms.fit m most = if (Ms.enc (Ms.drops m 0)).2 = 0 ∧ ((Ms.enc (Ms.drops m 0)).1.length : Int) ≤ most then ((Ms.enc (Ms.drops m 0)).1, 0) else Ms.fitF m most [1, 2]) := Lib.hid hf.out
        obtain ⟨l, c, hlc⟩ : ∃ l c, Ms.enc (Ms.drops m 0) = (l, c) := ⟨_, _, rfl⟩
        rw [hlc] at EK HF2
        simp only at EK HF2
        have KX' := Lib.hid KX
        clear hlc KX KB hf hb
        by_cases hc : c = 0
        · subst hc
          by_cases hle : (l.length : Int) ≤ most
          · have HF3 : Hid (Ms.fit m most = (l, 0)) := Lib.hid (by rw [HF2.out, if_pos ⟨rfl, hle⟩])
            go_wp2_with fail
            refine EK.out.mono ?_
            rintro e w3 ⟨v, rfl, ho, b3⟩
            obtain ⟨av, cv, rfl⟩ := own_len ho
            have HO := Lib.hid (show OwnE encB 5 w.heap.size _ l w3 from ownE_lower ho (by have := BX.out.size; omega))
            have B3 := Lib.hid (BX.out.trans (b3.mono BX.out.size))
            clear ho b3
            go_wp2_with fail
            refine bodyPost_ret (results_tmp2 rfl _ _ _) rfl ?_
            refine ⟨.slice av l.length cv, ?_, ?_, B3.out⟩
            · rw [HF3.out]; rfl
            · rw [HF3.out]; exact HO.out
          · have hle' : most < (l.length : Int) := by omega
            have HF3 : Hid (Ms.fit m most = Ms.fitF m most [1, 2]) := Lib.hid (by rw [HF2.out, if_neg (fun h => by omega)])
            go_wp2_with fail
            refine EK.out.mono ?_
            rintro e w3 ⟨v, rfl, ho, b3⟩
            obtain ⟨av, cv, rfl⟩ := own_len ho
            have B3 := Lib.hid (BX.out.trans (b3.mono BX.out.size))
            have K3 := Lib.hid (KX'.out.below b3)
            clear ho b3
            go_wp2_with fail
            go_roundw
            case rel => exact ⟨1, by go_num, by omega, K3, B3, HF3⟩
            case measure => simp [intOf]
        · have hcb : (c == 0) = false := by rw [beq_eq_false_iff_ne]; exact hc
          have HF3 : Hid (Ms.fit m most = Ms.fitF m most [1, 2]) := Lib.hid (by rw [HF2.out, if_neg (fun h => hc h.1)])
          go_wp2_with fail
          refine EK.out.mono ?_
          rintro e w3 ⟨v, rfl, ho, b3⟩
          obtain ⟨av, cv, rfl⟩ := own_len ho
          have B3 := Lib.hid (BX.out.trans (b3.mono BX.out.size))
          have K3 := Lib.hid (KX'.out.below b3)
          clear ho b3
          go_wp2_with fail
          go_roundw
          case rel => exact ⟨1, by go_num, by omega, K3, B3, HF3⟩
          case measure => simp [intOf]
      · have KB : Block wr w.heap.size #[.int .i64 m.id, .bool m.resp, .int .i64 m.opc, .bool m.auth, .bool true, .bool m.des, .bool m.avl, .int .i64 m.code, (.slice aq m.qs.length cq), (.slice aa m.an.length ca), (.slice an m.ns.length cn), (.slice none 0 0), .bool m.edns, .int .i64 m.size] 27 := hb.out
        have c0 := KB.cell (i := 0) (v := .int .i64 m.id) rfl
        have c1 := KB.cell (i := 1) (v := .bool m.resp) rfl
        have c2 := KB.cell (i := 2) (v := .int .i64 m.opc) rfl
        have c3 := KB.cell (i := 3) (v := .bool m.auth) rfl
        have c4 := KB.cell (i := 4) (v := .bool true) rfl
        have c5 := KB.cell (i := 5) (v := .bool m.des) rfl
        have c6 := KB.cell (i := 6) (v := .bool m.avl) rfl
        have c7 := KB.cell (i := 7) (v := .int .i64 m.code) rfl
        have c8 := KB.cell (i := 8) (v := (.slice aq m.qs.length cq)) rfl
        have c9 := KB.cell (i := 9) (v := (.slice aa m.an.length ca)) rfl
        have c10 := KB.cell (i := 10) (v := (.slice an m.ns.length cn)) rfl
        have c11 := KB.cell (i := 11) (v := (.slice none 0 0)) rfl
        have c12 := KB.cell (i := 12) (v := .bool m.edns) rfl
        have c13 := KB.cell (i := 13) (v := .int .i64 m.size) rfl
        have f0 := KB.frozen 10
        have ix := fun W => idx_p1 W (.pointer (some ⟨w.heap.size, 11, none⟩)) (.pointer (some ⟨w.heap.size, 10, none⟩)) (.pointer (some ⟨w.heap.size, 9, none⟩))
        have BX := Lib.hid (BR.out.setCell (p := ⟨w.heap.size, 10, none⟩) (Nat.le_refl _) (.slice none 0 0))
        have KX : Block (wr.setCell ⟨w.heap.size, 10, none⟩ (.slice none 0 0)) w.heap.size #[.int .i64 m.id, .bool m.resp, .int .i64 m.opc, .bool m.auth, .bool true, .bool m.des, .bool m.avl, .int .i64 m.code, (.slice aq m.qs.length cq), (.slice aa m.an.length ca), (.slice none 0 0), (.slice none 0 0), .bool m.edns, .int .i64 m.size] 27 := KB.set 10 (.slice none 0 0)
        have EK := Lib.hid (enc_any (Ms.drops m 1) (.slice aq m.qs.length cq) (.slice aa m.an.length ca) (.slice none 0 0) (.slice none 0 0) (wr.setCell ⟨w.heap.size, 10, none⟩ (.slice none 0 0)) ⟨(HL.out.below BX.out).qs, (HL.out.below BX.out).an, readR_nil _, readR_nil _⟩ (slim_drops HS.out 1) (few_drops H3.out 1).1 (few_drops H3.out 1).2.1 (few_drops H3.out 1).2.2)
        unfold EncRet at EK
        have HF2 : Hid (Ms.fit m most = if (Ms.enc (Ms.drops m 1)).2 = 0 ∧ ((Ms.enc (Ms.drops m 1)).1.length : Int) ≤ most then ((Ms.enc (Ms.drops m 1)).1, 0) else Ms.fitF m most [2]) := Lib.hid hf.out
        obtain ⟨l, c, hlc⟩ : ∃ l c, Ms.enc (Ms.drops m 1) = (l, c) := ⟨_, _, rfl⟩
        rw [hlc] at EK HF2
        simp only at EK HF2
        have KX' := Lib.hid KX
        clear hlc KX KB hf hb
        by_cases hc : c = 0
        · subst hc
          by_cases hle : (l.length : Int) ≤ most
          · have HF3 : Hid (Ms.fit m most = (l, 0)) := Lib.hid (by rw [HF2.out, if_pos ⟨rfl, hle⟩])
            go_wp2_with fail
            refine EK.out.mono ?_
            rintro e w3 ⟨v, rfl, ho, b3⟩
            obtain ⟨av, cv, rfl⟩ := own_len ho
            have HO := Lib.hid (show OwnE encB 5 w.heap.size _ l w3 from ownE_lower ho (by have := BX.out.size; omega))
            have B3 := Lib.hid (BX.out.trans (b3.mono BX.out.size))
            clear ho b3
            go_wp2_with fail
            refine bodyPost_ret (results_tmp2 rfl _ _ _) rfl ?_
            refine ⟨.slice av l.length cv, ?_, ?_, B3.out⟩
            · rw [HF3.out]; rfl
            · rw [HF3.out]; exact HO.out
          · have hle' : most < (l.length : Int) := by omega
            have HF3 : Hid (Ms.fit m most = Ms.fitF m most [2]) := Lib.hid (by rw [HF2.out, if_neg (fun h => by omega)])
            go_wp2_with fail
            refine EK.out.mono ?_
            rintro e w3 ⟨v, rfl, ho, b3⟩
            obtain ⟨av, cv, rfl⟩ := own_len ho
            have B3 := Lib.hid (BX.out.trans (b3.mono BX.out.size))
            have K3 := Lib.hid (KX'.out.below b3)
            clear ho b3
            go_wp2_with fail
            go_roundw
            case rel => exact ⟨2, by go_num, by omega, K3, B3, HF3⟩
            case measure => simp [intOf]
        · have hcb : (c == 0) = false := by rw [beq_eq_false_iff_ne]; exact hc
          have HF3 : Hid (Ms.fit m most = Ms.fitF m most [2]) := Lib.hid (by rw [HF2.out, if_neg (fun h => hc h.1)])
          go_wp2_with fail
          refine EK.out.mono ?_
          rintro e w3 ⟨v, rfl, ho, b3⟩
          obtain ⟨av, cv, rfl⟩ := own_len ho
          have B3 := Lib.hid (BX.out.trans (b3.mono BX.out.size))
          have K3 := Lib.hid (KX'.out.below b3)
          clear ho b3
          go_wp2_with fail
          go_roundw
          case rel => exact ⟨2, by go_num, by omega, K3, B3, HF3⟩
          case measure => simp [intOf]
      · have KB : Block wr w.heap.size #[.int .i64 m.id, .bool m.resp, .int .i64 m.opc, .bool m.auth, .bool true, .bool m.des, .bool m.avl, .int .i64 m.code, (.slice aq m.qs.length cq), (.slice aa m.an.length ca), (.slice none 0 0), (.slice none 0 0), .bool m.edns, .int .i64 m.size] 27 := hb.out
        have c0 := KB.cell (i := 0) (v := .int .i64 m.id) rfl
        have c1 := KB.cell (i := 1) (v := .bool m.resp) rfl
        have c2 := KB.cell (i := 2) (v := .int .i64 m.opc) rfl
        have c3 := KB.cell (i := 3) (v := .bool m.auth) rfl
        have c4 := KB.cell (i := 4) (v := .bool true) rfl
        have c5 := KB.cell (i := 5) (v := .bool m.des) rfl
        have c6 := KB.cell (i := 6) (v := .bool m.avl) rfl
        have c7 := KB.cell (i := 7) (v := .int .i64 m.code) rfl
        have c8 := KB.cell (i := 8) (v := (.slice aq m.qs.length cq)) rfl
        have c9 := KB.cell (i := 9) (v := (.slice aa m.an.length ca)) rfl
        have c10 := KB.cell (i := 10) (v := (.slice none 0 0)) rfl
        have c11 := KB.cell (i := 11) (v := (.slice none 0 0)) rfl
        have c12 := KB.cell (i := 12) (v := .bool m.edns) rfl
        have c13 := KB.cell (i := 13) (v := .int .i64 m.size) rfl
        have f0 := KB.frozen 9
        have ix := fun W => idx_p2 W (.pointer (some ⟨w.heap.size, 11, none⟩)) (.pointer (some ⟨w.heap.size, 10, none⟩)) (.pointer (some ⟨w.heap.size, 9, none⟩))
        have BX := Lib.hid (BR.out.setCell (p := ⟨w.heap.size, 9, none⟩) (Nat.le_refl _) (.slice none 0 0))
        have KX : Block (wr.setCell ⟨w.heap.size, 9, none⟩ (.slice none 0 0)) w.heap.size #[.int .i64 m.id, .bool m.resp, .int .i64 m.opc, .bool m.auth, .bool true, .bool m.des, .bool m.avl, .int .i64 m.code, (.slice aq m.qs.length cq), (.slice none 0 0), (.slice none 0 0), (.slice none 0 0), .bool m.edns, .int .i64 m.size] 27 := KB.set 9 (.slice none 0 0)
        have EK := Lib.hid (enc_any (Ms.drops m 2) (.slice aq m.qs.length cq) (.slice none 0 0) (.slice none 0 0) (.slice none 0 0) (wr.setCell ⟨w.heap.size, 9, none⟩ (.slice none 0 0)) ⟨(HL.out.below BX.out).qs, readR_nil _, readR_nil _, readR_nil _⟩ (slim_drops HS.out 2) (few_drops H3.out 2).1 (few_drops H3.out 2).2.1 (few_drops H3.out 2).2.2)
        unfold EncRet at EK
        have HF2 : Hid (Ms.fit m most = if (Ms.enc (Ms.drops m 2)).2 = 0 ∧ ((Ms.enc (Ms.drops m 2)).1.length : Int) ≤ most then ((Ms.enc (Ms.drops m 2)).1, 0) else Ms.fitF m most []) := Lib.hid hf.out
        obtain ⟨l, c, hlc⟩ : ∃ l c, Ms.enc (Ms.drops m 2) = (l, c) := ⟨_, _, rfl⟩
        rw [hlc] at EK HF2
        simp only at EK HF2
        have KX' := Lib.hid KX
        clear hlc KX KB hf hb
        by_cases hc : c = 0
        · subst hc
          by_cases hle : (l.length : Int) ≤ most
          · have HF3 : Hid (Ms.fit m most = (l, 0)) := Lib.hid (by rw [HF2.out, if_pos ⟨rfl, hle⟩])
            go_wp2_with fail
            refine EK.out.mono ?_
            rintro e w3 ⟨v, rfl, ho, b3⟩
            obtain ⟨av, cv, rfl⟩ := own_len ho
            have HO := Lib.hid (show OwnE encB 5 w.heap.size _ l w3 from ownE_lower ho (by have := BX.out.size; omega))
            have B3 := Lib.hid (BX.out.trans (b3.mono BX.out.size))
            clear ho b3
            go_wp2_with fail
            refine bodyPost_ret (results_tmp2 rfl _ _ _) rfl ?_
            refine ⟨.slice av l.length cv, ?_, ?_, B3.out⟩
            · rw [HF3.out]; rfl
            · rw [HF3.out]; exact HO.out
          · have hle' : most < (l.length : Int) := by omega
            have HF3 : Hid (Ms.fit m most = Ms.fitF m most []) := Lib.hid (by rw [HF2.out, if_neg (fun h => by omega)])
            go_wp2_with fail
            refine EK.out.mono ?_
            rintro e w3 ⟨v, rfl, ho, b3⟩
            obtain ⟨av, cv, rfl⟩ := own_len ho
            have B3 := Lib.hid (BX.out.trans (b3.mono BX.out.size))
            have K3 := Lib.hid (KX'.out.below b3)
            clear ho b3
            go_wp2_with fail
            go_roundw
            case rel => exact ⟨3, by go_num, by omega, K3, B3, HF3⟩
            case measure => simp [intOf]
        · have hcb : (c == 0) = false := by rw [beq_eq_false_iff_ne]; exact hc
          have HF3 : Hid (Ms.fit m most = Ms.fitF m most []) := Lib.hid (by rw [HF2.out, if_neg (fun h => hc h.1)])
          go_wp2_with fail
          refine EK.out.mono ?_
          rintro e w3 ⟨v, rfl, ho, b3⟩
          obtain ⟨av, cv, rfl⟩ := own_len ho
          have B3 := Lib.hid (BX.out.trans (b3.mono BX.out.size))
          have K3 := Lib.hid (KX'.out.below b3)
          clear ho b3
          go_wp2_with fail
          go_roundw
          case rel => exact ⟨3, by go_num, by omega, K3, B3, HF3⟩
          case measure => simp [intOf]
      · have HF3 : Hid (Ms.fit m most = ([], 3)) := Lib.hid hf.out
        go_wp2_with fail
        refine bodyPost_ret (results_tmp2 rfl _ _ _) rfl ?_
        refine ⟨.slice none 0 0, ?_, ?_, BR.out⟩
        · rw [HF3.out]; rfl
        · rw [HF3.out]; exact ownE_nil _ _ _ _
end Go.Proofs.Ytfmghbmbahembaa

/- A message that is filled by appends to its lists, no record beside: for the law of names. -/
namespace Go.Proofs.Ytfmghbmbahembaa
open Go.RowKit Go.Shelf Go.Maps
attribute [local go_sem] Oper.semAt_some

/-- A message's box B (what lies below it is as it was in W0). -/
structure Cm (W0 : World) (B hi : Nat) (cs : List Value) (W : World) : Prop where
  blk : Block W B cs.toArray 27
  was : B = W0.heap.size
  lt : B < hi
  his : hi ≤ W.heap.size
  bel : Below B W0 W
section
variable {W0 : World} {B : Nat} {hi : Nat} {cs : List Value} {W W' : World}
theorem Cm.below (h : Cm W0 B hi cs W) (hb : Below W.heap.size W W') : Cm W0 B hi cs W' :=
  ⟨h.blk.below hb, h.was, h.lt, Nat.le_trans h.his hb.size, h.bel.trans (hb.mono (by have := h.his; have := h.lt; omega))⟩
theorem Cm.alloc (h : Cm W0 B hi cs W) (o : Obj) : Cm W0 B hi cs (W.alloc o) := h.below ((Below.refl _ W).alloc (Nat.le_refl _) o)
theorem Cm.set (h : Cm W0 B hi cs W) (i : Nat) (v : Value) : Cm W0 B hi (cs.set i v) (W.setCell ⟨B, i, none⟩ v) := by
  have hs : (W.setCell ⟨B, i, none⟩ v).heap.size = W.heap.size := by simp [World.setCell]
  refine ⟨?_, h.was, h.lt, by have := h.his; omega, h.bel.setCell (p := ⟨B, i, none⟩) (Nat.le_refl _) v⟩
  have := h.blk.set i v
  rwa [show cs.toArray.setIfInBounds i v = (cs.set i v).toArray by simp] at this
theorem Cm.apd {α : Type} {enc : α → List Value} {k : Nat} {e : TypeId} {v : Value} {l : List α} (h : Cm W0 B hi cs W) (ho : OwnK enc k e hi v l W) (hg : W.grownBy W' v.ownBlock) : Cm W0 B hi cs W' := by
  have hbl := below_ownK ho hg h.his
  have h1 := h.lt
  exact ⟨(hbl.block B (by omega)).trans h.blk, h.was, h.lt, Nat.le_trans h.his hg.size, h.bel.trans (hbl.mono (by omega))⟩
end
theorem readR_blk {W : World} {g : Nat} {l : List Rd.RR} (h : Block W g (l.flatMap encRR).toArray 45) : ReadR (.slice (some ⟨g, 0, none⟩) l.length l.length) l W :=
  ⟨_, _, rfl, fun j hj => by
    have f : ∀ i v, i < 5 → (encRR l[j])[i]? = some v → W.cell? ⟨g, 0 + j * 5 + i, none⟩ = some v := fun i v hi hv => by
      rw [Nat.zero_add]
      exact h.cell (by rw [List.getElem?_toArray, flat_get encRR 5 encRR_len l j i hj hi]; exact hv)
    exact ⟨g, 0, rfl, f 0 _ (by omega) rfl, f 1 _ (by omega) rfl, f 2 _ (by omega) rfl, f 3 _ (by omega) rfl, f 4 _ (by omega) rfl⟩⟩
theorem mem_triples {n : List UInt8} {r : Rd.RR} : ∀ {k : Nat}, r ∈ Ms.triples n k → r = Ms.mxR n ∨ r = Ms.srvR n ∨ r = Ms.rawR n
  | 0, h => (List.not_mem_nil h).elim
  | k + 1, h => by
    unfold Ms.triples at h
    rcases List.mem_append.1 h with h | h
    · exact mem_triples h
    · simpa using h
theorem few_triples {n : List UInt8} {k top : Nat} (hn : n.length ≤ 100) (hk : k ≤ 20) (ht : 106 ≤ top) : FewR (Ms.triples n k) top :=
  ⟨by rw [Ms.triples_len]; omega, fun r hr => by
    rcases mem_triples hr with rfl | rfl | rfl
    · exact ⟨by show n.length ≤ top; omega, by show (_ ++ n).length ≤ top; rw [List.length_append]; simp; omega⟩
    · exact ⟨by show n.length ≤ top; omega, by show (_ ++ n).length ≤ top; rw [List.length_append]; simp; omega⟩
    · exact ⟨by show n.length ≤ top; omega, by show n.length ≤ top; omega⟩⟩
theorem slim_names {n : List UInt8} {k : Nat} (hn : n.length ≤ 100) (hk : k ≤ 20) : Slim (Ms.namesM n k) :=
  ⟨(by decide : 1 ≤ 100000), fun q hq => by
    have : q = ⟨n, 1, 1⟩ := by simpa [Ms.namesM] using hq
    rw [this]; show n.length ≤ 100000; omega, few_triples hn hk (by omega), few_nil _, few_nil _⟩
theorem short_names {n : List UInt8} {k : Nat} (hk : k ≤ 20) : Short (Ms.namesM n k) :=
  ⟨(by decide : 1 ≤ 1000000), by show (Ms.triples n k).length ≤ _; rw [Ms.triples_len]; omega, Nat.zero_le _, Nat.zero_le _⟩
theorem names_all {n : List UInt8} (hv : Nm.valid n = true) (hr : n ≠ [0]) {k z : Nat} (hk : k ≤ 20) (hz : z = 16 + n.length + k * (46 + 2 * n.length)) :
    (4096 < z → Ms.enc (Ms.namesM n k) = ([], 3)) ∧ (z ≤ 4096 → ∃ l, Ms.enc (Ms.namesM n k) = (l, 0) ∧ l.length = z ∧ Ms.dec l = (Ms.namesM n k, true, true)) := by
  have hck : Ms.check (Ms.namesM n k) = true := by rw [Ms.namesM_check hv, decide_eq_true_eq]; omega
  have hs := Ms.namesM_size hv hr k
  rw [← hz] at hs
  refine ⟨fun h => Ms.enc_big hck (by omega), fun h => ⟨_, (Ms.enc_yes hck (by omega)).1, by rw [(Ms.enc_yes hck (by omega)).2, hs], ?_⟩⟩
  obtain ⟨_, h2, h3, h4, _⟩ := Ms.back hck (by omega)
  unfold Ms.dec
  rw [if_neg (by omega), h4]
end Go.Proofs.Ytfmghbmbahembaa
