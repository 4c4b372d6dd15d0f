/- Encode: the walk. -/
import Derived.Test.YtfmghbmbahembaaJB20
import Derived.Test.YtfmghbmbahembaaJB24
import Derived.Test.YtfmghbmbahembaaJB33
/- Encode: the walk. -/
namespace Go.Proofs.Ytfmghbmbahembaa
open Go.RowKit Go.Shelf Go.Maps
attribute [local go_sem] Oper.semAt_some

def EncRet (m : Ms.M) (w : World) (e : Ending) (w' : World) : Prop := ∃ v, e = .returned (.tuple #[v, .int .i64 (Ms.enc m).2]) ∧ OwnE encB 5 w.heap.size v (Ms.enc m).1 w' ∧ Below w.heap.size w w'
def hcellsK (m : Ms.M) (vq va vn vd : Value) : Nat → Value
  | 0 => .int .i64 m.id | 1 => .bool m.resp | 2 => .int .i64 m.opc | 3 => .bool m.auth | 4 => .bool m.cut | 5 => .bool m.des | 6 => .bool m.avl | 7 => .int .i64 m.code
  | 8 => vq | 9 => va | 10 => vn | 11 => vd | 12 => .bool m.edns | _ => .int .i64 m.size

theorem ownE_lower {α : Type} {enc : α → Value} {e : TypeId} {base base' : Nat} {v : Value} {l : List α} {W : World} (h : OwnE enc e base v l W) (hb : base' ≤ base) : OwnE enc e base' v l W :=
  ⟨h.1, h.2.imp id fun ⟨g, cap, cur, h1, h2, h3⟩ => ⟨g, cap, cur, h1, Nat.le_trans hb h2, h3⟩⟩
theorem ownE_book {α : Type} {enc : α → Value} {e : TypeId} {base D : Nat} {v : Value} {l : List α} {W : World} {o1 o : Obj} (h : OwnE enc e base v l W) (hD : W.heap[D]? = some o1) (hc : isBook o1 = true) : OwnE enc e base v l (W.putObj D o) := by
  refine ⟨h.1, h.2.imp id fun ⟨g, cap, cur, h1, h2, h3, h4⟩ => ⟨g, cap, cur, h1, h2, ?_, h4⟩⟩
  refine ((grownBy_putObj' W D o).block g (Array.getElem?_eq_some_iff.1 h3).1 (fun e1 => ?_)).trans h3
  cases e1
  rw [hD] at h3
  cases h3
  cases hc
theorem readR_turn {base : Nat} {v : Value} {l : List Rd.RR} {F : Nat → Prop} {W W' : World} (o : OwnK encRR 5 45 base v l W) (T : Turn F W W') (hF : ∀ k, F k → k < base) : ReadR v l W' :=
  readR_own (ownK_of_block o (fun g hg hlt => T.block g hlt (fun e => by have := hF g e; have := ownK_base o hg; omega)))

set_option maxRecDepth 100000 in
set_option maxHeartbeats 16000000 in
theorem enc_any (m : Ms.M) (vq va vn vd : Value) (w : World) (hL : Lists m vq va vn vd w) (hs : Slim m) (h3a : FewR m.an 3000) (h3n : FewR m.ns 3000) (h3d : FewR m.ad 3000) :
    Calls Try.prog 16 #[msgV m vq va vn vd] w (EncRet m w) := by
  obtain ⟨y, hy⟩ : ∃ y, Ms.check m = y := ⟨_, rfl⟩
  have HL := Lib.hid hL
  have HS := Lib.hid hs
  have H3 := Lib.hid (And.intro h3a (And.intro h3n h3d))
  have HCK := Lib.hid (fun W (hb : Below w.heap.size w W) => mcheck_any m vq va vn vd W (hL.below hb) hs)
  obtain ⟨aq, cq, rfl, _⟩ := hL.qs.form
  obtain ⟨aa, ca, rfl, _⟩ := hL.an.form
  obtain ⟨an, cn, rfl, _⟩ := hL.ns.form
  obtain ⟨ad, cd, rfl, _⟩ := hL.ad.form
  rw [hy] at HCK
  have HY := Lib.hid hy
  clear hy hL hs h3a h3n h3d
  have hF1 : Fence.wide.fn 18 := trivial
  have hF2 : Fence.wide.fn 35 := trivial
  have hF3 : Fence.wide.fn 36 := trivial
  have hF4 : Fence.wide.fn 37 := trivial
  have hF5 : Fence.wide.fn 38 := trivial
  have hF6 : Fence.wide.fn 19 := trivial
  have hF7 : Fence.wide.fn 39 := trivial
  have hF8 : Fence.wide.fn 40 := trivial
  obtain ⟨w0, hw0⟩ : ∃ w0, w.alloc (.cells (hcells m (.slice aq m.qs.length cq) (.slice aa m.an.length ca) (.slice an m.ns.length cn) (.slice ad m.ad.length cd)) 27) = w0 := ⟨_, rfl⟩
  have hb0 : Below w.heap.size w w0 := by rw [← hw0]; exact (Below.refl _ _).alloc (Nat.le_refl _) _
  have hsz0 : w0.heap.size = w.heap.size + 1 := by rw [← hw0]; simp
  have K0 : Hid (Block w0 w.heap.size (hcells m (.slice aq m.qs.length cq) (.slice aa m.an.length ca) (.slice an m.ns.length cn) (.slice ad m.ad.length cd)) 27) := Lib.hid (by rw [← hw0]; exact Block.new _ _ _)
  unfold hcells at K0 hw0
  have HW0 := Lib.hid hw0
  clear hw0
  unfold msgV at HCK ⊢
  refine (callsIn_wide (n := 20)).1 ?_
  refine callsIn_of_wp_marks Try.func16 rfl trivial ?_ rfl
  simp only [Try.ntmps16, List.size_toArray, List.length_cons, List.length_nil, Nat.reduceAdd, Nat.reduceSub, Array.replicate_succ, Array.replicate_zero, List.push_toArray, List.append_toArray, List.nil_append, List.cons_append]
  gi_wp2_with fail
  try rw [HW0.out]
  refine (callsIn_wide.2 (HCK.out _ hb0)).mono ?_
  rintro e1 w1 ⟨rfl, b1⟩
  have hb1 := hb0.trans (b1.mono hb0.size)
  cases y with
  | false =>
    have HE := Lib.hid (Ms.enc_bad HY.out)
    gi_wp2_with fail
    refine ⟨_, results_tmp2 rfl _ _ _, ?_⟩
    exact ⟨.slice none 0 0, by rw [HE.out]; rfl, by rw [HE.out]; exact ownE_nil _ _ _ _, hb1⟩
  | true =>
    gi_wp2_with fail
    refine (callsIn_wide.2 (new_any 4096 w1)).mono ?_
    rintro e2 w2 ⟨rfl, b2, hw2, hsz2⟩
    have hb2 := hb1.trans (b2.mono hb1.size)
    have hs1 := hb1.size
    obtain ⟨B, hB⟩ : ∃ B, w1.heap.size = B := ⟨_, rfl⟩
    rw [hB] at hw2 hsz2 b2 ⊢
    have hMB : w.heap.size < B := by have := b1.size; omega
    obtain ⟨f, hf⟩ : ∃ f : Nat → Prop, (fun k => k = B) = f := ⟨_, rfl⟩
    rw [hf] at hw2
    have hfB : ∀ k, f k → k = B := fun k hk => by rw [← hf] at hk; exact hk
    clear hf
    have bA := (Below.refl w2.heap.size w2).alloc (Nat.le_refl _) (.cells #[.pointer (some ⟨B, 0, none⟩)] 76)
    have hbA := hb2.trans (bA.mono hb2.size)
    have KA := Lib.hid (((K0.out.below b1).below (hB ▸ b2)).below bA)
    have HWA := Lib.hid ((hw2.below bA).widen (g := grow f (w2.alloc (.cells #[.pointer (some ⟨B, 0, none⟩)] 76)) (w2.alloc (.cells #[.pointer (some ⟨B, 0, none⟩)] 76))) fun _ _ => .inl)
    have HBW := Lib.hid (Boxed.new w2 76 (.pointer (some ⟨B, 0, none⟩)))
    have hszA : (w2.alloc (.cells #[.pointer (some ⟨B, 0, none⟩)] 76)).heap.size = B + 2 := by simp [hsz2]
    rw [hsz2] at HBW
    have c0 := (KA.out).cell (i := 0) (v := .int .i64 m.id) rfl
    have c1 := (KA.out).cell (i := 1) (v := .bool m.resp) rfl
    have c2 := (KA.out).cell (i := 2) (v := .int .i64 m.opc) rfl
    have c3 := (KA.out).cell (i := 3) (v := .bool m.auth) rfl
    have c4 := (KA.out).cell (i := 4) (v := .bool m.cut) rfl
    have c5 := (KA.out).cell (i := 5) (v := .bool m.des) rfl
    have c6 := (KA.out).cell (i := 6) (v := .bool m.avl) rfl
    have c7 := (KA.out).cell (i := 7) (v := .int .i64 m.code) rfl
    have c8 := (KA.out).cell (i := 8) (v := .slice aq m.qs.length cq) rfl
    have c9 := (KA.out).cell (i := 9) (v := .slice aa m.an.length ca) rfl
    have c10 := (KA.out).cell (i := 10) (v := .slice an m.ns.length cn) rfl
    have c11 := (KA.out).cell (i := 11) (v := .slice ad m.ad.length cd) rfl
    have c12 := (KA.out).cell (i := 12) (v := .bool m.edns) rfl
    have c13 := (KA.out).cell (i := 13) (v := .int .i64 m.size) rfl
    have t4 := HBW.out.cell
    gi_wp2_with fail
    obtain ⟨wb, hwb⟩ : ∃ wb, w2.alloc (.cells #[.pointer (some ⟨B, 0, none⟩)] 76) = wb := ⟨_, rfl⟩
    rw [hwb] at KA HWA HBW hszA hbA ⊢
    clear hwb bA t4
    clear c0 c1 c2 c3 c4 c5 c6 c7 c8 c9 c10 c11 c12 c13
    have HT : Hid (Turn f wb wb) := Lib.hid (Turn.refl _ _)
    have hcs := Ms.check_split HY.out
    have HLB := Lib.hid (fun W (ht : Turn f wb W) => HL.out.below (hbA.trans (Turn.below ht (n := w.heap.size) (fun k hk => by have := hfB k hk; omega) (by omega))))
    have HFB := Lib.hid hfB
    have hMF : ¬ f w.heap.size := fun e => by have := hfB _ e; omega
    have hgf : Hid (∀ W, Turn f wb W → ∀ k, grow f wb W k → k < W.heap.size) := Lib.hid (fun W ht k hk => by
      have := ht.size
      rcases hk with hk | hk
      · have := hfB k hk; omega
      · exact hk.2)
    have hf1 := Lib.hid hfB
    clear hfB
    refine (callsIn_wide.2 (head_any B (WS.new 4096) _ m _ _ _ _ wb HWA.out (hgf.out wb HT.out) (HLB.out wb HT.out) hcs.1 (by simp [WS.new]) HS.out)).mono ?_
    intro e3 w3 h3
    have h3' := h3.then HT.out
    obtain ⟨rfl, ht3, hw3⟩ := h3'
    replace HT := Lib.hid ht3
    have HW := Lib.hid hw3
    clear h3 ht3 hw3 HWA
    obtain ⟨k1, k2, k3⟩ := Ms.okw_head m
    obtain ⟨S1, hS1⟩ : ∃ S1, (WS.new 4096).put (Ms.head m) = S1 := ⟨_, rfl⟩
    rw [hS1] at HW k1 k2 k3
    have hT1 : TabOk S1 := k1.tab
    have htab1 : S1.tab.length = 0 := by rw [← hS1]; rfl
    have HS1 := Lib.hid hS1
    clear hS1 k1 k3
    have hqn : ∀ q ∈ m.qs, q.name.length ≤ 255 := fun q hq => by
      have h := List.all_eq_true.1 hcs.2.2.2.2.1 q hq
      unfold Ms.checkQ at h
      rw [Bool.and_eq_true] at h
      exact Rd.valid_len h.1
    have hq4 := hcs.2.1
    have c8 := (KA.out.turnF HT.out hMF).cell (i := 8) (v := .slice aq m.qs.length cq) rfl
    gi_wp2_with fail
    clear c8
    gi_loopw [19] (fun i wr => ∃ k : Nat, i = .int .i64 (k : Int) ∧ k ≤ m.qs.length ∧ Hid (Turn f wb wr) ∧ Hid (WrE B ((m.qs.take k).foldl Ms.wQ S1) (grow f wb wr) wr)) (fun i _ => m.qs.length + 1 - (intOf i).toNat)
    case atStart => exact ⟨0, rfl, by omega, HT, by simpa using HW⟩
    case round =>
      clear HW HT
      obtain ⟨k, rfl, hk, HT, HW⟩ := hrel
      by_cases hlt : k < m.qs.length
      · obtain ⟨g, off, rfl, x0, x1, x2⟩ := readQ_at (HLB.out wr HT.out).qs hlt
        have hn := hqn m.qs[k] (List.getElem_mem hlt)
        have hfold : (m.qs.take (k + 1)).foldl Ms.wQ S1 = Ms.wQ ((m.qs.take k).foldl Ms.wQ S1) m.qs[k] := by rw [List.take_succ_eq_append_getElem hlt, List.foldl_append]; rfl
        obtain ⟨hTk, hzk, hyk⟩ := Ms.foldQ_le (m.qs.take k) hT1 (fun q hq => hqn q (List.take_subset _ _ hq))
        have hlk : (m.qs.take k).length ≤ 4 := by rw [List.length_take]; omega
        obtain ⟨⟨qn, qt, qc⟩, hqe⟩ : ∃ x, m.qs[k] = x := ⟨_, rfl⟩
        rw [hqe] at x0 x1 x2 hn hfold
        simp only at x0 x1 x2 hn
        obtain ⟨Sk, hSk⟩ : ∃ Sk, (m.qs.take k).foldl Ms.wQ S1 = Sk := ⟨_, rfl⟩
        rw [hSk] at HW hfold hTk hzk hyk
        obtain ⟨hz1, hy1⟩ := name_size_le Sk qn true
        obtain ⟨Sn, hSn⟩ : ∃ Sn, Sk.name qn true = Sn := ⟨_, rfl⟩
        have D1 := Lib.hid (fun (F : Nat → Prop) W (h : WrE B Sk F W) => name_any B Sk F qn true W h (by omega) (by omega) (by omega) hTk)
        rw [hSn] at D1 hz1
        have HFD : Hid ((m.qs.take (k + 1)).foldl Ms.wQ S1 = (Sn.put (two qt)).put (two qc)) := Lib.hid (by rw [hfold, ← hSn]; rfl)
        clear hqe hSk hSn hfold hy1 hTk hyk
        have bQ := (Below.refl wr.heap.size wr).alloc (Nat.le_refl _) (.cells #[.string ⟨qn.toArray⟩, .int .i64 qt, .int .i64 qc] 47)
        obtain ⟨F, hF⟩ : ∃ F, grow f wb wr = F := ⟨_, rfl⟩
        rw [hF] at HW
        have hFQ : ¬ F wr.heap.size := fun e => by
          rw [← hF] at e
          rcases e with e | e
          · have := (hgf.out wr HT.out) wr.heap.size (.inl e); omega
          · omega
        have HTF : Hid (∀ W', Turn F wr W' → Turn f wb W') := Lib.hid (fun W' h => HT.out.trans (by rw [hF]; exact h))
        have HWF : Hid (∀ W', wr.heap.size ≤ W'.heap.size → ∀ k, F k ∨ (wr.heap.size ≤ k ∧ k < W'.heap.size) → grow f wb W' k) := Lib.hid (fun W' hsz k hk => by
          have := HT.out.size
          rw [← hF] at hk
          rcases hk with (hk | hk) | hk
          · exact .inl hk
          · exact .inr ⟨hk.1, by omega⟩
          · exact .inr ⟨by omega, hk.2⟩)
        have HBWr := Lib.hid (HT.out.boxed _ _ _ HBW.out)
        have KQ := Lib.hid (Block.new wr #[.string ⟨qn.toArray⟩, .int .i64 qt, .int .i64 qc] 47)
        have HWq := Lib.hid ((HW.out.below bQ).widen (g := grow F (wr.alloc (.cells #[.string ⟨qn.toArray⟩, .int .i64 qt, .int .i64 qc] 47)) (wr.alloc (.cells #[.string ⟨qn.toArray⟩, .int .i64 qt, .int .i64 qc] 47))) fun _ _ => .inl)
        have BQ := Lib.hid bQ
        clear bQ HW hF HT hgf
        have t4 := (HBWr.out.alloc (.cells #[.string ⟨qn.toArray⟩, .int .i64 qt, .int .i64 qc] 47)).cell
        gi_wp2_with fail
        obtain ⟨wq, hwq⟩ : ∃ wq, wr.alloc (.cells #[.string ⟨qn.toArray⟩, .int .i64 qt, .int .i64 qc] 47) = wq := ⟨_, rfl⟩
        rw [hwq] at KQ HWq BQ ⊢
        have hszq : wq.heap.size = wr.heap.size + 1 := by rw [← hwq]; simp
        clear hwq t4
        have HTq : Hid (Turn F wq wq) := Lib.hid (Turn.refl _ _)
        have HBQ := Lib.hid (boxed_below HBWr.out BQ.out)
        obtain ⟨R, hRR⟩ : ∃ R, wr.heap.size = R := ⟨_, rfl⟩
        rw [hRR] at KQ hFQ hszq ⊢
        have HRR := Lib.hid hRR
        clear hRR
        refine (callsIn_wide.2 (D1.out _ _ HWq.out)).mono ?_
        intro e4 w4 h4
        have h4' := h4.then HTq.out
        obtain ⟨rfl, ht4, hw4⟩ := h4'
        replace HTq := Lib.hid ht4
        replace HWq := Lib.hid hw4
        clear h4 ht4 hw4
        have t4 := (HTq.out.boxed _ _ _ HBQ.out).cell
        have c1 := (KQ.out.turnF HTq.out hFQ).cell (i := 1) (v := .int .i64 qt) rfl
        gi_wp2_with fail
        refine (callsIn_wide.2 (wtwo_any B Sn _ qt _ HWq.out (by omega))).mono ?_
        intro e5 w5 h5
        have h5' := h5.then HTq.out
        obtain ⟨rfl, ht5, hw5⟩ := h5'
        replace HTq := Lib.hid ht5
        replace HWq := Lib.hid hw5
        clear h5 ht5 hw5 t4 c1
        have t4 := (HTq.out.boxed _ _ _ HBQ.out).cell
        have c2 := (KQ.out.turnF HTq.out hFQ).cell (i := 2) (v := .int .i64 qc) rfl
        gi_wp2_with fail
        refine (callsIn_wide.2 (wtwo_any B (Sn.put (two qt)) _ qc _ HWq.out (by simp only [WS.put, two_len]; omega))).mono ?_
        intro e6 w6 h6
        have h6' := h6.then HTq.out
        obtain ⟨rfl, ht6, hw6⟩ := h6'
        replace HTq := Lib.hid ht6
        replace HWq := Lib.hid hw6
        clear h6 ht6 hw6 t4 c2
        gi_wp2_with fail
        go_roundw
        case rel =>
          have hs6 := HTq.out.size
          have hRR := HRR.out
          refine ⟨k + 1, by go_num, by omega, Lib.hid (HTF.out _ ((Turn.of_below BQ.out).then HTq.out)), ?_⟩
          rw [HFD.out]
          exact Lib.hid (HWq.out.widen fun j _ hj => HWF.out _ (by omega) j (hj.imp id (fun h => ⟨by omega, h.2⟩)))
        case measure => simp [intOf]; omega
      · obtain rfl : k = m.qs.length := by omega
        have hw2 := HW.out
        rw [List.take_length] at hw2
        obtain ⟨hT2, hz2, hy2⟩ := Ms.foldQ_le m.qs hT1 hqn
        have hS4 : Ms.S4 m = ((Ms.rows m).map Prod.snd).foldl Ms.wR (m.qs.foldl Ms.wQ S1) := by unfold Ms.S4; rw [HS1.out]
        obtain ⟨S2, hS2⟩ : ∃ S2, m.qs.foldl Ms.wQ S1 = S2 := ⟨_, rfl⟩
        rw [hS2] at hw2 hT2 hz2 hy2 hS4
        have HS4 := Lib.hid hS4
        replace HW := Lib.hid hw2
        clear hw2 hS2 hS4
        have t4 := (HT.out.boxed _ _ _ HBW.out).cell

        have c0 := (KA.out.turnF HT.out hMF).cell (i := 0) (v := .int .i64 m.id) rfl
        have c1 := (KA.out.turnF HT.out hMF).cell (i := 1) (v := .bool m.resp) rfl
        have c2 := (KA.out.turnF HT.out hMF).cell (i := 2) (v := .int .i64 m.opc) rfl
        have c3 := (KA.out.turnF HT.out hMF).cell (i := 3) (v := .bool m.auth) rfl
        have c4 := (KA.out.turnF HT.out hMF).cell (i := 4) (v := .bool m.cut) rfl
        have c5 := (KA.out.turnF HT.out hMF).cell (i := 5) (v := .bool m.des) rfl
        have c6 := (KA.out.turnF HT.out hMF).cell (i := 6) (v := .bool m.avl) rfl
        have c7 := (KA.out.turnF HT.out hMF).cell (i := 7) (v := .int .i64 m.code) rfl
        have c8 := (KA.out.turnF HT.out hMF).cell (i := 8) (v := .slice aq m.qs.length cq) rfl
        have c9 := (KA.out.turnF HT.out hMF).cell (i := 9) (v := .slice aa m.an.length ca) rfl
        have c10 := (KA.out.turnF HT.out hMF).cell (i := 10) (v := .slice an m.ns.length cn) rfl
        have c11 := (KA.out.turnF HT.out hMF).cell (i := 11) (v := .slice ad m.ad.length cd) rfl
        have c12 := (KA.out.turnF HT.out hMF).cell (i := 12) (v := .bool m.edns) rfl
        have c13 := (KA.out.turnF HT.out hMF).cell (i := 13) (v := .int .i64 m.size) rfl
        gi_wp2_with fail
        clear t4 c0 c1 c2 c3 c4 c5 c6 c7 c8 c9 c10 c11 c12 c13
        refine (callsIn_wide.2 (mrecords_any m _ _ _ _ wr (HLB.out wr HT.out) HS.out)).mono ?_
        rintro e7 wg ⟨B2, va, vn, vd, rfl, hB2, hBl, o1, o2, o3, bg⟩
        obtain ⟨F, hF⟩ : ∃ F, grow f wb wr = F := ⟨_, rfl⟩
        rw [hF] at HW
        have hszr := HT.out.size
        have hszg := bg.size
        have hFlt : ∀ k, F k → k < wr.heap.size := fun k hk => by rw [← hF] at hk; exact hgf.out wr HT.out k hk
        have HFF : Hid (∀ k, F k → f k ∨ wb.heap.size ≤ k) := Lib.hid (fun k hk => by rw [← hF] at hk; exact hk.imp id (fun h => h.1))
        have hFM : ¬ F w.heap.size := fun e => by
          rw [← hF] at e
          rcases e with e | e
          · exact hMF e
          · omega
        have HTg : Hid (∀ W', Turn F wg W' → Turn f wb W') := Lib.hid (fun W' h => HT.out.trans (by rw [hF]; exact (Turn.of_below bg).then h))
        have HWg := Lib.hid ((HW.out.below bg).widen (g := grow F wg wg) fun _ _ => .inl)
        have HBg := Lib.hid (boxed_below (HT.out.boxed _ _ _ HBW.out) bg)
        have KG := Lib.hid ((KA.out.turnF HT.out hMF).below bg)
        have HO := Lib.hid (And.intro o1 (And.intro o2 o3))
        have HBL := Lib.hid hBl
        have hbg : Below w.heap.size w wg := (hbA.trans (Turn.below HT.out (n := w.heap.size) (fun k hk => by
          by_cases hkm : w.heap.size ≤ k
          · exact hkm
          · exact absurd (hgf.out wb (Turn.refl _ _) k (.inl hk)) (by have := hf1.out k hk; omega)) (by omega))).trans (bg.mono (by omega))
        clear o1 o2 o3 hBl hF HW HT bg
        gi_wp2_with fail
        have hrs := Ms.rows_small HY.out (fun r hr => by
          rcases hr with h | h | h
          · exact (H3.out.1.all r h).2
          · exact (H3.out.2.1.all r h).2
          · exact (H3.out.2.2.all r h).2)
        have hrl := hrs.1
        have HRS := Lib.hid hrs.2
        clear hrs
        have HFW : Hid (∀ W, Turn F wg W → ∀ k, grow F wg W k → k < W.heap.size) := Lib.hid (fun W ht k hk => by
          have := ht.size
          rcases hk with hk | hk
          · have := hFlt k hk; omega
          · exact hk.2)
        have HFL := Lib.hid hFlt
        clear hFlt
        refine wpIn_rangeFunc_ownC rfl (by omega) (gf := 47) (lb := #[.pointer (some ⟨B2, 0, none⟩)]) (by rfl) trivial (enters_of Try.func47 (by kernel_rfl) rfl)
          (recs_stops _ (by omega) B2 m va vn vd HS.out wg HBL.out (readR_own HO.out.1) (readR_own HO.out.2.1) (readR_own HO.out.2.2) _ (Nat.le_refl _)) krs_t (fun W l o o' _ h1 h2 _ => krs_b W l o o' h1 h2) (Below.refl _ _) (fun _ => rfl)
          (fun pre W => Turn F wg W ∧ WrE B ((pre.map Prod.snd).foldl Ms.wR S2) (grow F wg W) W) (fun c pre W => False)
          (fun pre A C row h hg hr => ⟨h.1.grown hg (fun r e => (hr r e).1), (h.2.book hg (fun r e => (hr r e).2)).widen fun k _ => grow_le hg.size k⟩) (fun c s A C row hs hg hr => hs)
          ⟨Turn.refl _ _, HWg.out⟩ ?a1 (fun x => .cells #[.string ⟨x.2.name.toArray⟩, .int .i64 x.2.typ, .int .i64 x.2.cls, .int .i64 x.2.ttl, .string ⟨x.2.data.toArray⟩] 45) (fun W o => krs_below ((Below.refl _ _).alloc (Nat.le_refl _) _)) ?assign ?body ?done ?stop
        case assign =>
          intro l x W K hK
          simp only [rrV]
          gi_wp2_with fail
          exact hK
        case body =>
          rintro l1 pre ⟨xi, n, t, c, l, d⟩ W0 W hlt hbx ⟨ht, hw⟩ hlen hsp
          have hxm := HRS.out (xi, ⟨n, t, c, l, d⟩) (hsp.subset (by simp))
          obtain ⟨hTk, hzk, hyk⟩ := Ms.foldR_le (pre.map Prod.snd) hT2 (fun r hr => by
            obtain ⟨y, hy, rfl⟩ := List.mem_map.1 hr
            exact HRS.out y (hsp.subset (by simp [hy])))
          have hpl : (pre.map Prod.snd).length ≤ 192 := by rw [List.length_map]; omega
          have hfold : ((pre ++ [(xi, (⟨n, t, c, l, d⟩ : Rd.RR))]).map Prod.snd).foldl Ms.wR S2 = Ms.wR ((pre.map Prod.snd).foldl Ms.wR S2) ⟨n, t, c, l, d⟩ := by rw [List.map_append, List.foldl_append]; rfl
          obtain ⟨Sk, hSk⟩ : ∃ Sk, (pre.map Prod.snd).foldl Ms.wR S2 = Sk := ⟨_, rfl⟩
          rw [hSk] at hTk hzk hyk hfold hw
          simp only at hxm hbx ⊢
          have D1 := Lib.hid (wrec_any B Sk (grow F wg W) ⟨n, t, c, l, d⟩ W hw (HFW.out W ht) (by simp only; omega) (by simp only; omega) (by omega) (by omega) hTk)
          simp only [rrV] at D1
          have HFD := Lib.hid hfold
          have HTW := Lib.hid ht
          have t4 := (ht.boxed _ _ _ HBg.out).cell
          have hBX : Block W W0.heap.size #[.string ⟨n.toArray⟩, .int .i64 t, .int .i64 c, .int .i64 l, .string ⟨d.toArray⟩] 45 := hbx
          obtain ⟨Q, hQ⟩ : ∃ Q, W0.heap.size = Q := ⟨_, rfl⟩
          rw [hQ] at hBX ⊢
          have q0 := hBX.cell (i := 0) (v := .string ⟨n.toArray⟩) rfl
          have q1 := hBX.cell (i := 1) (v := .int .i64 t) rfl
          have q2 := hBX.cell (i := 2) (v := .int .i64 c) rfl
          have q3 := hBX.cell (i := 3) (v := .int .i64 l) rfl
          have q4 := hBX.cell (i := 4) (v := .string ⟨d.toArray⟩) rfl
          clear hfold hw ht hbx hBX hSk hsp hlen hQ hlt
          gi_wp2_with fail
          refine (CallsIn.inRound l1 (callsIn_wide.2 D1.out)).mono ?_
          rintro e8 w8 ⟨rfl, ht8, hw8⟩
          gi_wp2_with fail
          have T8 := HTW.out.trans ht8
          have hs8 := ht8.size
          have hsW := HTW.out.size
          refine ⟨keepsBk_turn ht8 _, ⟨fun _ => readR_turn HO.out.1 T8 HFL.out, fun _ => readR_turn HO.out.2.1 T8 HFL.out, fun _ => readR_turn HO.out.2.2 T8 HFL.out⟩, T8, ?_⟩
          rw [HFD.out]
          refine hw8.widen fun k _ hk => ?_
          rcases hk with (hk | hk) | hk
          · exact .inl hk
          · exact .inr ⟨hk.1, by omega⟩
          · exact .inr ⟨by omega, hk.2⟩
        case stop =>
          rintro D c pre W hD hSp h hK
          exact h.elim
        case done =>
          rintro D ys W hD hS ⟨ht, hw⟩ hK
          obtain rfl : ys = Ms.rows m := hS
          obtain ⟨hT4, hz4, hy4⟩ := Ms.foldR_le ((Ms.rows m).map Prod.snd) hT2 (fun r hr => by
            obtain ⟨y, hy, rfl⟩ := List.mem_map.1 hr
            exact HRS.out y hy)
          rw [← HS4.out] at hw hT4 hz4 hy4
          rw [List.length_map] at hz4 hy4
          have KW := KG.out.turnF ht hFM
          have HKW := Lib.hid KW
          have t4 := (ht.boxed _ _ _ HBg.out).cell
          have hTe := Ms.enc_T HY.out
          have hTl := Ms.T_le hT4
          have hTm := Ms.T_most m
          obtain ⟨ed, hed⟩ : ∃ ed, m.edns = ed := ⟨_, rfl⟩
          have c12 := KW.cell (i := 12) (v := .bool m.edns) rfl
          have c13 := KW.cell (i := 13) (v := .int .i64 m.size) rfl
          rw [hed] at c12
          have hTd : Ms.T m = if ed then Ms.wR (Ms.S4 m) (Ms.optR m.size) else Ms.S4 m := by rw [← hed]; rfl
          have HBW' : Hid (Below w.heap.size w W) := Lib.hid (hbg.trans (Turn.below ht (n := w.heap.size) (fun k hk => by
            rcases (HFF.out k hk) with h | h
            · have := hf1.out k h; omega
            · omega) (by omega)))
          have HBAD : Hid (∀ w9, Below w.heap.size w w9 → w9.heap[D]? = some (.deferred (some [])) → ((Ms.T m).bad = true ∨ (Ms.T m).most < ((Ms.T m).size : Int)) → EncRet m w (.returned (.tuple #[.slice none 0 0, .int .i64 3])) (w9.putObj D (.deferred none))) := Lib.hid (fun w9 hb9 hD9 hbad => by
            have hbD : Below w.heap.size w (w9.putObj D (.deferred none)) := hb9.grown (grownBy_putObj' w9 D _) hb9.size (fun k e => by cases e; omega)
            have e := hTe
            rw [hTm] at hbad
            rw [if_pos hbad] at e
            exact ⟨.slice none 0 0, by rw [e], by rw [e]; exact ownE_nil _ _ _ _, hbD⟩)
          have HGOOD : Hid (∀ w9 u, Below w.heap.size w w9 → w9.heap[D]? = some (.deferred (some [])) → ¬ ((Ms.T m).bad = true ∨ (Ms.T m).most < ((Ms.T m).size : Int)) → OwnE encB 5 w.heap.size u (Ms.T m).out w9 → EncRet m w (.returned (.tuple #[u, .int .i64 0])) (w9.putObj D (.deferred none))) := Lib.hid (fun w9 u hb9 hD9 hbad ho => by
            have hbD : Below w.heap.size w (w9.putObj D (.deferred none)) := hb9.grown (grownBy_putObj' w9 D _) hb9.size (fun k e => by cases e; omega)
            have e := hTe
            rw [hTm] at hbad
            rw [if_neg hbad] at e
            exact ⟨u, by rw [e], by rw [e]; exact ownE_book ho hD9 rfl, hbD⟩)
          have HW := Lib.hid hw
          have HTW := Lib.hid ht
          have HTD := Lib.hid hTd
          have HDK := Lib.hid hK
          clear hw ht hTe hTm hTd hK KW hed
          cases ed with
          | false =>
            have hTd := HTD.out
            rw [if_neg (by simp)] at hTd
            have HX := Lib.hid (out_any B (Ms.T m) (grow F wg W) W (by rw [hTd]; exact HW.out) (by omega))
            have HDX := Lib.hid HDK.out
            have HBX := Lib.hid HBW'.out
            clear hTd c13
            gi_wp2_with fail
            refine (callsIn_wide.2 HX.out).mono ?_
            rintro e9 w9 ⟨hb9, ho1, ho2⟩
            have hD9 := (hb9.block D (blk_lt HDX.out)).trans HDX.out
            have hbb := HBX.out.trans (hb9.mono HBX.out.size)
            by_cases hbad : (Ms.T m).bad = true ∨ (Ms.T m).most < ((Ms.T m).size : Int)
            · obtain rfl := ho1 hbad
              have HB := Lib.hid (HBAD.out w9 hbb hD9 hbad)
              clear ho1 ho2 hbad
              gi_wp2_with fail
              refine ⟨by simp, .inl ⟨_, _, rfl, run_takeDeferred hD9, ?_⟩⟩
              refine ⟨_, results_tmp2 rfl _ _ _, ?_⟩
              exact HB.out
            · obtain ⟨u, rfl, ho⟩ := ho2 hbad
              have HB := Lib.hid (HGOOD.out w9 u hbb hD9 hbad (ownE_lower ho HBX.out.size))
              clear ho1 ho2 hbad ho
              gi_wp2_with fail
              refine ⟨by simp, .inl ⟨_, _, rfl, run_takeDeferred hD9, ?_⟩⟩
              refine ⟨_, results_tmp2 rfl _ _ _, ?_⟩
              exact HB.out
          | true =>
            have hTd := HTD.out
            rw [if_pos rfl] at hTd
            have D1 := Lib.hid (wrec_any B (Ms.S4 m) (grow F wg W) (Ms.optR m.size) W HW.out (HFW.out W HTW.out) (by unfold Ms.optR; simp) (by unfold Ms.optR; simp) (by omega) (by omega) hT4)
            rw [← hTd] at D1
            unfold Ms.optR rrV at D1
            simp only [List.toArray] at D1
            clear hTd
            gi_wp2_with fail
            refine (callsIn_wide.2 D1.out).mono ?_
            rintro e8 w8 ⟨rfl, ht8, hw8⟩
            have t8 := HTW.out.trans ht8
            have t4' := (t8.boxed _ _ _ HBg.out).cell
            have HX := Lib.hid (out_any B (Ms.T m) _ w8 hw8 (by omega))
            have HDX := Lib.hid (ht8.book D _ HDK.out rfl)
            have HBX := Lib.hid (hbg.trans (Turn.below t8 (n := w.heap.size) (fun k hk => by
              rcases (HFF.out k hk) with h | h
              · have := hf1.out k h; omega
              · omega) (by omega)))
            clear t8 ht8 hw8 t4 c12 c13
            gi_wp2_with fail
            refine (callsIn_wide.2 HX.out).mono ?_
            rintro e9 w9 ⟨hb9, ho1, ho2⟩
            have hD9 := (hb9.block D (blk_lt HDX.out)).trans HDX.out
            have hbb := HBX.out.trans (hb9.mono HBX.out.size)
            by_cases hbad : (Ms.T m).bad = true ∨ (Ms.T m).most < ((Ms.T m).size : Int)
            · obtain rfl := ho1 hbad
              have HB := Lib.hid (HBAD.out w9 hbb hD9 hbad)
              clear ho1 ho2 hbad
              gi_wp2_with fail
              refine ⟨by simp, .inl ⟨_, _, rfl, run_takeDeferred hD9, ?_⟩⟩
              refine ⟨_, results_tmp2 rfl _ _ _, ?_⟩
              exact HB.out
            · obtain ⟨u, rfl, ho⟩ := ho2 hbad
              have HB := Lib.hid (HGOOD.out w9 u hbb hD9 hbad (ownE_lower ho HBX.out.size))
              clear ho1 ho2 hbad ho
              gi_wp2_with fail
              refine ⟨by simp, .inl ⟨_, _, rfl, run_takeDeferred hD9, ?_⟩⟩
              refine ⟨_, results_tmp2 rfl _ _ _, ?_⟩
              exact HB.out

end Go.Proofs.Ytfmghbmbahembaa
