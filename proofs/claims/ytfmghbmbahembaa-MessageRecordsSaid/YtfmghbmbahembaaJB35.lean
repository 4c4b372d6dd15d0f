/- Decode, as the code has it. -/
import Derived.Test.YtfmghbmbahembaaJB33
/- Decode, as the code has it. -/
namespace Go.Proofs.Ytfmghbmbahembaa
open Go.RowKit Go.Shelf
attribute [local go_sem] Oper.semAt_some

def cDec (b : List UInt8) : Ms.M × Bool × Bool := if b.length < 12 then (Ms.M.zero, false, false) else match (if headOk b then cBody b else none) with
  | some m => (m, true, true)
  | none => (Ms.hdOf b, true, false)
/-- What Decode answers. -/
def DecRet (x : Ms.M × Bool × Bool) (w : World) (e : Ending) (w' : World) : Prop := ∃ vq va vn vd, e = .returned (.tuple #[msgV x.1 vq va vn vd, .bool x.2.1, .int .i64 (errOf x.2.2)]) ∧ Lists x.1 vq va vn vd w' ∧ Below w.heap.size w w'
theorem lists_nil {m : Ms.M} (hq : m.qs = []) (ha : m.an = []) (hn : m.ns = []) (hd : m.ad = []) (W : World) : Lists m (.slice none 0 0) (.slice none 0 0) (.slice none 0 0) (.slice none 0 0) W :=
  ⟨by rw [hq]; exact readQ_nil W, by rw [ha]; exact readR_nil W, by rw [hn]; exact readR_nil W, by rw [hd]; exact readR_nil W⟩
theorem turn_own {B : Nat} {w W : World} (h : Turn (Only B) w W) (hB : w.heap.size ≤ B) : Below w.heap.size w W := h.below (fun k hk => by rw [show k = B from hk]; exact hB) (Nat.le_refl _)

set_option maxRecDepth 100000 in
set_option maxHeartbeats 16000000 in
theorem cdecode_any (b : List UInt8) (bv : Value) (w : World) (hr : ReadB bv b w) (hcap : CapOk bv) (hlen : b.length ≤ 100000) :
    Calls Try.prog 12 #[bv] w (DecRet (cDec b) w) := by
  obtain ⟨ao, cap, rfl, _⟩ := hr.form
  have hz := zeroMsg w
  have hz2 : ∀ W : World, (zeroValue 60).run Try.prog W = .ok (.agg #[.slice none 0 0, .int .i64 0, .int .i64 0]) W := fun W => by kernel_rfl
  by_cases h12 : b.length < 12
  · have HE : Hid (cDec b = (Ms.M.zero, false, false)) := Lib.hid (if_pos h12)
    have F0 : Block (w.alloc (.cells msg0.toArray 27)) w.heap.size msg0.toArray 27 := Block.new _ _ _
    have HF0 := Lib.hid F0
    unfold msg0 at hz F0
    clear F0
    go_enter Try.func12, Try.ntmps12
    go_wp2_with fail
    rw [HE.out]
    exact bodyPost_ret (v := .tuple #[msgV Ms.M.zero (.slice none 0 0) (.slice none 0 0) (.slice none 0 0) (.slice none 0 0), .bool false, .int .i64 2]) (by simp [results, Try.results12, go_sem, msgV, Ms.M.zero]) rfl ⟨_, _, _, _, rfl, lists_nil rfl rfl rfl rfl _, (Below.refl _ _).alloc (Nat.le_refl _) _⟩
  · have M0 := Block.new w msg0.toArray 27
    have MB := Block.new (w.alloc (.cells msg0.toArray 27)) (rCells (.slice ao b.length cap) 0 0) 60
    rw [World.size_alloc] at MB
    have hr1 : ReadB (.slice ao b.length cap) b ((w.alloc (.cells msg0.toArray 27)).alloc (.cells (rCells (.slice ao b.length cap) 0 0) 60)) := readB_below hr (((Below.refl _ _).alloc (Nat.le_refl _) _).alloc (by simp) _)
    have R1 : RdS (w.heap.size + 1) b (.slice ao b.length cap) (some 0) ((w.alloc (.cells msg0.toArray 27)).alloc (.cells (rCells (.slice ao b.length cap) 0 0) 60)) := RdS.of MB (by omega) hr1
    have T1 : Turn (Only (w.heap.size + 1)) w ((w.alloc (.cells msg0.toArray 27)).alloc (.cells (rCells (.slice ao b.length cap) 0 0) 60)) := since_alloc (since_alloc (Turn.refl _ _) _) _
    have F1 : Fill (w.heap.size + 1) b (.slice ao b.length cap) (some 0) w w.heap.size ((w.alloc (.cells msg0.toArray 27)).alloc (.cells (rCells (.slice ao b.length cap) 0 0) 60)) msg0 ((w.alloc (.cells msg0.toArray 27)).alloc (.cells (rCells (.slice ao b.length cap) 0 0) 60)) :=
      ⟨⟨M0.alloc _, R1, T1, rfl, by decide, by omega, Nat.le_refl _⟩, rfl, fun _ _ => rfl⟩
    have HF1 := Lib.hid F1.m
    have HBlt : Hid (w.heap.size ≤ w.heap.size + 1) := Lib.hid (by omega)
    have hBb : Hid (w.heap.size + 1 < ((w.alloc (.cells msg0.toArray 27)).alloc (.cells (rCells (.slice ao b.length cap) 0 0) 60)).heap.size) := Lib.hid (by simp)
    clear M0 MB hr1 R1 T1 F1
    unfold msg0 at hz
    unfold msg0 rCells at HF1 hBb
    go_enter Try.func12, Try.ntmps12
    go_wp2_with fail
    obtain ⟨B, hB⟩ : ∃ B, w.heap.size + 1 = B := ⟨_, rfl⟩
    rw [hB] at HF1 HBlt hBb ⊢
    obtain ⟨R0, hR0⟩ : ∃ R, w.heap.size = R := ⟨_, rfl⟩
    have HR0 := Lib.hid hR0
    rw [hR0] at HF1 HBlt ⊢
    clear hB hR0 hz hz2
    refine (dhead_any B b _ _ HF1.out.rd hcap hlen (by omega)).mono ?_
    generalize World.alloc _ _ = W1 at HF1 hBb ⊢
    rintro e2 w2 ⟨rfl, t2, h2⟩
    replace HF1 := Lib.hid (HF1.out.then t2 h2)
    clear t2 h2 hBb
    have hsz2 := HF1.out.blk.lt
    have HK6 := Lib.hid ((Block.new w2 (headCells b).toArray 27).alloc (.cells (cnt b 4).toArray 61))
    have k7 := Block.new (w2.alloc (.cells (headCells b).toArray 27)) (cnt b 4).toArray 61
    rw [World.size_alloc] at k7
    have HK7 := Lib.hid k7
    have HF2 := Lib.hid ((HF1.out.below ((Below.refl _ _).alloc (Nat.le_refl _) (.cells (headCells b).toArray 27))).below ((Below.refl _ _).alloc (Nat.le_refl _) (.cells (cnt b 4).toArray 61)))
    have hA0 : w2.heap.size ≠ R0 := by omega
    have hAB : w2.heap.size ≠ B := by have := HF1.out.rd.lt; omega
    clear k7 HF1
    have e1 : msgV (Ms.hdOf b) (.slice none 0 0) (.slice none 0 0) (.slice none 0 0) (.slice none 0 0) = .agg (headCells b).toArray := rfl
    rw [e1]
    unfold countsV
    rw [cnt_four] at HF2 HK6 HK7
    unfold headCells at HF2 HK6 HK7 ⊢
    clear e1
    cases hok : headOk b with
    | false =>
      have HE : Hid (cDec b = (Ms.hdOf b, true, false)) := Lib.hid (by unfold cDec; rw [if_neg h12, hok]; rfl)
      rw [hok, after_false] at HF2
      obtain ⟨q2, hB2, _⟩ := RdS.bad HF2.out.rd
      have ee2 := hB2.cell (i := 2) (v := .int .i64 2) rfl
      clear hok hB2
      go_wp2_with fail
      clear ee2
      generalize World.alloc _ _ = W3 at HF2 HK6 HK7 ⊢
      obtain ⟨A6, hA6⟩ : ∃ A, w2.heap.size = A := ⟨_, rfl⟩
      rw [hA6] at HK6 hA0 hAB ⊢
      have F0 : Hid (Fill B b (.slice ao b.length cap) none w R0 W3 [.int .i64 0, .bool false, .int .i64 0, .bool false, .bool false, .bool false, .bool false, .int .i64 0, .slice none 0 0, .slice none 0 0, .slice none 0 0, .slice none 0 0, .bool false, .int .i64 0] W3) := Lib.hid ⟨HF2.out, rfl, fun _ _ => rfl⟩
      clear hA6
      obtain ⟨q3, hB3, _⟩ := RdS.bad F0.out.m.rd
      have ee2 := hB3.cell (i := 2) (v := .int .i64 2) rfl
      have hRB : R0 ≠ B := F0.out.m.ne
      have hBR : B ≠ R0 := fun h => hRB h.symm
      clear hB3
      have c0 := HK6.out.cell (i := 0) (v := .int .i64 (Ms.hdOf b).id) rfl
      have c1 := HK6.out.cell (i := 1) (v := .bool (Ms.hdOf b).resp) rfl
      have c2 := HK6.out.cell (i := 2) (v := .int .i64 (Ms.hdOf b).opc) rfl
      have c3 := HK6.out.cell (i := 3) (v := .bool (Ms.hdOf b).auth) rfl
      have c4 := HK6.out.cell (i := 4) (v := .bool (Ms.hdOf b).cut) rfl
      have c5 := HK6.out.cell (i := 5) (v := .bool (Ms.hdOf b).des) rfl
      have c6 := HK6.out.cell (i := 6) (v := .bool (Ms.hdOf b).avl) rfl
      have c7 := HK6.out.cell (i := 7) (v := .int .i64 (Ms.hdOf b).code) rfl
      have c8 := HK6.out.cell (i := 8) (v := .slice none 0 0) rfl
      have c9 := HK6.out.cell (i := 9) (v := .slice none 0 0) rfl
      have c10 := HK6.out.cell (i := 10) (v := .slice none 0 0) rfl
      have c11 := HK6.out.cell (i := 11) (v := .slice none 0 0) rfl
      have c12 := HK6.out.cell (i := 12) (v := .bool false) rfl
      have c13 := HK6.out.cell (i := 13) (v := .int .i64 0) rfl
      have d0 := F0.out.m.blk.cell (i := 0) (v := .int .i64 0) rfl
      have f0 := F0.out.m.blk.frozen 0
      have d1 := F0.out.m.blk.cell (i := 1) (v := .bool false) rfl
      have f1 := F0.out.m.blk.frozen 1
      have d2 := F0.out.m.blk.cell (i := 2) (v := .int .i64 0) rfl
      have f2 := F0.out.m.blk.frozen 2
      have d3 := F0.out.m.blk.cell (i := 3) (v := .bool false) rfl
      have f3 := F0.out.m.blk.frozen 3
      have d4 := F0.out.m.blk.cell (i := 4) (v := .bool false) rfl
      have f4 := F0.out.m.blk.frozen 4
      have d5 := F0.out.m.blk.cell (i := 5) (v := .bool false) rfl
      have f5 := F0.out.m.blk.frozen 5
      have d6 := F0.out.m.blk.cell (i := 6) (v := .bool false) rfl
      have f6 := F0.out.m.blk.frozen 6
      have d7 := F0.out.m.blk.cell (i := 7) (v := .int .i64 0) rfl
      have f7 := F0.out.m.blk.frozen 7
      have d8 := F0.out.m.blk.cell (i := 8) (v := .slice none 0 0) rfl
      have f8 := F0.out.m.blk.frozen 8
      have d9 := F0.out.m.blk.cell (i := 9) (v := .slice none 0 0) rfl
      have f9 := F0.out.m.blk.frozen 9
      have d10 := F0.out.m.blk.cell (i := 10) (v := .slice none 0 0) rfl
      have f10 := F0.out.m.blk.frozen 10
      have d11 := F0.out.m.blk.cell (i := 11) (v := .slice none 0 0) rfl
      have f11 := F0.out.m.blk.frozen 11
      have d12 := F0.out.m.blk.cell (i := 12) (v := .bool false) rfl
      have f12 := F0.out.m.blk.frozen 12
      have d13 := F0.out.m.blk.cell (i := 13) (v := .int .i64 0) rfl
      have f13 := F0.out.m.blk.frozen 13
      go_region
      all_goals
        have F9 := ((((((((((((((F0.out.set 0 (.int .i64 (Ms.hdOf b).id) rfl rfl).set 1 (.bool (Ms.hdOf b).resp) rfl rfl).set 2 (.int .i64 (Ms.hdOf b).opc) rfl rfl).set 3 (.bool (Ms.hdOf b).auth) rfl rfl).set 4 (.bool (Ms.hdOf b).cut) rfl rfl).set 5 (.bool (Ms.hdOf b).des) rfl rfl).set 6 (.bool (Ms.hdOf b).avl) rfl rfl).set 7 (.int .i64 (Ms.hdOf b).code) rfl rfl).set 8 (.slice none 0 0) rfl rfl).set 9 (.slice none 0 0) rfl rfl).set 10 (.slice none 0 0) rfl rfl).set 11 (.slice none 0 0) rfl rfl).set 12 (.bool false) rfl rfl).set 13 (.int .i64 0) rfl rfl)
        simp only [List.set_cons_zero, List.set_cons_succ] at F9
        clear c0 d0 f0 c1 d1 f1 c2 d2 f2 c3 d3 f3 c4 d4 f4 c5 d5 f5 c6 d6 f6 c7 d7 f7 c8 d8 f8 c9 d9 f9 c10 d10 f10 c11 d11 f11 c12 d12 f12 c13 d13 f13 ee2
        have F10 := F9.drew
        clear F9
        generalize World.drew _ = W9 at F10 ⊢
        have a0 := F10.m.blk.cell (i := 0) (v := .int .i64 (Ms.hdOf b).id) rfl
        have a1 := F10.m.blk.cell (i := 1) (v := .bool (Ms.hdOf b).resp) rfl
        have a2 := F10.m.blk.cell (i := 2) (v := .int .i64 (Ms.hdOf b).opc) rfl
        have a3 := F10.m.blk.cell (i := 3) (v := .bool (Ms.hdOf b).auth) rfl
        have a4 := F10.m.blk.cell (i := 4) (v := .bool (Ms.hdOf b).cut) rfl
        have a5 := F10.m.blk.cell (i := 5) (v := .bool (Ms.hdOf b).des) rfl
        have a6 := F10.m.blk.cell (i := 6) (v := .bool (Ms.hdOf b).avl) rfl
        have a7 := F10.m.blk.cell (i := 7) (v := .int .i64 (Ms.hdOf b).code) rfl
        have a8 := F10.m.blk.cell (i := 8) (v := .slice none 0 0) rfl
        have a9 := F10.m.blk.cell (i := 9) (v := .slice none 0 0) rfl
        have a10 := F10.m.blk.cell (i := 10) (v := .slice none 0 0) rfl
        have a11 := F10.m.blk.cell (i := 11) (v := .slice none 0 0) rfl
        have a12 := F10.m.blk.cell (i := 12) (v := .bool false) rfl
        have a13 := F10.m.blk.cell (i := 13) (v := .int .i64 0) rfl
        go_wp2_with fail
        rw [HE.out]
        exact bodyPost_ret (v := .tuple #[msgV (Ms.hdOf b) (.slice none 0 0) (.slice none 0 0) (.slice none 0 0) (.slice none 0 0), .bool true, .int .i64 2]) (by simp [results, Try.results12, go_sem, a0, a1, a2, a3, a4, a5, a6, a7, a8, a9, a10, a11, a12, a13, msgV]; exact ⟨rfl, rfl⟩) rfl ⟨_, _, _, _, rfl, lists_nil rfl rfl rfl rfl _, turn_own F10.m.tn (by have := HBlt.out; have := HR0.out; omega)⟩
    | true =>
      have hlim : tw b 4 ≤ 4 ∧ b.length ≤ 4096 := by
        unfold headOk at hok
        rw [Bool.and_eq_true, Bool.and_eq_true, decide_eq_true_eq, decide_eq_true_eq, decide_eq_true_eq] at hok
        exact ⟨hok.2.1, hok.2.2⟩
      rw [hok, after_true] at HF2
      have hE : cDec b = match cBody b with
          | some m => (m, true, true)
          | none => (Ms.hdOf b, true, false) := by unfold cDec; rw [if_neg h12, hok]; rfl
      have C := dbody_any B b _ _ HF2.out.rd hcap hlim.2 hlim.1
      have e1 : msgV (Ms.hdOf b) (.slice none 0 0) (.slice none 0 0) (.slice none 0 0) (.slice none 0 0) = .agg (headCells b).toArray := rfl
      rw [e1] at C
      unfold countsV headCells at C
      have HC := Lib.hid C
      have HEE := Lib.hid hE
      have ee1 := HF2.out.rd.here.cell (i := 2) (v := .int .i64 0) rfl
      have hRB : R0 ≠ B := HF2.out.ne
      have hBR : B ≠ R0 := fun h => hRB h.symm
      clear hok hE C e1 hlim
      go_wp2_with fail
      refine HC.out.mono ?_
      rintro e4 w4 ⟨m, vq, va, vn, vd, s4, rfl, hL, t4, h4, hy, hn⟩
      have HF4 := Lib.hid (HF2.out.then t4 h4)
      have HK64 := Lib.hid (HK6.out.turn t4 hAB)
      obtain ⟨aq, cq, rfl, _⟩ := hL.qs.form
      obtain ⟨aa, ca, rfl, _⟩ := hL.an.form
      obtain ⟨an, cn, rfl, _⟩ := hL.ns.form
      obtain ⟨ad, cd, rfl, _⟩ := hL.ad.form
      have HL := Lib.hid hL
      have F4 : Hid (Fill B b (.slice ao b.length cap) s4 w R0 w4 [.int .i64 0, .bool false, .int .i64 0, .bool false, .bool false, .bool false, .bool false, .int .i64 0, .slice none 0 0, .slice none 0 0, .slice none 0 0, .slice none 0 0, .bool false, .int .i64 0] w4) := Lib.hid ⟨HF4.out, rfl, fun _ _ => rfl⟩
      have F5 := Lib.hid ((((((((((((((F4.out.set 0 (.int .i64 m.id) rfl rfl).set 1 (.bool m.resp) rfl rfl).set 2 (.int .i64 m.opc) rfl rfl).set 3 (.bool m.auth) rfl rfl).set 4 (.bool m.cut) rfl rfl).set 5 (.bool m.des) rfl rfl).set 6 (.bool m.avl) rfl rfl).set 7 (.int .i64 m.code) rfl rfl).set 8 (.slice aq m.qs.length cq) rfl rfl).set 9 (.slice aa m.an.length ca) rfl rfl).set 10 (.slice an m.ns.length cn) rfl rfl).set 11 (.slice ad m.ad.length cd) rfl rfl).set 12 (.bool m.edns) rfl rfl).set 13 (.int .i64 m.size) rfl rfl)
      simp only [List.set_cons_zero, List.set_cons_succ] at F5
      have HL5 := Lib.hid (fun W (hw : ∀ k, k ≠ R0 → W.heap[k]? = w4.heap[k]?) => (⟨fill_Q F4.out.m.blk F4.out.str hw HL.out.qs, fill_R F4.out.m.blk F4.out.str hw HL.out.an, fill_R F4.out.m.blk F4.out.str hw HL.out.ns, fill_R F4.out.m.blk F4.out.str hw HL.out.ad⟩ : Lists m (.slice aq m.qs.length cq) (.slice aa m.an.length ca) (.slice an m.ns.length cn) (.slice ad m.ad.length cd) W))
      have HOTH := Lib.hid F5.out.oth
      have HY := Lib.hid hy
      have HN := Lib.hid hn
      clear t4 h4 hy hn hL ee1
      have d0 := HF4.out.blk.cell (i := 0) (v := .int .i64 0) rfl
      have f0 := HF4.out.blk.frozen 0
      have d1 := HF4.out.blk.cell (i := 1) (v := .bool false) rfl
      have f1 := HF4.out.blk.frozen 1
      have d2 := HF4.out.blk.cell (i := 2) (v := .int .i64 0) rfl
      have f2 := HF4.out.blk.frozen 2
      have d3 := HF4.out.blk.cell (i := 3) (v := .bool false) rfl
      have f3 := HF4.out.blk.frozen 3
      have d4 := HF4.out.blk.cell (i := 4) (v := .bool false) rfl
      have f4 := HF4.out.blk.frozen 4
      have d5 := HF4.out.blk.cell (i := 5) (v := .bool false) rfl
      have f5 := HF4.out.blk.frozen 5
      have d6 := HF4.out.blk.cell (i := 6) (v := .bool false) rfl
      have f6 := HF4.out.blk.frozen 6
      have d7 := HF4.out.blk.cell (i := 7) (v := .int .i64 0) rfl
      have f7 := HF4.out.blk.frozen 7
      have d8 := HF4.out.blk.cell (i := 8) (v := .slice none 0 0) rfl
      have f8 := HF4.out.blk.frozen 8
      have d9 := HF4.out.blk.cell (i := 9) (v := .slice none 0 0) rfl
      have f9 := HF4.out.blk.frozen 9
      have d10 := HF4.out.blk.cell (i := 10) (v := .slice none 0 0) rfl
      have f10 := HF4.out.blk.frozen 10
      have d11 := HF4.out.blk.cell (i := 11) (v := .slice none 0 0) rfl
      have f11 := HF4.out.blk.frozen 11
      have d12 := HF4.out.blk.cell (i := 12) (v := .bool false) rfl
      have f12 := HF4.out.blk.frozen 12
      have d13 := HF4.out.blk.cell (i := 13) (v := .int .i64 0) rfl
      have f13 := HF4.out.blk.frozen 13
      unfold msgV
      obtain ⟨A6, hA6⟩ : ∃ A, w2.heap.size = A := ⟨_, rfl⟩
      rw [hA6] at HK64 hA0 hAB ⊢
      clear hA6
      cases hcb : cBody b with
      | none =>
        obtain rfl : s4 = none := HN.out hcb
        have HE : Hid (cDec b = (Ms.hdOf b, true, false)) := Lib.hid (by rw [HEE.out, hcb])
        obtain ⟨q4, hB4, _⟩ := RdS.bad HF4.out.rd
        have ee4 := hB4.cell (i := 2) (v := .int .i64 2) rfl
        clear hcb hB4
        go_wp2_with fail
        clear ee4 d0 f0 d1 f1 d2 f2 d3 f3 d4 f4 d5 f5 d6 f6 d7 f7 d8 f8 d9 f9 d10 f10 d11 f11 d12 f12 d13 f13
        have HK65 : Hid (Block _ A6 [.int .i64 (Ms.hdOf b).id, .bool (Ms.hdOf b).resp, .int .i64 (Ms.hdOf b).opc, .bool (Ms.hdOf b).auth, .bool (Ms.hdOf b).cut, .bool (Ms.hdOf b).des, .bool (Ms.hdOf b).avl, .int .i64 (Ms.hdOf b).code, .slice none 0 0, .slice none 0 0, .slice none 0 0, .slice none 0 0, .bool false, .int .i64 0].toArray 27) := Lib.hid (show Block _ A6 _ _ from (F5.out.oth A6 hA0).trans HK64.out)
        generalize World.setCell _ _ _ = W5 at F5 HK65 HOTH ⊢
        obtain ⟨q3, hB3, _⟩ := RdS.bad F5.out.m.rd
        have ee2 := hB3.cell (i := 2) (v := .int .i64 2) rfl
        have hRB : R0 ≠ B := F5.out.m.ne
        have hBR : B ≠ R0 := fun h => hRB h.symm
        clear hB3
        have c0 := HK65.out.cell (i := 0) (v := .int .i64 (Ms.hdOf b).id) rfl
        have c1 := HK65.out.cell (i := 1) (v := .bool (Ms.hdOf b).resp) rfl
        have c2 := HK65.out.cell (i := 2) (v := .int .i64 (Ms.hdOf b).opc) rfl
        have c3 := HK65.out.cell (i := 3) (v := .bool (Ms.hdOf b).auth) rfl
        have c4 := HK65.out.cell (i := 4) (v := .bool (Ms.hdOf b).cut) rfl
        have c5 := HK65.out.cell (i := 5) (v := .bool (Ms.hdOf b).des) rfl
        have c6 := HK65.out.cell (i := 6) (v := .bool (Ms.hdOf b).avl) rfl
        have c7 := HK65.out.cell (i := 7) (v := .int .i64 (Ms.hdOf b).code) rfl
        have c8 := HK65.out.cell (i := 8) (v := .slice none 0 0) rfl
        have c9 := HK65.out.cell (i := 9) (v := .slice none 0 0) rfl
        have c10 := HK65.out.cell (i := 10) (v := .slice none 0 0) rfl
        have c11 := HK65.out.cell (i := 11) (v := .slice none 0 0) rfl
        have c12 := HK65.out.cell (i := 12) (v := .bool false) rfl
        have c13 := HK65.out.cell (i := 13) (v := .int .i64 0) rfl
        have d0 := F5.out.m.blk.cell (i := 0) (v := .int .i64 m.id) rfl
        have f0 := F5.out.m.blk.frozen 0
        have d1 := F5.out.m.blk.cell (i := 1) (v := .bool m.resp) rfl
        have f1 := F5.out.m.blk.frozen 1
        have d2 := F5.out.m.blk.cell (i := 2) (v := .int .i64 m.opc) rfl
        have f2 := F5.out.m.blk.frozen 2
        have d3 := F5.out.m.blk.cell (i := 3) (v := .bool m.auth) rfl
        have f3 := F5.out.m.blk.frozen 3
        have d4 := F5.out.m.blk.cell (i := 4) (v := .bool m.cut) rfl
        have f4 := F5.out.m.blk.frozen 4
        have d5 := F5.out.m.blk.cell (i := 5) (v := .bool m.des) rfl
        have f5 := F5.out.m.blk.frozen 5
        have d6 := F5.out.m.blk.cell (i := 6) (v := .bool m.avl) rfl
        have f6 := F5.out.m.blk.frozen 6
        have d7 := F5.out.m.blk.cell (i := 7) (v := .int .i64 m.code) rfl
        have f7 := F5.out.m.blk.frozen 7
        have d8 := F5.out.m.blk.cell (i := 8) (v := .slice aq m.qs.length cq) rfl
        have f8 := F5.out.m.blk.frozen 8
        have d9 := F5.out.m.blk.cell (i := 9) (v := .slice aa m.an.length ca) rfl
        have f9 := F5.out.m.blk.frozen 9
        have d10 := F5.out.m.blk.cell (i := 10) (v := .slice an m.ns.length cn) rfl
        have f10 := F5.out.m.blk.frozen 10
        have d11 := F5.out.m.blk.cell (i := 11) (v := .slice ad m.ad.length cd) rfl
        have f11 := F5.out.m.blk.frozen 11
        have d12 := F5.out.m.blk.cell (i := 12) (v := .bool m.edns) rfl
        have f12 := F5.out.m.blk.frozen 12
        have d13 := F5.out.m.blk.cell (i := 13) (v := .int .i64 m.size) rfl
        have f13 := F5.out.m.blk.frozen 13
        go_region
        all_goals
          have F9 := ((((((((((((((F5.out.set 0 (.int .i64 (Ms.hdOf b).id) rfl rfl).set 1 (.bool (Ms.hdOf b).resp) rfl rfl).set 2 (.int .i64 (Ms.hdOf b).opc) rfl rfl).set 3 (.bool (Ms.hdOf b).auth) rfl rfl).set 4 (.bool (Ms.hdOf b).cut) rfl rfl).set 5 (.bool (Ms.hdOf b).des) rfl rfl).set 6 (.bool (Ms.hdOf b).avl) rfl rfl).set 7 (.int .i64 (Ms.hdOf b).code) rfl rfl).set 8 (.slice none 0 0) rfl rfl).set 9 (.slice none 0 0) rfl rfl).set 10 (.slice none 0 0) rfl rfl).set 11 (.slice none 0 0) rfl rfl).set 12 (.bool false) rfl rfl).set 13 (.int .i64 0) rfl rfl)
          simp only [List.set_cons_zero, List.set_cons_succ] at F9
          clear c0 d0 f0 c1 d1 f1 c2 d2 f2 c3 d3 f3 c4 d4 f4 c5 d5 f5 c6 d6 f6 c7 d7 f7 c8 d8 f8 c9 d9 f9 c10 d10 f10 c11 d11 f11 c12 d12 f12 c13 d13 f13 ee2
          have F10 := F9.drew
          clear F9
          generalize World.drew _ = W9 at F10 ⊢
          have a0 := F10.m.blk.cell (i := 0) (v := .int .i64 (Ms.hdOf b).id) rfl
          have a1 := F10.m.blk.cell (i := 1) (v := .bool (Ms.hdOf b).resp) rfl
          have a2 := F10.m.blk.cell (i := 2) (v := .int .i64 (Ms.hdOf b).opc) rfl
          have a3 := F10.m.blk.cell (i := 3) (v := .bool (Ms.hdOf b).auth) rfl
          have a4 := F10.m.blk.cell (i := 4) (v := .bool (Ms.hdOf b).cut) rfl
          have a5 := F10.m.blk.cell (i := 5) (v := .bool (Ms.hdOf b).des) rfl
          have a6 := F10.m.blk.cell (i := 6) (v := .bool (Ms.hdOf b).avl) rfl
          have a7 := F10.m.blk.cell (i := 7) (v := .int .i64 (Ms.hdOf b).code) rfl
          have a8 := F10.m.blk.cell (i := 8) (v := .slice none 0 0) rfl
          have a9 := F10.m.blk.cell (i := 9) (v := .slice none 0 0) rfl
          have a10 := F10.m.blk.cell (i := 10) (v := .slice none 0 0) rfl
          have a11 := F10.m.blk.cell (i := 11) (v := .slice none 0 0) rfl
          have a12 := F10.m.blk.cell (i := 12) (v := .bool false) rfl
          have a13 := F10.m.blk.cell (i := 13) (v := .int .i64 0) rfl
          go_wp2_with fail
          rw [HE.out]
          exact bodyPost_ret (v := .tuple #[msgV (Ms.hdOf b) (.slice none 0 0) (.slice none 0 0) (.slice none 0 0) (.slice none 0 0), .bool true, .int .i64 2]) (by simp [results, Try.results12, go_sem, a0, a1, a2, a3, a4, a5, a6, a7, a8, a9, a10, a11, a12, a13, msgV]; exact ⟨rfl, rfl⟩) rfl ⟨_, _, _, _, rfl, lists_nil rfl rfl rfl rfl _, turn_own F10.m.tn (by have := HBlt.out; have := HR0.out; omega)⟩
      | some y =>
        obtain ⟨rfl, hs4⟩ := HY.out y hcb
        obtain ⟨q4, rfl⟩ : ∃ q, s4 = some q := Option.ne_none_iff_exists'.1 hs4
        have HE : Hid (cDec b = (m, true, true)) := Lib.hid (by rw [HEE.out, hcb])
        have ee4 := HF4.out.rd.here.cell (i := 2) (v := .int .i64 0) rfl
        clear hcb hs4
        go_wp2_with fail
        have F6 := ((((((((((((((F5.out.set 0 (.int .i64 m.id) rfl rfl).set 1 (.bool m.resp) rfl rfl).set 2 (.int .i64 m.opc) rfl rfl).set 3 (.bool m.auth) rfl rfl).set 4 (.bool m.cut) rfl rfl).set 5 (.bool m.des) rfl rfl).set 6 (.bool m.avl) rfl rfl).set 7 (.int .i64 m.code) rfl rfl).set 8 (.slice aq m.qs.length cq) rfl rfl).set 9 (.slice aa m.an.length ca) rfl rfl).set 10 (.slice an m.ns.length cn) rfl rfl).set 11 (.slice ad m.ad.length cd) rfl rfl).set 12 (.bool m.edns) rfl rfl).set 13 (.int .i64 m.size) rfl rfl)
        simp only [List.set_cons_zero, List.set_cons_succ] at F6
        clear ee4 d0 f0 d1 f1 d2 f2 d3 f3 d4 f4 d5 f5 d6 f6 d7 f7 d8 f8 d9 f9 d10 f10 d11 f11 d12 f12 d13 f13
        generalize World.setCell _ _ _ = W9 at F6 ⊢
        have a0 := F6.m.blk.cell (i := 0) (v := .int .i64 m.id) rfl
        have a1 := F6.m.blk.cell (i := 1) (v := .bool m.resp) rfl
        have a2 := F6.m.blk.cell (i := 2) (v := .int .i64 m.opc) rfl
        have a3 := F6.m.blk.cell (i := 3) (v := .bool m.auth) rfl
        have a4 := F6.m.blk.cell (i := 4) (v := .bool m.cut) rfl
        have a5 := F6.m.blk.cell (i := 5) (v := .bool m.des) rfl
        have a6 := F6.m.blk.cell (i := 6) (v := .bool m.avl) rfl
        have a7 := F6.m.blk.cell (i := 7) (v := .int .i64 m.code) rfl
        have a8 := F6.m.blk.cell (i := 8) (v := .slice aq m.qs.length cq) rfl
        have a9 := F6.m.blk.cell (i := 9) (v := .slice aa m.an.length ca) rfl
        have a10 := F6.m.blk.cell (i := 10) (v := .slice an m.ns.length cn) rfl
        have a11 := F6.m.blk.cell (i := 11) (v := .slice ad m.ad.length cd) rfl
        have a12 := F6.m.blk.cell (i := 12) (v := .bool m.edns) rfl
        have a13 := F6.m.blk.cell (i := 13) (v := .int .i64 m.size) rfl
        rw [HE.out]
        exact bodyPost_ret (v := .tuple #[msgV m (.slice aq m.qs.length cq) (.slice aa m.an.length ca) (.slice an m.ns.length cn) (.slice ad m.ad.length cd), .bool true, .int .i64 0]) (by simp [results, Try.results12, go_sem, a0, a1, a2, a3, a4, a5, a6, a7, a8, a9, a10, a11, a12, a13, msgV]) rfl ⟨_, _, _, _, rfl, HL5.out _ F6.oth, turn_own F6.m.tn (by have := HBlt.out; have := HR0.out; omega)⟩
end Go.Proofs.Ytfmghbmbahembaa
