/- whatever is set and dropped, each act tells, and what is due by then, is as the document says
   Conditions: those of the row, none beside. -/
import Derived.Deep.RegionLaw
import Derived.LoopTactic
import Derived.BigQuiet
import Derived.Deep.QuietTactic
import Derived.Deep.CutRange
import Derived.Deep.CutBlock
import Derived.Deep.RegionWith
import Derived.Test.YtjaejdenboggpaaJB23
import Derived.Test.YtjaejdenboggpaaJB26
import Derived.Test.YtjaejdenboggpaaJB24
import Derived.Test.YtjaejdenboggpaaJB25
import Derived.Test.YtjaejdenboggpaaJB27
/- The document's own LRU: Touch of one who is on probation. -/
set_option maxRecDepth 100000
namespace Go.Proofs.Ytjaejdenboggpaa
open Go Go.RowKit Go.Shelf
attribute [local go_sem] Oper.semAt_some
section
variable {x : Nat → Prop} {m : Nat} {most : Int} {P Q : List Int} {w w' : World}
set_option maxHeartbeats 16000000 in
theorem mltouch_P (h : ML x m most P Q w) (k : Int) (hl : P.length + Q.length < 90000) (h1 : k ∈ P) (h2 : k ∉ Q) (hm : ¬ x m) {PP QQ : List Int} (hPQ : touch (max most 0) P Q k = (PP, QQ)) :
    Calls Try.prog 15 #[.pointer (some ⟨m, 0, none⟩), .int .i64 k] w fun e w' => e = .returned (.bool true) ∧ Trn (fun b => b = m) w w' ∧ ML (fun b => w.heap.size ≤ b) m most PP QQ w' := by
  have HPQ := Lib.hid (show (if ((Q.length + 1 : Nat) : Int) ≤ max most 0 then (P.erase k, Q ++ [k]) else (P.erase k ++ (Q ++ [k]).take 1, (Q ++ [k]).drop 1)) = (PP, QQ) by rw [← hPQ]; unfold touch; rw [if_neg h2, if_pos h1])
  clear hPQ
  obtain ⟨v, u, hBk, hp, hq⟩ := h.ex
  have hml := hBk.lt
  have c1 := hBk.cell (i := 1) rfl
  have c2 := hBk.cell (i := 2) rfl
  have p1 := place_any hp k (by omega)
  have p2 := place_any hq k (by omega)
  rw [plc_none h2] at p2
  obtain ⟨j, hj, e1, e2⟩ := plc_ge h1
  rw [e1] at p1
  obtain ⟨R, hR⟩ : ∃ R, P.take j ++ P.drop (j + 1) = R := ⟨_, rfl⟩
  rw [e2, hR] at HPQ
  have hRl : R.length ≤ P.length := by rw [← hR]; simp; omega
  have d0 : decide ((j : Int) < 0) = false := by simp
  have ho := out_any hp hj (by omega)
  rw [hR] at ho
  clear e1 e2 hR
  go_enter Try.func15, Try.ntmps15
  go_wp2_with fail
  refine p2.mono ?_
  rintro e w1 ⟨rfl, rfl⟩
  go_wp2_with fail
  refine p1.mono ?_
  rintro e w1 ⟨rfl, rfl⟩
  go_wp2_with fail
  refine ho.mono ?_
  rintro e w2 ⟨v2, rfl, o2, b2⟩
  obtain ⟨a2, cp2, e3, _⟩ := ownK_form o2
  subst e3
  have k1 := hBk.kept (b2.block _ hml)
  have f1 := k1.frozen 1
  have g1 := k1.cell (i := 1) rfl
  -- the world behind the first store
  obtain ⟨W3, hW3⟩ : ∃ W3, w2.setCell ⟨m, 1, none⟩ (.slice a2 R.length cp2) = W3 := ⟨_, rfl⟩
  have k3 : Blk W3 m [.int .i64 most, .slice a2 R.length cp2, u] 29 := by rw [← hW3]; exact k1.set 1 _
  have o3 : OwnK encZ 1 3 w.heap.size (.slice a2 R.length cp2) R W3 := by
    rw [← hW3]
    exact own_kept o2 fun g e => Below.heap_setCell _ ⟨m, 1, none⟩ _ g (fun e2 => by have h9 := own_low o2 e; have e3 : g = m := e2; omega)
  have q3 : RK encZ x u Q W3 := by
    rw [← hW3]
    exact (hq.below b2).same fun b hb => Below.heap_setCell _ ⟨m, 1, none⟩ _ b (fun e2 => hm (show x m from (show b = m from e2) ▸ hb))
  have t3 : Trn (fun b => b = m) w W3 := by rw [← hW3]; exact (Trn.of_below b2).trans (Trn.set (f := grow (fun b => b = m) w w2) k1 (.inl rfl) 1 _)
  have hz3 := t3.size
  have K3 := Lib.hid k3
  have O3 := Lib.hid o3
  have Q3 := Lib.hid q3
  have T3 := Lib.hid t3
  have hb0 : Below W3.heap.size W3 (W3.alloc (.cells #[] 3)) := (Below.refl _ _).alloc (Nat.le_refl _) _
  have z2 := (k3.kept (hb0.block _ k3.lt)).cell (i := 2) rfl
  have o0 := own_lit0z (n := W3.heap.size) W3 (Nat.le_refl _)
  have r0 := q3.below hb0
  clear hBk hp hq c1 c2 ho o2 k1 h k3 o3 q3 t3
  by_cases hroom : ((Q.length + 1 : Nat) : Int) ≤ max most 0
  all_goals go_wp2_with (first
    | (at_builtin; (
       refine wpList_apR encZ_len (by omega) encZ_one z_under infoInt rfl (by omega) rfl _ _ rfl W3.heap.size _ [] rfl o0 u Q rfl r0 (by simp; omega) hb0.size ?_
       intro v4 w4 ho4 hg4 _
       rw [List.nil_append] at ho4
       have hb4 := hb0.trans (below_ownK o0 hg4 hb0.size)
       clear o0 r0 hg4 hb0 z2))
    | (at_builtin; (
       refine wpList_apR encZ_len (by omega) encZ_one z_under infoInt rfl (by omega) rfl _ _ rfl W3.heap.size v4 Q rfl (ownK_alloc ho4 _) (.slice (some ⟨w4.heap.size, 0, none⟩) 1 1) [k] rfl (RK.oneN (enc := encZ) k 3 _ _ (by simp) _ rfl) (by simp; omega) (Nat.le_trans hb4.size (by simp)) ?_
       intro v5 w5 ho5 hg5 _
       have hb5 := (hb4.alloc hb4.size _).trans (below_ownK (ownK_alloc ho4 _) hg5 (Nat.le_trans hb4.size (by simp)))
       have cl := K3.out.kept (hb5.block _ K3.out.lt)
       have l2 := cl.cell (i := 2) rfl
       have kf := cl.frozen
       obtain ⟨a5, c5, e5, _⟩ := ownK_form ho5
       rw [show (Q ++ [k]).length = Q.length + 1 by simp] at e5
       subst e5
       clear ho4 hb4))
    | fail)
  all_goals
    have m3 : Blk (w5.setCell ⟨m, 2, none⟩ (.slice a5 (Q.length + 1) c5)) m [.int .i64 most, .slice a2 R.length cp2, .slice a5 (Q.length + 1) c5] 29 := cl.set 2 _
    have o6 : OwnK encZ 1 3 w.heap.size (.slice a2 R.length cp2) R (w5.setCell ⟨m, 2, none⟩ (.slice a5 (Q.length + 1) c5)) := own_kept O3.out fun g e => by
      obtain ⟨c, hc⟩ := own_blk' O3.out e
      have h9 := own_low O3.out e
      exact (Below.heap_setCell _ ⟨m, 2, none⟩ _ g (fun e2 => by have e3 : g = m := e2; omega)).trans (hb5.block g hc.lt)
    have o7 : OwnK encZ 1 3 W3.heap.size (.slice a5 (Q.length + 1) c5) (Q ++ [k]) (w5.setCell ⟨m, 2, none⟩ (.slice a5 (Q.length + 1) c5)) := own_kept ho5 fun g e => Below.heap_setCell _ ⟨m, 2, none⟩ _ g (fun e2 => by have h9 := own_low ho5 e; have e3 : g = m := e2; omega)
    have l3 : ∀ g, (Value.slice a2 R.length cp2).ownBlock = some g → g < W3.heap.size := fun g e => by
      obtain ⟨c, hc⟩ := own_blk' O3.out e
      exact hc.lt
    have L3 := Lib.hid l3
    clear l3
    have t7 : Trn (fun b => b = m) w (w5.setCell ⟨m, 2, none⟩ (.slice a5 (Q.length + 1) c5)) := T3.out.trans ((Trn.of_below hb5).trans (Trn.set (f := grow (grow (fun b => b = m) w W3) W3 w5) cl (.inl (.inl rfl)) 2 _))
    clear cl l2 kf ho5 hg5 hb5 K3 O3 Q3 T3
    generalize w5.setCell ⟨m, 2, none⟩ (.slice a5 (Q.length + 1) c5) = W7 at *
    have n2 := m3.cell (i := 2) rfl
    have n1 := m3.cell (i := 1) rfl
    have n0 := m3.cell (i := 0) rfl
    have f1 := m3.frozen 1
    have f2 := m3.frozen 2
    have M3 := Lib.hid m3
    have O6 := Lib.hid o6
    have O7 := Lib.hid o7
    have T7 := Lib.hid t7
    clear m3 o6 o7 t7
  · have d9 : decide ((Q.length : Int) + 1 > max most 0) = false := by rw [decide_eq_false_iff_not]; omega
    go_wp2_with fail
    go_region
    have M4 := Lib.hid (M3.out.kept (W' := W7.drew) rfl)
    have O64 := Lib.hid (own_kept (W' := W7.drew) O6.out fun _ _ => rfl)
    have O74 := Lib.hid (own_kept (W' := W7.drew) O7.out fun _ _ => rfl)
    have T4 := Lib.hid (T7.out.trans (Trn.drew (f := grow (fun b => b = m) w W7) W7 1))
    have hP2 := HPQ.out
    rw [if_pos hroom] at hP2
    cases hP2
    go_wp2
    go_ret
    exact ⟨rfl, T4.out, ⟨_, _, M4.out, RK.own O64.out (fun b e => own_low O64.out e), RK.own O74.out (fun b e => Nat.le_trans hz3 (own_low O74.out e))⟩⟩
  · have d9 : decide ((Q.length : Int) + 1 > max most 0) = true := by rw [decide_eq_true_iff]; omega
    have hP2 := HPQ.out
    rw [if_neg (by omega)] at hP2
    have HP2 := Lib.hid hP2
    clear hP2
    go_wp2_with fail
    go_region
    obtain ⟨y, Y, hY⟩ : ∃ y Y, Q ++ [k] = y :: Y := by
      cases Q with
      | nil => exact ⟨k, [], rfl⟩
      | cons y Y => exact ⟨y, Y ++ [k], rfl⟩
    have hYl : Y.length = Q.length := by have := congrArg List.length hY; simpa using this.symm
    have O7' := O7.out
    rw [hY] at O7'
    obtain ⟨g5, rfl⟩ : ∃ g5, a5 = some ⟨g5, 0, none⟩ := by
      obtain ⟨a, c, e, f⟩ := ownK_form O7'
      obtain ⟨g, rfl⟩ := f (by simp)
      injection e with e1
      exact ⟨g, e1⟩
    have y0 : W7.cell? ⟨g5, 0, none⟩ = some (.int .i64 y) := by
      obtain ⟨b, off, e, c⟩ := rk_cell (n := Q.length + 1) (cap := c5) (ao := some ⟨g5, 0, none⟩) (RK.own O7' (x := fun _ => True) (fun _ _ => trivial)) (i := 0) (by simp)
      cases e
      exact c
    have HYL := Lib.hid hYl
    have O7Y := Lib.hid O7'
    have hP2 := HP2.out
    rw [hY] at hP2
    have hP3 : R ++ [y] = PP ∧ Y = QQ := Prod.mk.inj hP2
    have HP3 := Lib.hid hP3
    have h0Q : 0 < Q.length + 1 := by omega
    have hm7 := M3.out.lt
    have hg57 : g5 < W7.heap.size := by obtain ⟨c, hc⟩ := own_blk O7Y.out; exact hc.lt
    have hRb : R.length ≤ 90000 := by omega
    have hz6 : w.heap.size ≤ W7.heap.size := T7.out.size
    clear hY hYl O7' O7 HPQ hP2 hP3
    go_wp2_with fail
    all_goals go_region_law (
      refine step_apRK encZ_len (by omega) encZ_one z_under infoInt rfl (by omega) (by rfl) (.tmp 70) (.tmp 77) (by rfl) w.heap.size (.slice a2 R.length cp2) R (by rfl) (own_kept (ownK_alloc O6.out (.cells #[.int .i64 y] 3)) (fun _ _ => rfl)) (.slice (some ⟨W7.heap.size, 0, none⟩) 1 1) [y] (by rfl) ((RK.oneN (enc := encZ) y 3 W7 _ rfl #[.int .i64 y] rfl).same (fun _ _ => rfl)) (by simp; omega) (by simp; omega) ?_
      intro v8 w8 ho8 hg8 hv8
      obtain ⟨a8, c8, e8, _⟩ := ownK_form ho8
      rw [show (R ++ [y]).length = R.length + 1 by simp] at e8
      subst e8
      have kb : ∀ b, b < W7.heap.size → (Value.slice a2 R.length cp2).ownBlock ≠ some b → w8.heap[b]? = W7.heap[b]? := fun b hb hn => (hg8.block b (by simp; omega) (fun e => hn e.symm)).trans (Below.heap_alloc W7 (.cells #[.int .i64 y] 3) b hb)
      have M8 := M3.out.kept (kb m M3.out.lt (fun e => by have := own_low O6.out e; omega))
      have n8 := M8.cell (i := 1) rfl
      have f8 := M8.frozen 1
      have HM8 := Lib.hid M8
      have HO8 := Lib.hid ho8
      have HV8 := Lib.hid (own_kept O7Y.out fun b e => by
        obtain ⟨c, hc⟩ := own_blk' O7Y.out e
        exact kb b hc.lt fun e2 => by have h1 := L3.out b e2; have h2 := own_low O7Y.out e; omega)
      have HT8 := Lib.hid (T7.out.trans (show Trn (grow (fun b => b = m) w W7) W7 w8 from ⟨hg8.os, hg8.tape, hg8.output, Nat.le_trans (by simp) hg8.size, fun b hb hn => kb b hb (fun e => hn (.inr ⟨own_low O6.out e, hb⟩)), fun b o hb hk => (kb b (Array.getElem?_eq_some_iff.1 hb).1 (fun e => by
        obtain ⟨c, hc⟩ := own_blk' O6.out e
        rw [show W7.heap[b]? = _ from hc] at hb
        cases hb
        cases hk)).trans hb⟩))
      clear M8 kb ho8 hg8 hv8)
    all_goals
      have M9 := HM8.out.set 1 (.slice a8 (R.length + 1) c8)
      have O9 : OwnK encZ 1 3 w.heap.size (.slice a8 (R.length + 1) c8) (R ++ [y]) (w8.setCell ⟨m, 1, none⟩ (.slice a8 (R.length + 1) c8)) := own_kept HO8.out fun g e => Below.heap_setCell _ ⟨m, 1, none⟩ _ g (fun e2 => by have h9 := own_low HO8.out e; have e3 : g = m := e2; omega)
      have V9 : OwnK encZ 1 3 W3.heap.size (.slice (some ⟨g5, 0, none⟩) (Q.length + 1) c5) (y :: Y) (w8.setCell ⟨m, 1, none⟩ (.slice a8 (R.length + 1) c8)) := own_kept HV8.out fun g e => Below.heap_setCell _ ⟨m, 1, none⟩ _ g (fun e2 => by have h9 := own_low HV8.out e; have e3 : g = m := e2; omega)
      have T9 := HT8.out.trans (Trn.set (f := grow (fun b => b = m) w w8) HM8.out (.inl rfl) 1 (.slice a8 (R.length + 1) c8))
      have hz9 : w.heap.size ≤ (w8.setCell ⟨m, 1, none⟩ (.slice a8 (R.length + 1) c8)).heap.size := T9.size
      clear HM8 HO8 HV8 HT8 n8 f8 T7 O6 O7Y M3 y0 n0 n1 n2
      simp only [List.set_cons_succ, List.set_cons_zero] at M9
      generalize w8.setCell ⟨m, 1, none⟩ (.slice a8 (R.length + 1) c8) = W9 at *
      obtain ⟨vd, hd1, hd2⟩ := run_dropK (P := Try.prog) encZ_len z_under infoInt (RK.own V9 (x := fun b => W3.heap.size ≤ b) (fun b e => own_low V9 e)) (m := 1) (by simp)
      simp only [List.drop_succ_cons, List.drop_zero] at hd2
      have hd1 : ∀ W' : World, (Instr.slice 27 (.slice (some ⟨g5, 0, none⟩) (Q.length + 1) c5) (some (.int .i64 1)) none none).run Try.prog W' = .ok vd W' := hd1
      have hb0 : Below W9.heap.size W9 (W9.alloc (.cells #[] 3)) := (Below.refl _ _).alloc (Nat.le_refl _) _
      have z2 := (M9.kept (hb0.block _ M9.lt)).cell (i := 2) rfl
      have o0 := own_lit0z (n := W9.heap.size) W9 (Nat.le_refl _)
      have r0 := hd2.below hb0
      have HYQ := HYL.out
      have M9H := Lib.hid M9
      have O9H := Lib.hid O9
      have T9H := Lib.hid T9
      clear M9 O9 T9 V9 hd2
      go_wp2_with (at_builtin; (
        refine wpList_apR encZ_len (by omega) encZ_one z_under infoInt rfl (by omega) rfl _ _ rfl W9.heap.size _ [] rfl o0 vd Y rfl r0 (by simp; omega) hb0.size ?_
        intro v12 w12 ho12 hg12 _
        rw [List.nil_append] at ho12
        have hb12 := hb0.trans (below_ownK o0 hg12 hb0.size)
        have cl := M9H.out.kept (hb12.block _ M9H.out.lt)
        have l2 := cl.cell (i := 2) rfl
        have kf := cl.frozen 2
        obtain ⟨a12, c12, e12, _⟩ := ownK_form ho12
        subst e12
        have CL := Lib.hid cl
        have HO12 := Lib.hid ho12
        have HB12 := Lib.hid hb12
        clear cl ho12 hb12 hg12 o0 r0 hb0 z2 hd1 HYQ))
      go_ret
      have M13 := CL.out.set 2 (.slice a12 Y.length c12)
      simp only [List.set_cons_succ, List.set_cons_zero] at M13
      have O13 : OwnK encZ 1 3 W9.heap.size (.slice a12 Y.length c12) Y (w12.setCell ⟨m, 2, none⟩ (.slice a12 Y.length c12)) := own_kept HO12.out fun g e => Below.heap_setCell _ ⟨m, 2, none⟩ _ g (fun e2 => by have h9 := own_low HO12.out e; have e3 : g = m := e2; have := M9H.out.lt; omega)
      have P13 : OwnK encZ 1 3 w.heap.size (.slice a8 (R.length + 1) c8) (R ++ [y]) (w12.setCell ⟨m, 2, none⟩ (.slice a12 Y.length c12)) := own_kept O9H.out fun g e => by
        obtain ⟨c, hc⟩ := own_blk' O9H.out e
        have h9 := own_low O9H.out e
        exact (Below.heap_setCell _ ⟨m, 2, none⟩ _ g (fun e2 => by have e3 : g = m := e2; omega)).trans (HB12.out.block g hc.lt)
      have T13 := T9H.out.trans ((Trn.of_below (f := grow (fun b => b = m) w W9) HB12.out).trans (Trn.set (f := grow (grow (fun b => b = m) w W9) W9 w12) CL.out (.inl (.inl rfl)) 2 (.slice a12 Y.length c12)))
      rw [HP3.out.1] at P13
      rw [HP3.out.2] at O13 M13
      have hYQ := HP3.out.2
      subst hYQ
      exact ⟨rfl, T13, ⟨_, _, M13, RK.own P13 (fun b e => own_low P13 e), RK.own O13 (fun b e => Nat.le_trans hz9 (own_low O13 e))⟩⟩
end
end Go.Proofs.Ytjaejdenboggpaa

/- The document's own LRU as a part beside another: each call in one line. -/
set_option maxRecDepth 100000
namespace Go.Proofs.Ytjaejdenboggpaa
open Go Go.RowKit Go.Shelf Go.Maps
theorem RK.trim {α : Type} {enc : α → List Value} {x : Nat → Prop} {v : Value} {l : List α} {W : World} (h : RK enc x v l W) : RK enc (fun b => x b ∧ b < W.heap.size) v l W := by
  obtain ⟨ao, cap, e, hc, hf⟩ := h.form
  exact ⟨ao, cap, e, hc, fun j u hu => by
    obtain ⟨b, off, e, hx, c⟩ := hf j u hu
    exact ⟨b, off, e, ⟨hx, cell_lt c⟩, c⟩⟩
/-- The document's own LRU in the box m, whose blocks are s. -/
def MLp (m : Nat) (most : Int) (P Q : List Int) (s : Nat → Prop) (W : World) : Prop := (∃ y, ML y m most P Q W ∧ ¬ y m ∧ ∀ k, y k → s k) ∧ s m ∧ ∀ k, s k → k < W.heap.size
theorem ML.trim {y : Nat → Prop} {m : Nat} {most : Int} {P Q : List Int} {W : World} (h : ML y m most P Q W) : ML (fun b => y b ∧ b < W.heap.size) m most P Q W := by
  obtain ⟨v, u, h1, h2, h3⟩ := h.ex
  exact ⟨v, u, h1, h2.trim, h3.trim⟩
theorem ML.mono {y z : Nat → Prop} {m : Nat} {most : Int} {P Q : List Int} {W : World} (h : ML y m most P Q W) (hz : ∀ b, y b → z b) : ML z m most P Q W := by
  obtain ⟨v, u, h1, h2, h3⟩ := h.ex
  exact ⟨v, u, h1, h2.mono hz, h3.mono hz⟩
theorem partM {m : Nat} {most : Int} {P Q : List Int} : Part (MLp m most P Q) := by
  refine ⟨fun {s W W'} h hk hs => ?_, fun h => h.2.2⟩
  obtain ⟨⟨y, hm, hy, hys⟩, h2, h3⟩ := h
  obtain ⟨v, u, h4, h5, h6⟩ := hm.ex
  exact ⟨⟨y, ⟨v, u, h4.kept (hk m h2), h5.same fun b hb => hk b (hys b hb), h6.same fun b hb => hk b (hys b hb)⟩, hy, hys⟩, h2, fun k e => Nat.lt_of_lt_of_le (h3 k e) hs⟩
section
variable {B : (Nat → Prop) → World → Prop} {w0 W : World} {x : Nat → Prop} {m : Nat} {most : Int} {P Q : List Int}
/-- What a call of it leaves. -/
theorem MLp.step {s y : Nat → Prop} {P' Q' : List Int} {W' : World} (h2 : s m) (h3 : ∀ k, s k → k < W.heap.size) (hy : ¬ y m) (hys : ∀ k, y k → s k) (hl : m < W.heap.size) (t : Trn (fun b => b = m) W W') (hm : ML (fun b => y b ∨ W.heap.size ≤ b) m most P' Q' W') : Trn s W W' ∧ MLp m most P' Q' (grow s W W') W' := by
  refine ⟨t.mono fun b _ e => e ▸ h2, ⟨_, hm.trim, fun e => e.1.elim hy (fun e => by omega), fun k e => e.1.elim (fun e2 => .inl (hys k e2)) (fun e2 => .inr ⟨e2, e.2⟩)⟩, .inl h2, fun k e => e.elim (fun e => Nat.lt_of_lt_of_le (h3 k e) t.size) (fun e => e.2)⟩
theorem d_new (h : Two Nobody B w0 x W) (hB : Part B) (most : Int) : Two (MLp W.heap.size most [] []) B w0 x (W.alloc (.cells #[.int .i64 most, .slice none 0 0, .slice none 0 0] 29)) :=
  h.made hB ((Below.refl _ _).alloc (Nat.le_refl _) _) ⟨⟨fun _ => False, ⟨_, _, Blk.new W [.int .i64 most, .slice none 0 0, .slice none 0 0] 29, RK.nil _ _ _, RK.nil _ _ _⟩, fun e => e, fun k e => e.elim⟩, ⟨Nat.le_refl _, by simp⟩, fun k e => e.2⟩
theorem d_add (h : Two (MLp m most P Q) B w0 x W) (hB : Part B) (k : Int) (hl : P.length + Q.length < 90000) : Calls Try.prog 13 #[.pointer (some ⟨m, 0, none⟩), .int .i64 k] W fun e W' => e = .returned (.tuple #[]) ∧ Two (MLp m most (addP P Q k) Q) B w0 x W' ∧ Kx x W W' := by
  obtain ⟨s, a, f⟩ := h.left hB
  obtain ⟨⟨y, hm, hy, hys⟩, h2, h3⟩ := id a
  by_cases hk : k ∈ P ++ Q
  · refine (mladd_has hm k hl hk).mono ?_
    rintro e W' ⟨rfl, rfl⟩
    rw [addP_old hk]
    exact ⟨rfl, f (Trn.refl _ _) a (fun k e => .inl e)⟩
  · refine (mladd_new hm k hl hk hy).mono ?_
    rintro e W' ⟨rfl, h5, t⟩
    rw [addP_new hk]
    obtain ⟨t2, h6⟩ := MLp.step h2 h3 hy hys (h3 m h2) t h5
    exact ⟨rfl, f t2 h6 (fun k e => e)⟩
theorem touch_none {most : Int} {k : Int} (h : k ∉ P ++ Q) : touch most P Q k = (P, Q) := by
  unfold touch
  rw [if_neg (fun e => h (List.mem_append_right _ e)), if_neg (fun e => h (List.mem_append_left _ e))]
theorem d_touch (h : Two (MLp m most P Q) B w0 x W) (hB : Part B) (k : Int) (hl : P.length + Q.length < 90000) : Calls Try.prog 15 #[.pointer (some ⟨m, 0, none⟩), .int .i64 k] W fun e W' => e = .returned (.bool (decide (k ∈ P ++ Q))) ∧ Two (MLp m most (touch (max most 0) P Q k).1 (touch (max most 0) P Q k).2) B w0 x W' ∧ Kx x W W' := by
  obtain ⟨s, a, f⟩ := h.left hB
  obtain ⟨⟨y, hm, hy, hys⟩, h2, h3⟩ := id a
  by_cases hk : k ∈ P ++ Q
  · rw [decide_eq_true hk]
    by_cases hq : k ∈ Q
    · have e : touch (max most 0) P Q k = (P, Q.erase k ++ [k]) := if_pos hq
      rw [e]
      refine (mltouch_Q hm k hl hq hy).mono ?_
      rintro e W' ⟨rfl, h5, t⟩
      obtain ⟨t2, h6⟩ := MLp.step h2 h3 hy hys (h3 m h2) t h5
      exact ⟨rfl, f t2 h6 (fun k e => e)⟩
    · obtain ⟨PP, QQ, hPQ⟩ : ∃ PP QQ, touch (max most 0) P Q k = (PP, QQ) := ⟨_, _, rfl⟩
      rw [hPQ]
      refine (mltouch_P hm k hl ((List.mem_append.1 hk).resolve_right hq) hq hy hPQ).mono ?_
      rintro e W' ⟨rfl, t, h5⟩
      obtain ⟨t2, h6⟩ := MLp.step h2 h3 hy hys (h3 m h2) t (h5.mono fun b e => .inr e)
      exact ⟨rfl, f t2 h6 (fun k e => e)⟩
  · rw [decide_eq_false hk, touch_none hk]
    refine (mltouch_no hm k hl (fun e => hk (List.mem_append_left _ e)) (fun e => hk (List.mem_append_right _ e))).mono ?_
    rintro e W' ⟨rfl, rfl⟩
    exact ⟨rfl, f (Trn.refl _ _) a (fun k e => .inl e)⟩
theorem d_drop (h : Two (MLp m most P Q) B w0 x W) (hB : Part B) (k : Int) (hl : P.length + Q.length < 90000) (hn : (P ++ Q).Nodup) : Calls Try.prog 17 #[.pointer (some ⟨m, 0, none⟩), .int .i64 k] W fun e W' => e = .returned (.bool (decide (k ∈ P ++ Q))) ∧ Two (MLp m most (P.erase k) (Q.erase k)) B w0 x W' ∧ Kx x W W' := by
  obtain ⟨s, a, f⟩ := h.left hB
  obtain ⟨⟨y, hm, hy, hys⟩, h2, h3⟩ := id a
  by_cases hk : k ∈ P ++ Q
  · rw [decide_eq_true hk]
    by_cases hq : k ∈ Q
    · have hp : k ∉ P := fun e => (List.nodup_append.1 hn).2.2 k e k hq rfl
      rw [List.erase_of_not_mem hp]
      refine (mldrop_Q hm k hl hp hq hy).mono ?_
      rintro e W' ⟨rfl, h5, t⟩
      obtain ⟨t2, h6⟩ := MLp.step h2 h3 hy hys (h3 m h2) t h5
      exact ⟨rfl, f t2 h6 (fun k e => e)⟩
    · rw [List.erase_of_not_mem hq]
      refine (mldrop_P hm k hl ((List.mem_append.1 hk).resolve_right hq) hq hy).mono ?_
      rintro e W' ⟨rfl, h5, t⟩
      obtain ⟨t2, h6⟩ := MLp.step h2 h3 hy hys (h3 m h2) t h5
      exact ⟨rfl, f t2 h6 (fun k e => e)⟩
  · rw [decide_eq_false hk, List.erase_of_not_mem (fun e => hk (List.mem_append_left _ e)), List.erase_of_not_mem (fun e => hk (List.mem_append_right _ e))]
    refine (mldrop_no hm k hl (fun e => hk (List.mem_append_left _ e)) (fun e => hk (List.mem_append_right _ e))).mono ?_
    rintro e W' ⟨rfl, hb⟩
    exact ⟨rfl, f (Trn.of_below hb) (partM.away a (fun k e => hb.block k (h3 k e)) hb.size) (fun k e => .inl e)⟩
theorem d_order (h : Two (MLp m most P Q) B w0 x W) (hB : Part B) (hl : P.length + Q.length < 90000) : Calls Try.prog 21 #[.pointer (some ⟨m, 0, none⟩)] W fun e W' => ∃ v, e = .returned v ∧ RK encZ (fun k => W.heap.size ≤ k ∧ k < W'.heap.size) v (P ++ Q) W' ∧ Two (MLp m most P Q) B w0 x W' ∧ Below W.heap.size W W' := by
  obtain ⟨s, a, f⟩ := h.left hB
  obtain ⟨⟨y, hm, hy, hys⟩, h2, h3⟩ := id a
  refine (mlorder_any hm hl).mono ?_
  rintro e W' ⟨v, rfl, ho, hb⟩
  exact ⟨v, rfl, RK.own ho (fun b e => ⟨own_low ho e, by obtain ⟨c, hc⟩ := own_blk' ho e; exact hc.lt⟩), h.below partM hB hb, hb⟩
/-- Its lists' lengths, in memory. -/
theorem d_cells (h : Two (MLp m most P Q) B w0 x W) : ∃ a1 c1 a2 c2, W.cell? ⟨m, 1, none⟩ = some (.slice a1 P.length c1) ∧ W.cell? ⟨m, 2, none⟩ = some (.slice a2 Q.length c2) := by
  obtain ⟨s1, s2, ⟨⟨y, hm, _⟩, _⟩, _⟩ := h.ex
  obtain ⟨v, u, hb, hp, hq⟩ := hm.ex
  obtain ⟨a1, c1, rfl, _⟩ := hp.form
  obtain ⟨a2, c2, rfl, _⟩ := hq.form
  exact ⟨a1, c1, a2, c2, hb.cell rfl, hb.cell rfl⟩
end
/-- An act of chapter 9's laws. -/
structure Ac9 where
  kind : Int
  k : Int
  at_ : Int
def encA9 (a : Ac9) : List Value := [.int .i64 a.kind, .int .i64 a.k, .int .i64 a.at_]
theorem encA9_len (a : Ac9) : (encA9 a).length = 3 := rfl
theorem rka_cell {x : Nat → Prop} {ao : Option Addr} {n cap : Nat} {l : List Ac9} {W : World} (h : RK encA9 x (.slice ao n cap) l W) {i : Nat} (hi : i < l.length) : ∃ b off, ao = some ⟨b, off, none⟩ ∧ W.cell? ⟨b, off + i * 3, none⟩ = some (.int .i64 l[i].kind) ∧ W.cell? ⟨b, off + i * 3 + 1, none⟩ = some (.int .i64 l[i].k) ∧ W.cell? ⟨b, off + i * 3 + 2, none⟩ = some (.int .i64 l[i].at_) := by
  obtain ⟨b, off, e, _, c⟩ := RK.at_ encA9_len h hi (f := 0) (by omega)
  obtain ⟨b', off', e', _, c'⟩ := RK.at_ encA9_len h hi (f := 1) (by omega)
  obtain ⟨b2, off2, e2, _, c2⟩ := RK.at_ encA9_len h hi (f := 2) (by omega)
  rw [e] at e' e2
  cases e'
  cases e2
  exact ⟨b, off, e, by rw [Nat.add_zero] at c; rw [c]; rfl, by rw [← Nat.add_assoc] at c'; rw [c']; rfl, by rw [← Nat.add_assoc] at c2; rw [c2]; rfl⟩
end Go.Proofs.Ytjaejdenboggpaa

/- The document's own Upto: the mathematics. -/
set_option maxRecDepth 100000
namespace Go.Proofs.Ytjaejdenboggpaa
namespace Du
def Srt (A : List (Int × Int)) : Prop := A.Pairwise (fun a b => a.2 ≤ b.2)
/-- From behind over all that are later: there one goes in. -/
theorem insE_at {x : Int × Int} : ∀ {A : List (Int × Int)} {k : Nat}, Srt A → k ≤ A.length → (∀ j (h : j < A.length), k ≤ j → x.2 < A[j].2) → (∀ (h : k - 1 < A.length), 0 < k → A[k - 1].2 ≤ x.2) → insE x A = A.take k ++ x :: A.drop k
  | [], k, _, hk, _, _ => by
    obtain rfl : k = 0 := by simpa using hk
    rfl
  | y :: A, 0, _, _, h1, _ => by
    have : x.2 < y.2 := h1 0 (by simp) (Nat.le_refl _)
    unfold insE
    rw [if_pos this]
    rfl
  | y :: A, k + 1, hs, hk, h1, h2 => by
    obtain ⟨hy, hs2⟩ := List.pairwise_cons.1 hs
    have hk2 : k ≤ A.length := by simpa using hk
    have hle : y.2 ≤ x.2 := by
      have h3 := h2 (by simp; omega) (by omega)
      cases k with
      | zero => simpa using h3
      | succ k =>
        simp only [Nat.add_sub_cancel, List.getElem_cons_succ] at h3
        have := hy _ (List.getElem_mem (show k < A.length by omega))
        omega
    unfold insE
    rw [if_neg (by omega), insE_at (k := k) hs2 hk2 (fun j h hj => by have := h1 (j + 1) (by simpa using h) (by omega); simpa using this) (fun h hk0 => by
      have h3 := h2 (by simp; omega) (by omega)
      obtain ⟨k', rfl⟩ : ∃ k', k = k' + 1 := ⟨k - 1, by omega⟩
      simpa using h3)]
    rfl
theorem insE_mem {x z : Int × Int} : ∀ {A : List (Int × Int)}, z ∈ insE x A → z = x ∨ z ∈ A
  | [], h => by simp [insE] at h; exact .inl h
  | y :: A, h => by
    unfold insE at h
    split at h
    · rcases List.mem_cons.1 h with e | e
      · exact .inl e
      · exact .inr e
    · rcases List.mem_cons.1 h with e | e
      · exact .inr (by rw [e]; exact List.mem_cons_self ..)
      · exact (insE_mem e).imp id (fun e => List.mem_cons_of_mem _ e)
theorem insE_srt {x : Int × Int} : ∀ {A : List (Int × Int)}, Srt A → Srt (insE x A)
  | [], _ => List.pairwise_singleton _ _
  | y :: A, h => by
    obtain ⟨hy, hs2⟩ := List.pairwise_cons.1 h
    unfold insE
    split
    · rename_i hlt
      refine List.pairwise_cons.2 ⟨fun z hz => ?_, h⟩
      rcases List.mem_cons.1 hz with e | e
      · rw [e]; omega
      · have := hy z e; omega
    · rename_i hle
      refine List.pairwise_cons.2 ⟨fun z hz => ?_, insE_srt hs2⟩
      rcases insE_mem hz with e | e
      · rw [e]; omega
      · exact hy z e
end Du
end Go.Proofs.Ytjaejdenboggpaa

/- The document's own Due: Upto. -/
set_option maxRecDepth 100000
namespace Go.Proofs.Ytjaejdenboggpaa
open Go Go.RowKit Go.Shelf
attribute [local go_sem] Oper.semAt_some
theorem uptoE_step {at_ : Int} {E A : List (Int × Int)} {i : Nat} (h : i < E.length) : Du.uptoE at_ (E.drop i) A = Du.uptoE at_ (E.drop (i + 1)) (if E[i].2 ≤ at_ then Du.insE E[i] A else A) := by
  rw [List.drop_eq_getElem_cons h]
  rfl
theorem below_drewN (W : World) (q : Nat) : Below W.heap.size W (W.drewN q) :=
  have h := Below.refl W.heap.size W
  ⟨h.os, h.tape, h.output, h.size, h.block⟩
set_option maxHeartbeats 32000000 in
theorem mdupto_any {x : Nat → Prop} {m : Nat} {E : List (Int × Int)} {w : World} (h : MD x m E w) (at_ : Int) (hl : E.length < 100000) :
    Calls Try.prog 31 #[.pointer (some ⟨m, 0, none⟩), .int .i64 at_] w fun e w' => ∃ v, e = .returned v ∧ OwnK encQ 2 56 w.heap.size v (Du.uptoE at_ E []) w' ∧ Below w.heap.size w w' := by
  obtain ⟨v, hBk, hr⟩ := h.ex
  obtain ⟨ao, cap, rfl, _, _⟩ := hr.form
  obtain ⟨n, hn⟩ : ∃ n, E.length = n := ⟨_, rfl⟩
  have HN := Lib.hid hn
  rw [hn] at hBk hl
  have HB := Lib.hid hBk
  have HR := Lib.hid hr
  clear h hBk hr hn
  go_enter Try.func31, Try.ntmps31
  go_wp2_with fail
  go_loopw [5, 6] (fun vl iv wr => ∃ i : Nat, ∃ A : List (Int × Int), i ≤ n ∧ iv = .int .i64 (i : Int) ∧ A.length ≤ i ∧ Hid (Du.Srt A) ∧ Hid (Du.uptoE at_ (E.drop i) A = Du.uptoE at_ E []) ∧ Hid (OwnK encQ 2 56 w.heap.size vl A wr) ∧ Hid (Below w.heap.size w wr)) (fun _ iv _ => n + 1 - (intOf iv).toNat)
  case atStart => exact ⟨0, [], by omega, rfl, by simp, Lib.hid List.Pairwise.nil, Lib.hid (by rw [List.drop_zero]), Lib.hid (ownK_nil _ _ _ _ _), Lib.hid (Below.refl _ _)⟩
  case round =>
    obtain ⟨i, A, hi, rfl, hA, HS, HU, HO, HW⟩ := hrel
    have k0 := HB.out.kept (HW.out.block _ HB.out.lt)
    have c0 := k0.cell (i := 0) rfl
    have hml : m < wr.heap.size := k0.lt
    by_cases hlt : i < n
    · have d1 : decide ((i : Int) < (n : Int)) = true := by simpa using hlt
      have hil : i < E.length := by rw [HN.out]; exact hlt
      obtain ⟨b, off, rfl, c1, c2⟩ := rkq_cell (HR.out.below HW.out) hil
      have hbl : b < wr.heap.size := cell_lt c2
      have HUS := Lib.hid ((uptoE_step (at_ := at_) (A := A) hil).symm.trans HU.out)
      generalize E[i] = y at *
      clear hil HU
      by_cases hat : y.2 ≤ at_
      · have d2 : decide (y.2 > at_) = false := by rw [decide_eq_false_iff_not]; omega
        have HUS2 : Hid (Du.uptoE at_ (E.drop (i + 1)) (Du.insE y A) = Du.uptoE at_ E []) := Lib.hid (by have := HUS.out; rw [if_pos hat] at this; exact this)
        clear hat HUS
        obtain ⟨WO, hWO⟩ : ∃ WO, WO = wr := ⟨_, rfl⟩
        subst hWO
        obtain ⟨vl, hvl⟩ : ∃ vl, vl = u5 := ⟨_, rfl⟩
        subst hvl
        obtain ⟨la, hla⟩ : ∃ la, A.length = la := ⟨_, rfl⟩
        have HLA := Lib.hid hla
        obtain ⟨al, cl, el, _⟩ := ownK_form HO.out
        rw [hla] at hA el
        have HO2 := Lib.hid HO.out
        subst el
        clear hla HO
        go_wp2_with fail
        go_loopw [7] (fun kv wr => ∃ r : Nat, r ≤ la ∧ kv = .int .i64 (r : Int) ∧ Hid (∀ j (h : j < A.length), r ≤ j → y.2 < A[j].2) ∧ ∃ q, wr = WO.drewN q) (fun kv _ => (intOf kv).toNat)
        case atStart => exact ⟨la, Nat.le_refl _, rfl, Lib.hid (fun j h hj => by have := HLA.out; omega), 0, rfl⟩
        case round =>
          obtain ⟨r, hr, rfl, HJ, q, rfl⟩ := hrel
          by_cases hr0 : ∃ r', r = r' + 1 ∧ ∃ h : r' < A.length, y.2 < (A[r']'h).2
          · obtain ⟨r', rfl, hrl, hlt2⟩ := hr0
            obtain ⟨g2, off2, rfl, c3a, c3⟩ := rkq_cell (n := la) (cap := cl) (RK.own HO2.out (x := fun _ => True) (fun _ _ => trivial)) hrl
            have HJ2 : Hid (∀ j (h : j < A.length), r' ≤ j → y.2 < A[j].2) := Lib.hid (fun j h hj => by
              by_cases e : j = r'
              · subst e; exact hlt2
              · exact HJ.out j h (by omega))
            generalize A[r'].2 = z at *
            have e1 : decide (((r' : Int) + 1) > 0) = true := by rw [decide_eq_true_iff]; omega
            have e2 : decide (z > y.2) = true := by rw [decide_eq_true_iff]; exact hlt2
            have C0 : (WO.drewN q).cell? ⟨m, 0, none⟩ = some (.slice (some ⟨b, off, none⟩) n cap) := c0
            have C1 : (WO.drewN q).cell? ⟨b, off + i * 2 + 1, none⟩ = some (.int .i64 y.2) := c2
            have C3 : (WO.drewN q).cell? ⟨g2, off2 + r' * 2 + 1, none⟩ = some (.int .i64 z) := c3
            have hw1 : IntKind.i64.wrap ((r' : Int) + 1 - 1) = (r' : Int) := (IntWalk.i64_in _ (by omega)).trans (by omega)
            have hrla : r' < la := by omega
            generalize y.2 = yt at *
            clear c0 c2 c3 HJ c3a
            generalize hW : WO.drewN q = W1 at *
            go_wp2_with fail
            go_quiet (fail)
            go_wp2
            go_roundw
            case rel => exact ⟨r', by omega, by go_num, HJ2, ⟨_, by rw [← hW]; exact World.drewN_drewN _ _ _⟩⟩
            case measure => simp [intOf]
          · have HX : Hid (∀ h : r - 1 < A.length, 0 < r → A[r - 1].2 ≤ y.2) := Lib.hid fun h h0 => by
              by_cases h1 : y.2 < (A[r - 1]'h).2
              · exact absurd ⟨r - 1, by omega, h, h1⟩ hr0
              · omega
            have HRla := HLA.out
            have HINS : Hid (Du.insE y A = A.take r ++ y :: A.drop r) := Lib.hid (Du.insE_at HS.out (by omega) HJ.out HX.out)
            have HOQ : Hid (OwnK encQ 2 56 w.heap.size (.slice al la cl) A (WO.drewN q)) := Lib.hid HO2.out
            have HWQ : Hid (Below w.heap.size w (WO.drewN q)) := Lib.hid (show Below w.heap.size w (WO.drewN q) from ⟨HW.out.os, HW.out.tape, HW.out.output, HW.out.size, HW.out.block⟩)
            have C0 : Hid ((WO.drewN q).cell? ⟨m, 0, none⟩ = some (.slice (some ⟨b, off, none⟩) n cap)) := Lib.hid c0
            have C1 : Hid ((WO.drewN q).cell? ⟨b, off + i * 2, none⟩ = some (.int .i64 y.1)) := Lib.hid c1
            have C2 : Hid ((WO.drewN q).cell? ⟨b, off + i * 2 + 1, none⟩ = some (.int .i64 y.2)) := Lib.hid c2
            have hml1 : m < (WO.drewN q).heap.size := hml
            have hbl1 : b < (WO.drewN q).heap.size := hbl
            clear c0 c1 c2 HJ HW hr0 HO2 hml hbl k0 HB HR HRla
            generalize hW : WO.drewN q = W1 at *
            clear hW
            have hml := hml1
            have hbl := hbl1
            obtain ⟨vt, ht1, ht2⟩ := run_takeK (P := Try.prog) encQ_len q_under infoQ (RK.own HOQ.out (x := fun _ => True) (fun _ _ => trivial)) (m := r) (by rw [HLA.out]; exact hr)
            obtain ⟨vd, hd1, hd2⟩ := run_dropK (P := Try.prog) encQ_len q_under infoQ (RK.own HOQ.out (x := fun _ => True) (fun _ _ => trivial)) (m := r) (by rw [HLA.out]; exact hr)
            have HRT := Lib.hid (fun W' (hb : Below W1.heap.size W1 W') => ht2.below hb)
            have HRD := Lib.hid (fun W' (hb : Below W1.heap.size W1 W') => hd2.below hb)
            have hl1 : (A.take r).length ≤ 900000 := by rw [List.length_take]; omega
            have hl2 : (A.take r).length + (A.drop r).length ≤ 900000 := by rw [List.length_drop, List.length_take]; have := HLA.out; omega
            have hstop : (decide (0 < r) = false) ∨ ∃ r' g2 off2 z, r' < la ∧ IntKind.i64.wrap ((r : Int) - 1) = ((r' : Nat) : Int) ∧ decide (0 < r) = true ∧ al = some ⟨g2, off2, none⟩ ∧ W1.cell? ⟨g2, off2 + r' * 2 + 1, none⟩ = some (.int .i64 z) ∧ decide (z > y.2) = false := by
              rcases Nat.eq_zero_or_pos r with e | e
              · exact .inl (by rw [decide_eq_false_iff_not]; omega)
              · have hra : r - 1 < A.length := by rw [HLA.out]; omega
                obtain ⟨g2, off2, e2, _, c3⟩ := rkq_cell (n := la) (cap := cl) (RK.own HOQ.out (x := fun _ => True) (fun _ _ => trivial)) hra
                exact .inr ⟨r - 1, g2, off2, _, by omega, (IntWalk.i64_in _ (by omega)).trans (by omega), by rw [decide_eq_true_iff]; omega, e2, c3, by rw [decide_eq_false_iff_not]; have := HX.out hra e; omega⟩
            obtain ⟨TT, hTT⟩ : ∃ T, A.take r = T := ⟨_, rfl⟩
            obtain ⟨DD, hDD⟩ : ∃ D, A.drop r = D := ⟨_, rfl⟩
            rw [hTT] at HRT hl1 hl2
            rw [hDD] at HRD hl2
            obtain ⟨LL, hLL⟩ : ∃ LL, TT ++ [y] ++ DD = LL := ⟨_, rfl⟩
            obtain ⟨n1, hn1⟩ : ∃ n, TT.length = n := ⟨_, rfl⟩
            obtain ⟨n2, hn2⟩ : ∃ n, (TT ++ [y]).length = n := ⟨_, rfl⟩
            obtain ⟨n3, hn3⟩ : ∃ n, (TT ++ [y] ++ DD).length = n := ⟨_, rfl⟩
            have HN1 : Hid (LL.take n1 = TT) := Lib.hid (by rw [← hLL, ← hn1, List.append_assoc, List.take_left' rfl])
            have HN2 : Hid (LL.take n2 = TT ++ [y]) := Lib.hid (by rw [← hLL, ← hn2, List.take_left' rfl])
            have HN3 : Hid (LL.take n3 = TT ++ [y] ++ DD) := Lib.hid (by rw [← hLL, ← hn3, List.take_length])
            have HP1 : Hid (TT ++ [y] <+: LL) := Lib.hid ⟨DD, hLL⟩
            have HP2 : Hid (TT ++ [y] ++ DD <+: LL) := Lib.hid ⟨[], by rw [← hLL, List.append_nil]⟩
            have HINS2 : Hid (Du.insE y A = TT ++ [y] ++ DD) := Lib.hid (by rw [HINS.out, hTT, hDD]; simp)
            have HLEN : Hid ((TT ++ [y] ++ DD).length ≤ i + 1) := Lib.hid (by rw [← hTT, ← hDD]; simp only [List.length_append, List.length_take, List.length_drop, List.length_singleton]; have := HLA.out; omega)
            clear hTT hDD hLL hn1 hn2 hn3 ht2 hd2 HX HINS
            rcases hstop with e1 | ⟨r', g2, off2, z, hrl, hw1, e1, rfl, C3, e2⟩
            · have D0 := C0.out
              have D2 := C2.out
              go_wp2_with fail
              go_quiet (fail)
              go_wp2
              have HRT2 : Hid (∀ W', Below (W1.drewN nq).heap.size (W1.drewN nq) W' → RK encQ (fun _ => True) vt TT W') := Lib.hid (fun W' hb => HRT.out W' ((below_drewN W1 nq).trans hb))
              have HRD2 : Hid (∀ W', Below (W1.drewN nq).heap.size (W1.drewN nq) W' → RK encQ (fun _ => True) vd DD W') := Lib.hid (fun W' hb => HRD.out W' ((below_drewN W1 nq).trans hb))
              have HBV : Hid (∀ W', Below (W1.drewN nq).heap.size (W1.drewN nq) W' → Below w.heap.size w W') := Lib.hid (fun W' hb => (show Below w.heap.size w (W1.drewN nq) from ⟨HWQ.out.os, HWQ.out.tape, HWQ.out.output, HWQ.out.size, HWQ.out.block⟩).trans (hb.mono HWQ.out.size))
              have HBASE : Hid (w.heap.size ≤ (W1.drewN nq).heap.size) := Lib.hid HWQ.out.size
              have C0' : Hid ((W1.drewN nq).cell? ⟨m, 0, none⟩ = some (.slice (some ⟨b, off, none⟩) n cap)) := Lib.hid C0.out
              have C1' : Hid ((W1.drewN nq).cell? ⟨b, off + i * 2, none⟩ = some (.int .i64 y.1)) := Lib.hid C1.out
              have C2' : Hid ((W1.drewN nq).cell? ⟨b, off + i * 2 + 1, none⟩ = some (.int .i64 y.2)) := Lib.hid C2.out
              have hml' : m < (W1.drewN nq).heap.size := hml
              have hbl' : b < (W1.drewN nq).heap.size := hbl
              clear HRT HRD C0 C1 C2 hml hbl D0 D2 hml1 hbl1 HWQ HOQ
              generalize W1.drewN nq = wr at *
              have HRT := HRT2
              have HRD := HRD2
              have C0 := C0'
              have C1 := C1'
              have C2 := C2'
              have hml := hml'
              have hbl := hbl'
              clear HRT2 HRD2 C0' C1' C2' hml' hbl'
              refine wp_region_slotsTL (by simp) (leRow1 encQ 2 56 wr.heap.size LL y) (slotPhi ((fun v W' => ∃ g, v = .slice (some ⟨g, 0, none⟩) 0 0 ∧ OwnK encQ 2 56 wr.heap.size v [] W') :: (fun v _ => v = ?f51) :: (fun v _ => v = ?f52) :: (fun v _ => v = ?f53) :: (fun v W' => OwnK encQ 2 56 wr.heap.size v (LL.take n1) W') :: (fun v _ => v = ?f55) :: (fun v _ => v = ?f56) :: (fun v _ => v = ?f57) :: (fun v _ => v = ?f58) :: (fun v _ => v = ?f59) :: (fun v _ => v = ?f60) :: (fun v _ => v = ?f61) :: (fun v W' => ∃ g, v = .slice (some ⟨g, 0, none⟩) 1 1 ∧ Blk W' g (encQ y) 56) :: (fun v W' => OwnK encQ 2 56 wr.heap.size v (LL.take n2) W') :: (fun v _ => v = ?f64) :: (fun v _ => v = ?f65) :: (fun v _ => v = ?f66) :: (fun v W' => OwnK encQ 2 56 wr.heap.size v (LL.take n3) W') :: [])) leRow1_refl (fun h g => leRow1_trans h g) (slotPhi_by ?stb) (by kernel_rfl) (by kernel_rfl) (by kernel_rfl) (by kernel_rfl) (by kernel_rfl) ?steps ?fin
              case stb =>
                refine ⟨by rintro v x z hle ⟨g, e, o⟩; exact ⟨g, e, hle.1.2 v 0 o⟩, ?_⟩
                refine ⟨by intro _ _ _ _ h; exact h, ?_⟩
                refine ⟨by intro _ _ _ _ h; exact h, ?_⟩
                refine ⟨by intro _ _ _ _ h; exact h, ?_⟩
                refine ⟨by intro v x z hle h; exact hle.1.2 v _ h, ?_⟩
                refine ⟨by intro _ _ _ _ h; exact h, ?_⟩
                refine ⟨by intro _ _ _ _ h; exact h, ?_⟩
                refine ⟨by intro _ _ _ _ h; exact h, ?_⟩
                refine ⟨by intro _ _ _ _ h; exact h, ?_⟩
                refine ⟨by intro _ _ _ _ h; exact h, ?_⟩
                refine ⟨by intro _ _ _ _ h; exact h, ?_⟩
                refine ⟨by intro _ _ _ _ h; exact h, ?_⟩
                refine ⟨by rintro v x z hle ⟨g, e, o⟩; exact ⟨g, e, hle.2 g o⟩, ?_⟩
                refine ⟨by intro v x z hle h; exact hle.1.2 v _ h, ?_⟩
                refine ⟨by intro _ _ _ _ h; exact h, ?_⟩
                refine ⟨by intro _ _ _ _ h; exact h, ?_⟩
                refine ⟨by intro _ _ _ _ h; exact h, ?_⟩
                refine ⟨by intro v x z hle h; exact hle.1.2 v _ h, ?_⟩
                exact trivial
              case steps =>
                refine ⟨?_, ?_⟩
                · intro a W K N hK
                  rw [if_pos (wanted_no rfl)]
                  go_simp
                  refine hK _ _ (leRow1_of ((Below.refl _ _).alloc (Nat.le_refl _) _) N.le.1.1.size) ?_
                  exact ⟨_, rfl, own_lit0q W N.le.1.1.size⟩
                refine ⟨?_, ?_⟩
                · intro a W K N hK
                  have e5 : a.tmps[5]?.getD undef = .slice al la cl := N.was' 5 _ (by kernel_rfl) rfl
                  rw [if_pos (wanted_no rfl)]
                  go_simp
                  refine hK _ _ (leRow1_refl _) ?_
                  exact rfl
                refine ⟨?_, ?_⟩
                · intro a W K N hK
                  have e7 : a.tmps[7]?.getD undef = .int .i64 (r : Int) := N.was' 7 _ (by kernel_rfl) rfl
                  rw [if_pos (wanted_no rfl)]
                  go_simp
                  refine hK _ _ (leRow1_refl _) ?_
                  exact rfl
                refine ⟨?_, ?_⟩
                · intro a W K N hK
                  have e51 : a.tmps[51]?.getD undef = _ := N.dep' 1 51 (by kernel_rfl)
                  have e52 : a.tmps[52]?.getD undef = _ := N.dep' 2 52 (by kernel_rfl)
                  rw [if_pos (wanted_no rfl)]
                  go_simp
                  refine hK _ _ (leRow1_refl _) ?_
                  exact rfl
                refine ⟨?_, ?_⟩
                · intro a W K N hK
                  have e50 := Lib.hid (show (fun v W' => ∃ g, v = .slice (some ⟨g, 0, none⟩) 0 0 ∧ OwnK encQ 2 56 wr.heap.size v [] W') (a.tmps[50]?.getD undef) W from N.dep' 0 50 (by kernel_rfl))
                  have e53 : a.tmps[53]?.getD undef = _ := N.dep' 3 53 (by kernel_rfl)
                  rw [if_pos (wanted_no rfl)]
                  obtain ⟨g, e5, o5⟩ := e50.out
                  refine wp_litRK (base := wr.heap.size) encQ_len (by omega) q_under infoQ rfl (by omega) (.tmp 50) (.tmp 53) rfl ⟨g, (eval_tmp9 a 50).trans e5, e5 ▸ o5⟩ _ TT ((eval_tmp9 a 53).trans e53) (HRT.out _ (show Below wr.heap.size wr W from ((Below.refl _ wr).drew).trans N.le.1.1)) (by omega) N.le.1.1.size ?_
                  intro v5 w5 ho5 hb5
                  refine hK _ _ (leRow1_of hb5 N.le.1.1.size) ?_
                  exact HN1.out ▸ ho5
                refine ⟨?_, ?_⟩
                · intro a W K N hK
                  have e0 : a.tmps[0]?.getD undef = .pointer (some ⟨m, 0, none⟩) := N.was' 0 _ (by kernel_rfl) rfl
                  rw [if_pos (wanted_no rfl)]
                  go_simp
                  refine hK _ _ (leRow1_refl _) ?_
                  exact rfl
                refine ⟨?_, ?_⟩
                · intro a W K N hK
                  have e55 : a.tmps[55]?.getD undef = _ := N.dep' 5 55 (by kernel_rfl)
                  rw [if_pos (wanted_no rfl)]
                  go_simp
                  refine hK _ _ (leRow1_refl _) ?_
                  exact rfl
                refine ⟨?_, ?_⟩
                · intro a W K N hK
                  have e56 : a.tmps[56]?.getD undef = _ := N.dep' 6 56 (by kernel_rfl)
                  rw [if_pos (wanted_no rfl)]
                  go_simp
                  refine hK _ _ (leRow1_refl _) ?_
                  exact rfl
                refine ⟨?_, ?_⟩
                · intro a W K N hK
                  have e57 : a.tmps[57]?.getD undef = _ := N.dep' 7 57 (by kernel_rfl)
                  rw [if_pos (wanted_no rfl)]
                  have z := (N.le.1.1.cell (p := ⟨m, 0, none⟩) hml).trans C0.out
                  go_simp
                  refine hK _ _ (leRow1_refl _) ?_
                  exact rfl
                refine ⟨?_, ?_⟩
                · intro a W K N hK
                  have e6 : a.tmps[6]?.getD undef = .int .i64 (i : Int) := N.was' 6 _ (by kernel_rfl) rfl
                  rw [if_pos (wanted_no rfl)]
                  go_simp
                  refine hK _ _ (leRow1_refl _) ?_
                  exact rfl
                refine ⟨?_, ?_⟩
                · intro a W K N hK
                  have e58 : a.tmps[58]?.getD undef = _ := N.dep' 8 58 (by kernel_rfl)
                  have e59 : a.tmps[59]?.getD undef = _ := N.dep' 9 59 (by kernel_rfl)
                  rw [if_pos (wanted_no rfl)]
                  go_simp
                  refine hK _ _ (leRow1_refl _) ?_
                  exact rfl
                refine ⟨?_, ?_⟩
                · intro a W K N hK
                  have e60 : a.tmps[60]?.getD undef = _ := N.dep' 10 60 (by kernel_rfl)
                  rw [if_pos (wanted_no rfl)]
                  have z1 := (N.le.1.1.cell (p := ⟨b, off + i * 2, none⟩) hbl).trans C1.out
                  have z2 := (N.le.1.1.cell (p := ⟨b, off + i * 2 + 1, none⟩) hbl).trans C2.out
                  go_simp
                  refine hK _ _ (leRow1_refl _) ?_
                  exact rfl
                refine ⟨?_, ?_⟩
                · intro a W K N hK
                  have e61 : a.tmps[61]?.getD undef = _ := N.dep' 11 61 (by kernel_rfl)
                  rw [if_pos (wanted_no rfl)]
                  go_simp
                  refine hK _ _ (leRow1_of ((Below.refl _ _).alloc (Nat.le_refl _) _) N.le.1.1.size) ?_
                  exact ⟨_, rfl, Blk.new W (encQ y) _⟩
                refine ⟨?_, ?_⟩
                · intro a W K N hK
                  have e54 := Lib.hid (show (fun v W' => OwnK encQ 2 56 wr.heap.size v (LL.take n1) W') (a.tmps[54]?.getD undef) W from N.dep' 4 54 (by kernel_rfl))
                  have e62 := Lib.hid (show (fun v W' => ∃ g, v = .slice (some ⟨g, 0, none⟩) 1 1 ∧ Blk W' g (encQ y) 56) (a.tmps[62]?.getD undef) W from N.dep' 12 62 (by kernel_rfl))
                  rw [if_pos (wanted_no rfl)]
                  obtain ⟨g, e6, o6⟩ := e62.out
                  refine wp_apKeep (L := LL) (base := wr.heap.size) encQ_len (by omega) encQ_one q_under infoQ rfl (by omega) (.tmp 54) (.tmp 62) rfl _ TT (eval_tmp9 a 54) (by exact (HN1.out ▸ e54.out)) _ [y] ((eval_tmp9 a 62).trans e6) (RK.blk o6) (by simp; omega) N.le.1.1.size HP1.out ?_
                  intro v5 w5 ho5 hle5 h5
                  refine hK _ _ ⟨hle5, h5 y (fun _ b e => by cases e; rfl)⟩ ?_
                  exact HN2.out ▸ ho5
                refine ⟨?_, ?_⟩
                · intro a W K N hK
                  have e5 : a.tmps[5]?.getD undef = .slice al la cl := N.was' 5 _ (by kernel_rfl) rfl
                  rw [if_pos (wanted_no rfl)]
                  go_simp
                  refine hK _ _ (leRow1_refl _) ?_
                  exact rfl
                refine ⟨?_, ?_⟩
                · intro a W K N hK
                  have e7 : a.tmps[7]?.getD undef = .int .i64 (r : Int) := N.was' 7 _ (by kernel_rfl) rfl
                  rw [if_pos (wanted_no rfl)]
                  go_simp
                  refine hK _ _ (leRow1_refl _) ?_
                  exact rfl
                refine ⟨?_, ?_⟩
                · intro a W K N hK
                  have e64 : a.tmps[64]?.getD undef = _ := N.dep' 14 64 (by kernel_rfl)
                  have e65 : a.tmps[65]?.getD undef = _ := N.dep' 15 65 (by kernel_rfl)
                  rw [if_pos (wanted_no rfl)]
                  go_simp
                  refine hK _ _ (leRow1_refl _) ?_
                  exact rfl
                refine ⟨?_, ?_⟩
                · intro a W K N hK
                  have e63 := Lib.hid (show (fun v W' => OwnK encQ 2 56 wr.heap.size v (LL.take n2) W') (a.tmps[63]?.getD undef) W from N.dep' 13 63 (by kernel_rfl))
                  have e66 : a.tmps[66]?.getD undef = _ := N.dep' 16 66 (by kernel_rfl)
                  rw [if_pos (wanted_no rfl)]
                  refine wp_apKeep (L := LL) (base := wr.heap.size) encQ_len (by omega) encQ_one q_under infoQ rfl (by omega) (.tmp 63) (.tmp 66) rfl _ (TT ++ [y]) (eval_tmp9 a 63) (by exact (HN2.out ▸ e63.out)) _ DD ((eval_tmp9 a 66).trans e66) (HRD.out _ (show Below wr.heap.size wr W from ((Below.refl _ wr).drew).trans N.le.1.1)) (by simp; omega) N.le.1.1.size HP2.out ?_
                  intro v5 w5 ho5 hle5 h5
                  refine hK _ _ ⟨hle5, h5 y (fun e => absurd e (by simp))⟩ ?_
                  exact HN3.out ▸ ho5
                exact trivial
              case fin =>
                intro V hV
                simp only [FinAll, slotPhi, List.dropLast, List.getLast_cons_cons, List.getLast_singleton, List.getD_cons_zero, List.getD_cons_succ, forall_eq, Act.put, List.setIfInBounds_toArray, List.set_cons_zero, List.set_cons_succ]
                intro v50 h50
                intro v54 h54
                intro v62 h62
                intro v63 h63
                intro v67 h67
                have hVb : Below wr.heap.size wr V := ((Below.refl _ wr).drew).trans hV.1.1
                rw [HN3.out] at h67
                have H67 := Lib.hid h67
                clear hV h50 h54 h62 h63 h67
                go_wp2
                go_roundw
                case rel => exact ⟨i + 1, TT ++ [y] ++ DD, by omega, by go_num, HLEN.out, Lib.hid (HINS2.out ▸ Du.insE_srt HS.out), Lib.hid (HINS2.out ▸ HUS2.out), Lib.hid (ownK_lower H67.out HBASE.out), Lib.hid (HBV.out V hVb)⟩
                case measure => simp [intOf]; omega
            · have D0 := C0.out
              have D2 := C2.out
              go_wp2_with fail
              go_quiet (fail)
              go_wp2
              have HRT2 : Hid (∀ W', Below (W1.drewN nq).heap.size (W1.drewN nq) W' → RK encQ (fun _ => True) vt TT W') := Lib.hid (fun W' hb => HRT.out W' ((below_drewN W1 nq).trans hb))
              have HRD2 : Hid (∀ W', Below (W1.drewN nq).heap.size (W1.drewN nq) W' → RK encQ (fun _ => True) vd DD W') := Lib.hid (fun W' hb => HRD.out W' ((below_drewN W1 nq).trans hb))
              have HBV : Hid (∀ W', Below (W1.drewN nq).heap.size (W1.drewN nq) W' → Below w.heap.size w W') := Lib.hid (fun W' hb => (show Below w.heap.size w (W1.drewN nq) from ⟨HWQ.out.os, HWQ.out.tape, HWQ.out.output, HWQ.out.size, HWQ.out.block⟩).trans (hb.mono HWQ.out.size))
              have HBASE : Hid (w.heap.size ≤ (W1.drewN nq).heap.size) := Lib.hid HWQ.out.size
              have C0' : Hid ((W1.drewN nq).cell? ⟨m, 0, none⟩ = some (.slice (some ⟨b, off, none⟩) n cap)) := Lib.hid C0.out
              have C1' : Hid ((W1.drewN nq).cell? ⟨b, off + i * 2, none⟩ = some (.int .i64 y.1)) := Lib.hid C1.out
              have C2' : Hid ((W1.drewN nq).cell? ⟨b, off + i * 2 + 1, none⟩ = some (.int .i64 y.2)) := Lib.hid C2.out
              have hml' : m < (W1.drewN nq).heap.size := hml
              have hbl' : b < (W1.drewN nq).heap.size := hbl
              clear HRT HRD C0 C1 C2 hml hbl D0 D2 hml1 hbl1 HWQ HOQ
              generalize W1.drewN nq = wr at *
              have HRT := HRT2
              have HRD := HRD2
              have C0 := C0'
              have C1 := C1'
              have C2 := C2'
              have hml := hml'
              have hbl := hbl'
              clear HRT2 HRD2 C0' C1' C2' hml' hbl'
              refine wp_region_slotsTL (by simp) (leRow1 encQ 2 56 wr.heap.size LL y) (slotPhi ((fun v W' => ∃ g, v = .slice (some ⟨g, 0, none⟩) 0 0 ∧ OwnK encQ 2 56 wr.heap.size v [] W') :: (fun v _ => v = ?g51) :: (fun v _ => v = ?g52) :: (fun v _ => v = ?g53) :: (fun v W' => OwnK encQ 2 56 wr.heap.size v (LL.take n1) W') :: (fun v _ => v = ?g55) :: (fun v _ => v = ?g56) :: (fun v _ => v = ?g57) :: (fun v _ => v = ?g58) :: (fun v _ => v = ?g59) :: (fun v _ => v = ?g60) :: (fun v _ => v = ?g61) :: (fun v W' => ∃ g, v = .slice (some ⟨g, 0, none⟩) 1 1 ∧ Blk W' g (encQ y) 56) :: (fun v W' => OwnK encQ 2 56 wr.heap.size v (LL.take n2) W') :: (fun v _ => v = ?g64) :: (fun v _ => v = ?g65) :: (fun v _ => v = ?g66) :: (fun v W' => OwnK encQ 2 56 wr.heap.size v (LL.take n3) W') :: [])) leRow1_refl (fun h g => leRow1_trans h g) (slotPhi_by ?stb) (by kernel_rfl) (by kernel_rfl) (by kernel_rfl) (by kernel_rfl) (by kernel_rfl) ?steps ?fin
              case stb =>
                refine ⟨by rintro v x z hle ⟨g, e, o⟩; exact ⟨g, e, hle.1.2 v 0 o⟩, ?_⟩
                refine ⟨by intro _ _ _ _ h; exact h, ?_⟩
                refine ⟨by intro _ _ _ _ h; exact h, ?_⟩
                refine ⟨by intro _ _ _ _ h; exact h, ?_⟩
                refine ⟨by intro v x z hle h; exact hle.1.2 v _ h, ?_⟩
                refine ⟨by intro _ _ _ _ h; exact h, ?_⟩
                refine ⟨by intro _ _ _ _ h; exact h, ?_⟩
                refine ⟨by intro _ _ _ _ h; exact h, ?_⟩
                refine ⟨by intro _ _ _ _ h; exact h, ?_⟩
                refine ⟨by intro _ _ _ _ h; exact h, ?_⟩
                refine ⟨by intro _ _ _ _ h; exact h, ?_⟩
                refine ⟨by intro _ _ _ _ h; exact h, ?_⟩
                refine ⟨by rintro v x z hle ⟨g, e, o⟩; exact ⟨g, e, hle.2 g o⟩, ?_⟩
                refine ⟨by intro v x z hle h; exact hle.1.2 v _ h, ?_⟩
                refine ⟨by intro _ _ _ _ h; exact h, ?_⟩
                refine ⟨by intro _ _ _ _ h; exact h, ?_⟩
                refine ⟨by intro _ _ _ _ h; exact h, ?_⟩
                refine ⟨by intro v x z hle h; exact hle.1.2 v _ h, ?_⟩
                exact trivial
              case steps =>
                refine ⟨?_, ?_⟩
                · intro a W K N hK
                  rw [if_pos (wanted_no rfl)]
                  go_simp
                  refine hK _ _ (leRow1_of ((Below.refl _ _).alloc (Nat.le_refl _) _) N.le.1.1.size) ?_
                  exact ⟨_, rfl, own_lit0q W N.le.1.1.size⟩
                refine ⟨?_, ?_⟩
                · intro a W K N hK
                  have e5 : a.tmps[5]?.getD undef = .slice (some ⟨g2, off2, none⟩) la cl := N.was' 5 _ (by kernel_rfl) rfl
                  rw [if_pos (wanted_no rfl)]
                  go_simp
                  refine hK _ _ (leRow1_refl _) ?_
                  exact rfl
                refine ⟨?_, ?_⟩
                · intro a W K N hK
                  have e7 : a.tmps[7]?.getD undef = .int .i64 (r : Int) := N.was' 7 _ (by kernel_rfl) rfl
                  rw [if_pos (wanted_no rfl)]
                  go_simp
                  refine hK _ _ (leRow1_refl _) ?_
                  exact rfl
                refine ⟨?_, ?_⟩
                · intro a W K N hK
                  have e51 : a.tmps[51]?.getD undef = _ := N.dep' 1 51 (by kernel_rfl)
                  have e52 : a.tmps[52]?.getD undef = _ := N.dep' 2 52 (by kernel_rfl)
                  rw [if_pos (wanted_no rfl)]
                  go_simp
                  refine hK _ _ (leRow1_refl _) ?_
                  exact rfl
                refine ⟨?_, ?_⟩
                · intro a W K N hK
                  have e50 := Lib.hid (show (fun v W' => ∃ g, v = .slice (some ⟨g, 0, none⟩) 0 0 ∧ OwnK encQ 2 56 wr.heap.size v [] W') (a.tmps[50]?.getD undef) W from N.dep' 0 50 (by kernel_rfl))
                  have e53 : a.tmps[53]?.getD undef = _ := N.dep' 3 53 (by kernel_rfl)
                  rw [if_pos (wanted_no rfl)]
                  obtain ⟨g, e5, o5⟩ := e50.out
                  refine wp_litRK (base := wr.heap.size) encQ_len (by omega) q_under infoQ rfl (by omega) (.tmp 50) (.tmp 53) rfl ⟨g, (eval_tmp9 a 50).trans e5, e5 ▸ o5⟩ _ TT ((eval_tmp9 a 53).trans e53) (HRT.out _ (show Below wr.heap.size wr W from ((Below.refl _ wr).drew).trans N.le.1.1)) (by omega) N.le.1.1.size ?_
                  intro v5 w5 ho5 hb5
                  refine hK _ _ (leRow1_of hb5 N.le.1.1.size) ?_
                  exact HN1.out ▸ ho5
                refine ⟨?_, ?_⟩
                · intro a W K N hK
                  have e0 : a.tmps[0]?.getD undef = .pointer (some ⟨m, 0, none⟩) := N.was' 0 _ (by kernel_rfl) rfl
                  rw [if_pos (wanted_no rfl)]
                  go_simp
                  refine hK _ _ (leRow1_refl _) ?_
                  exact rfl
                refine ⟨?_, ?_⟩
                · intro a W K N hK
                  have e55 : a.tmps[55]?.getD undef = _ := N.dep' 5 55 (by kernel_rfl)
                  rw [if_pos (wanted_no rfl)]
                  go_simp
                  refine hK _ _ (leRow1_refl _) ?_
                  exact rfl
                refine ⟨?_, ?_⟩
                · intro a W K N hK
                  have e56 : a.tmps[56]?.getD undef = _ := N.dep' 6 56 (by kernel_rfl)
                  rw [if_pos (wanted_no rfl)]
                  go_simp
                  refine hK _ _ (leRow1_refl _) ?_
                  exact rfl
                refine ⟨?_, ?_⟩
                · intro a W K N hK
                  have e57 : a.tmps[57]?.getD undef = _ := N.dep' 7 57 (by kernel_rfl)
                  rw [if_pos (wanted_no rfl)]
                  have z := (N.le.1.1.cell (p := ⟨m, 0, none⟩) hml).trans C0.out
                  go_simp
                  refine hK _ _ (leRow1_refl _) ?_
                  exact rfl
                refine ⟨?_, ?_⟩
                · intro a W K N hK
                  have e6 : a.tmps[6]?.getD undef = .int .i64 (i : Int) := N.was' 6 _ (by kernel_rfl) rfl
                  rw [if_pos (wanted_no rfl)]
                  go_simp
                  refine hK _ _ (leRow1_refl _) ?_
                  exact rfl
                refine ⟨?_, ?_⟩
                · intro a W K N hK
                  have e58 : a.tmps[58]?.getD undef = _ := N.dep' 8 58 (by kernel_rfl)
                  have e59 : a.tmps[59]?.getD undef = _ := N.dep' 9 59 (by kernel_rfl)
                  rw [if_pos (wanted_no rfl)]
                  go_simp
                  refine hK _ _ (leRow1_refl _) ?_
                  exact rfl
                refine ⟨?_, ?_⟩
                · intro a W K N hK
                  have e60 : a.tmps[60]?.getD undef = _ := N.dep' 10 60 (by kernel_rfl)
                  rw [if_pos (wanted_no rfl)]
                  have z1 := (N.le.1.1.cell (p := ⟨b, off + i * 2, none⟩) hbl).trans C1.out
                  have z2 := (N.le.1.1.cell (p := ⟨b, off + i * 2 + 1, none⟩) hbl).trans C2.out
                  go_simp
                  refine hK _ _ (leRow1_refl _) ?_
                  exact rfl
                refine ⟨?_, ?_⟩
                · intro a W K N hK
                  have e61 : a.tmps[61]?.getD undef = _ := N.dep' 11 61 (by kernel_rfl)
                  rw [if_pos (wanted_no rfl)]
                  go_simp
                  refine hK _ _ (leRow1_of ((Below.refl _ _).alloc (Nat.le_refl _) _) N.le.1.1.size) ?_
                  exact ⟨_, rfl, Blk.new W (encQ y) _⟩
                refine ⟨?_, ?_⟩
                · intro a W K N hK
                  have e54 := Lib.hid (show (fun v W' => OwnK encQ 2 56 wr.heap.size v (LL.take n1) W') (a.tmps[54]?.getD undef) W from N.dep' 4 54 (by kernel_rfl))
                  have e62 := Lib.hid (show (fun v W' => ∃ g, v = .slice (some ⟨g, 0, none⟩) 1 1 ∧ Blk W' g (encQ y) 56) (a.tmps[62]?.getD undef) W from N.dep' 12 62 (by kernel_rfl))
                  rw [if_pos (wanted_no rfl)]
                  obtain ⟨g, e6, o6⟩ := e62.out
                  refine wp_apKeep (L := LL) (base := wr.heap.size) encQ_len (by omega) encQ_one q_under infoQ rfl (by omega) (.tmp 54) (.tmp 62) rfl _ TT (eval_tmp9 a 54) (by exact (HN1.out ▸ e54.out)) _ [y] ((eval_tmp9 a 62).trans e6) (RK.blk o6) (by simp; omega) N.le.1.1.size HP1.out ?_
                  intro v5 w5 ho5 hle5 h5
                  refine hK _ _ ⟨hle5, h5 y (fun _ b e => by cases e; rfl)⟩ ?_
                  exact HN2.out ▸ ho5
                refine ⟨?_, ?_⟩
                · intro a W K N hK
                  have e5 : a.tmps[5]?.getD undef = .slice (some ⟨g2, off2, none⟩) la cl := N.was' 5 _ (by kernel_rfl) rfl
                  rw [if_pos (wanted_no rfl)]
                  go_simp
                  refine hK _ _ (leRow1_refl _) ?_
                  exact rfl
                refine ⟨?_, ?_⟩
                · intro a W K N hK
                  have e7 : a.tmps[7]?.getD undef = .int .i64 (r : Int) := N.was' 7 _ (by kernel_rfl) rfl
                  rw [if_pos (wanted_no rfl)]
                  go_simp
                  refine hK _ _ (leRow1_refl _) ?_
                  exact rfl
                refine ⟨?_, ?_⟩
                · intro a W K N hK
                  have e64 : a.tmps[64]?.getD undef = _ := N.dep' 14 64 (by kernel_rfl)
                  have e65 : a.tmps[65]?.getD undef = _ := N.dep' 15 65 (by kernel_rfl)
                  rw [if_pos (wanted_no rfl)]
                  go_simp
                  refine hK _ _ (leRow1_refl _) ?_
                  exact rfl
                refine ⟨?_, ?_⟩
                · intro a W K N hK
                  have e63 := Lib.hid (show (fun v W' => OwnK encQ 2 56 wr.heap.size v (LL.take n2) W') (a.tmps[63]?.getD undef) W from N.dep' 13 63 (by kernel_rfl))
                  have e66 : a.tmps[66]?.getD undef = _ := N.dep' 16 66 (by kernel_rfl)
                  rw [if_pos (wanted_no rfl)]
                  refine wp_apKeep (L := LL) (base := wr.heap.size) encQ_len (by omega) encQ_one q_under infoQ rfl (by omega) (.tmp 63) (.tmp 66) rfl _ (TT ++ [y]) (eval_tmp9 a 63) (by exact (HN2.out ▸ e63.out)) _ DD ((eval_tmp9 a 66).trans e66) (HRD.out _ (show Below wr.heap.size wr W from ((Below.refl _ wr).drew).trans N.le.1.1)) (by simp; omega) N.le.1.1.size HP2.out ?_
                  intro v5 w5 ho5 hle5 h5
                  refine hK _ _ ⟨hle5, h5 y (fun e => absurd e (by simp))⟩ ?_
                  exact HN3.out ▸ ho5
                exact trivial
              case fin =>
                intro V hV
                simp only [FinAll, slotPhi, List.dropLast, List.getLast_cons_cons, List.getLast_singleton, List.getD_cons_zero, List.getD_cons_succ, forall_eq, Act.put, List.setIfInBounds_toArray, List.set_cons_zero, List.set_cons_succ]
                intro v50 h50
                intro v54 h54
                intro v62 h62
                intro v63 h63
                intro v67 h67
                have hVb : Below wr.heap.size wr V := ((Below.refl _ wr).drew).trans hV.1.1
                rw [HN3.out] at h67
                have H67 := Lib.hid h67
                clear hV h50 h54 h62 h63 h67
                go_wp2
                go_roundw
                case rel => exact ⟨i + 1, TT ++ [y] ++ DD, by omega, by go_num, HLEN.out, Lib.hid (HINS2.out ▸ Du.insE_srt HS.out), Lib.hid (HINS2.out ▸ HUS2.out), Lib.hid (ownK_lower H67.out HBASE.out), Lib.hid (HBV.out V hVb)⟩
                case measure => simp [intOf]; omega
      · have d2 : decide (y.2 > at_) = true := by rw [decide_eq_true_iff]; omega
        have HUS2 : Hid (Du.uptoE at_ (E.drop (i + 1)) A = Du.uptoE at_ E []) := Lib.hid (by have := HUS.out; rw [if_neg hat] at this; exact this)
        clear hat HUS
        go_wp2
        go_roundw
        case rel => exact ⟨i + 1, A, by omega, by go_num, by omega, HS, HUS2, HO, HW⟩
        case measure => simp [intOf]; omega
    · obtain rfl : i = n := by omega
      have d1 : decide ((i : Int) < (i : Int)) = false := by simp
      have HV := Lib.hid (show OwnK encQ 2 56 w.heap.size _ (Du.uptoE at_ E []) wr from by have := HU.out; rw [List.drop_of_length_le (Nat.le_of_eq HN.out)] at this; rw [← this]; exact HO.out)
      go_wp2
      go_ret
      exact ⟨_, rfl, HV.out, HW.out⟩
end Go.Proofs.Ytjaejdenboggpaa

/- The document's own Due as a part beside another: each call in one line. -/
set_option maxRecDepth 100000
namespace Go.Proofs.Ytjaejdenboggpaa
open Go Go.RowKit Go.Shelf Go.Maps
/-- The document's own Due in the box m, whose blocks are s. -/
def MDp (m : Nat) (E : List (Int × Int)) (s : Nat → Prop) (W : World) : Prop := (∃ y, MD y m E W ∧ ¬ y m ∧ ∀ k, y k → s k) ∧ s m ∧ ∀ k, s k → k < W.heap.size
theorem MD.trim {y : Nat → Prop} {m : Nat} {E : List (Int × Int)} {W : World} (h : MD y m E W) : MD (fun b => y b ∧ b < W.heap.size) m E W := by
  obtain ⟨v, h1, h2⟩ := h.ex
  exact ⟨v, h1, h2.trim⟩
theorem MD.mono {y z : Nat → Prop} {m : Nat} {E : List (Int × Int)} {W : World} (h : MD y m E W) (hz : ∀ b, y b → z b) : MD z m E W := by
  obtain ⟨v, h1, h2⟩ := h.ex
  exact ⟨v, h1, h2.mono hz⟩
theorem partMD {m : Nat} {E : List (Int × Int)} : Part (MDp m E) := by
  refine ⟨fun {s W W'} h hk hs => ?_, fun h => h.2.2⟩
  obtain ⟨⟨y, hm, hy, hys⟩, h2, h3⟩ := h
  obtain ⟨v, h4, h5⟩ := hm.ex
  exact ⟨⟨y, ⟨v, h4.kept (hk m h2), h5.same fun b hb => hk b (hys b hb)⟩, hy, hys⟩, h2, fun k e => Nat.lt_of_lt_of_le (h3 k e) hs⟩
section
variable {B : (Nat → Prop) → World → Prop} {w0 W : World} {x : Nat → Prop} {m : Nat} {E : List (Int × Int)}
/-- What a call of it leaves. -/
theorem MDp.step {s y : Nat → Prop} {E' : List (Int × Int)} {W' : World} (h2 : s m) (h3 : ∀ k, s k → k < W.heap.size) (hy : ¬ y m) (hys : ∀ k, y k → s k) (hl : m < W.heap.size) (t : Trn (fun b => b = m) W W') (hm : MD (fun b => y b ∨ W.heap.size ≤ b) m E' W') : Trn s W W' ∧ MDp m E' (grow s W W') W' := by
  refine ⟨t.mono fun b _ e => e ▸ h2, ⟨_, hm.trim, fun e => e.1.elim hy (fun e => by omega), fun k e => e.1.elim (fun e2 => .inl (hys k e2)) (fun e2 => .inr ⟨e2, e.2⟩)⟩, .inl h2, fun k e => e.elim (fun e => Nat.lt_of_lt_of_le (h3 k e) t.size) (fun e => e.2)⟩
theorem e_new (h : Two Nobody B w0 x W) (hB : Part B) : Two (MDp W.heap.size []) B w0 x (W.alloc (.cells #[.slice none 0 0] 46)) :=
  h.made hB ((Below.refl _ _).alloc (Nat.le_refl _) _) ⟨⟨fun _ => False, ⟨_, Blk.new W [.slice none 0 0] 46, RK.nil _ _ _⟩, fun e => e, fun k e => e.elim⟩, ⟨Nat.le_refl _, by simp⟩, fun k e => e.2⟩
theorem e_set (h : Two (MDp m E) B w0 x W) (hB : Part B) (k a : Int) (hl : E.length < 90000) (hn : (E.map (·.1)).Nodup) : Calls Try.prog 25 #[.pointer (some ⟨m, 0, none⟩), .int .i64 k, .int .i64 a] W fun e W' => e = .returned (.tuple #[]) ∧ Two (MDp m (E.filter (fun e => e.1 != k) ++ [(k, a)])) B w0 x W' ∧ Kx x W W' := by
  obtain ⟨s, a1, f⟩ := h.left hB
  obtain ⟨⟨y, hm, hy, hys⟩, h2, h3⟩ := id a1
  refine (mdset_any hm k a (by omega) hn).mono ?_
  rintro e W' ⟨rfl, h5, t⟩
  obtain ⟨t2, h6⟩ := MDp.step h2 h3 hy hys (h3 m h2) t (h5.mono fun b e => .inr e)
  exact ⟨rfl, f t2 h6 (fun k e => e)⟩
theorem e_drop (h : Two (MDp m E) B w0 x W) (hB : Part B) (k : Int) (hl : E.length < 90000) (hn : (E.map (·.1)).Nodup) : Calls Try.prog 27 #[.pointer (some ⟨m, 0, none⟩), .int .i64 k] W fun e W' => e = .returned (.bool (decide (k ∈ E.map (·.1)))) ∧ Two (MDp m (E.filter (fun e => e.1 != k))) B w0 x W' ∧ Kx x W W' := by
  obtain ⟨s, a1, f⟩ := h.left hB
  obtain ⟨⟨y, hm, hy, hys⟩, h2, h3⟩ := id a1
  refine (mdrop_any hm k (by omega) hn).mono ?_
  rintro e W' ⟨rfl, h5, t⟩
  obtain ⟨t2, h6⟩ := MDp.step h2 h3 hy hys (h3 m h2) t h5
  exact ⟨rfl, f t2 h6 (fun k e => e)⟩
theorem e_at (h : Two (MDp m E) B w0 x W) (k : Int) (hl : E.length < 90000) : Calls Try.prog 29 #[.pointer (some ⟨m, 0, none⟩), .int .i64 k] W fun e W' => e = .returned (.tuple #[.int .i64 ((atOf E k).getD 0), .bool (atOf E k).isSome]) ∧ W = W' := by
  obtain ⟨s1, s2, ⟨⟨y, hm, _⟩, _⟩, _⟩ := h.ex
  exact mdat_any hm k (by omega)
theorem e_upto (h : Two (MDp m E) B w0 x W) (hB : Part B) (at_ : Int) (hl : E.length < 90000) : Calls Try.prog 31 #[.pointer (some ⟨m, 0, none⟩), .int .i64 at_] W fun e W' => ∃ v, e = .returned v ∧ RK encQ (fun k => W.heap.size ≤ k ∧ k < W'.heap.size) v (Du.uptoE at_ E []) W' ∧ Two (MDp m E) B w0 x W' ∧ Below W.heap.size W W' := by
  obtain ⟨s, a, f⟩ := h.left hB
  obtain ⟨⟨y, hm, hy, hys⟩, h2, h3⟩ := id a
  refine (mdupto_any hm at_ (by omega)).mono ?_
  rintro e W' ⟨v, rfl, ho, hb⟩
  exact ⟨v, rfl, RK.own ho (fun b e => ⟨own_low ho e, by obtain ⟨c, hc⟩ := own_blk' ho e; exact hc.lt⟩), h.below partMD hB hb, hb⟩
/-- Its list's length, in memory. -/
theorem e_cells (h : Two (MDp m E) B w0 x W) : ∃ a c, W.cell? ⟨m, 0, none⟩ = some (.slice a E.length c) := by
  obtain ⟨s1, s2, ⟨⟨y, hm, _⟩, _⟩, _⟩ := h.ex
  obtain ⟨v, hb, hp⟩ := hm.ex
  obtain ⟨a1, c1, rfl, _⟩ := hp.form
  exact ⟨a1, c1, hb.cell rfl⟩
end
end Go.Proofs.Ytjaejdenboggpaa

/- The law ListsDue, walked. -/
set_option maxRecDepth 100000
namespace Go.Proofs.Ytjaejdenboggpaa
open Go Go.RowKit Go.Shelf Go.Maps
theorem qDueE (w : World) (a : Addr) : (binOp .eql 41 (.pointer (some a)) (.pointer none)).run Try.prog w = .ok (.bool false) w := by kernel_rfl
theorem Two.lenD {B : (Nat → Prop) → World → Prop} {w0 W : World} {x : Nat → Prop} {X : Nat} {E : List (Int × Int)} {N : Nat} (h : Two (DV X E N) B w0 x W) : E.length ≤ N ∧ (E.map (·.1)).Nodup := by
  obtain ⟨s1, s2, a, _⟩ := h.ex
  exact ⟨a.len_le, a.nodup⟩
/-- The code's and the document's, side by side, behind t acts; x is what the law owns besides. -/
def Pd (X m : Nat) (E : List (Int × Int)) (t : Nat) (w : World) (x : Nat → Prop) (W : World) : Prop := ∃ N, N ≤ t ∧ Two (DV X E N) (MDp m E) w x W
section
variable {X m : Nat} {k a : Int} {E : List (Int × Int)} {t : Nat} {w W : World} {x : Nat → Prop}
theorem pd_set (h : Pd X m E t w x W) (ik : I64 k) (ia : I64 a) (ht : t < 60) : Calls Try.prog 24 #[.pointer (some ⟨X, 0, none⟩), .int .i64 k, .int .i64 a] W fun e W' => e = .returned (.tuple #[]) ∧ Kx x W W' ∧ Calls Try.prog 25 #[.pointer (some ⟨m, 0, none⟩), .int .i64 k, .int .i64 a] W' fun e W'' => e = .returned (.tuple #[]) ∧ (∃ E2, Pd X m E2 (t + 1) w x W'') ∧ Kx x W' W'' := by
  obtain ⟨N, hN, h⟩ := h
  obtain ⟨hl, hn⟩ := h.lenD
  refine (t_set h partMD ik ia (by omega)).mono ?_
  rintro e W' ⟨rfl, h1, k1⟩
  refine ⟨rfl, k1, (e_set h1.swap partD k a (by omega) hn).mono ?_⟩
  rintro e W'' ⟨rfl, h2, k2⟩
  exact ⟨rfl, ⟨_, N + 1, by omega, h2.swap⟩, k2⟩
theorem pd_drop (h : Pd X m E t w x W) (ik : I64 k) (ht : t < 60) : Calls Try.prog 26 #[.pointer (some ⟨X, 0, none⟩), .int .i64 k] W fun e W' => e = .returned (.bool (decide (k ∈ E.map (·.1)))) ∧ Kx x W W' ∧ Calls Try.prog 27 #[.pointer (some ⟨m, 0, none⟩), .int .i64 k] W' fun e W'' => e = .returned (.bool (decide (k ∈ E.map (·.1)))) ∧ (∃ E2, Pd X m E2 (t + 1) w x W'') ∧ Kx x W' W'' := by
  obtain ⟨N, hN, h⟩ := h
  obtain ⟨hl, hn⟩ := h.lenD
  by_cases hk : k ∈ E.map (·.1)
  · rw [decide_eq_true hk]
    refine (t_ddrop h partMD ik hk (by omega)).mono ?_
    rintro e W' ⟨rfl, h1, k1⟩
    have hd := e_drop h1.swap partD k (by omega) hn
    rw [decide_eq_true hk] at hd
    refine ⟨rfl, k1, hd.mono ?_⟩
    rintro e W'' ⟨rfl, h2, k2⟩
    exact ⟨rfl, ⟨_, N + 1, by omega, h2.swap⟩, k2⟩
  · rw [decide_eq_false hk]
    refine (t_ddrop_no h partMD ik hk).mono ?_
    rintro e W' ⟨rfl, h1, k1⟩
    have hd := e_drop h1.swap partD k (by omega) hn
    have hf : E.filter (fun e => e.1 != k) = E := List.filter_eq_self.2 (fun e he => by
      rw [bne_iff_ne]
      exact fun e2 => hk (List.mem_map.2 ⟨e, he, e2⟩))
    rw [decide_eq_false hk, hf] at hd
    refine ⟨rfl, k1, hd.mono ?_⟩
    rintro e W'' ⟨rfl, h2, k2⟩
    exact ⟨rfl, ⟨_, N, by omega, h2.swap⟩, k2⟩
theorem pd_at (h : Pd X m E t w x W) (ik : I64 k) (ht : t ≤ 60) : Calls Try.prog 28 #[.pointer (some ⟨X, 0, none⟩), .int .i64 k] W fun e W' => e = .returned (.tuple #[.int .i64 ((atOf E k).getD 0), .bool (atOf E k).isSome]) ∧ Kx x W W' ∧ Pd X m E t w x W' ∧ Calls Try.prog 29 #[.pointer (some ⟨m, 0, none⟩), .int .i64 k] W' fun e W'' => e = .returned (.tuple #[.int .i64 ((atOf E k).getD 0), .bool (atOf E k).isSome]) ∧ W' = W'' := by
  obtain ⟨N, hN, h⟩ := h
  obtain ⟨hl, hn⟩ := h.lenD
  refine (t_at h partMD ik).mono ?_
  rintro e W' ⟨rfl, h1, k1⟩
  exact ⟨rfl, k1, ⟨N, hN, h1⟩, e_at h1.swap k (by omega)⟩
theorem pd_len (h : Pd X m E t w x W) : Calls Try.prog 30 #[.pointer (some ⟨X, 0, none⟩)] W fun e W' => e = .returned (.int .i64 (E.length : Int)) ∧ W = W' := by
  obtain ⟨N, hN, h⟩ := h
  exact t_dlen h
theorem Pd.more (h : Pd X m E t w x W) : Pd X m E (t + 1) w x W := by
  obtain ⟨N, hN, h⟩ := h
  exact ⟨N, by omega, h⟩
/-- A box of the law's own is made. -/
theorem Pd.box (h : Pd X m E t w (fun _ => False) W) (o : Obj) : Pd X m E t w (fun b => b = W.heap.size) (W.alloc o) := by
  obtain ⟨N, hN, h⟩ := h
  have hb : Below W.heap.size W (W.alloc o) := (Below.refl _ _).alloc (Nat.le_refl _) o
  exact ⟨N, hN, h.turn partD partMD (hb.mono h.bel.size) (fun k hk _ => hb.block k hk) (fun k e => ⟨.inr (by omega), by rw [World.size_alloc]; omega⟩)⟩
theorem Pd.end_ (h : Pd X m E t w x W) : Pd X m E t w (fun _ => False) W := by
  obtain ⟨N, hN, h⟩ := h
  exact ⟨N, hN, h.fewer fun k e => e.elim⟩
theorem Pd.drew (h : Pd X m E t w x W) (n : Nat) : Pd X m E t w x (W.drewN n) := by
  obtain ⟨N, hN, h⟩ := h
  exact ⟨N, hN, h.drew partD partMD n⟩
end
set_option maxHeartbeats 64000000 in
theorem due9_any (v1 : Value) (L1 : List Ac9) (at_ stop : Int) (w : World) (hat : -9223372036854775808 ≤ at_ ∧ at_ ≤ 9223372036854775807) (hst : -9223372036854775808 ≤ stop ∧ stop ≤ 9223372036854775807) (hr1 : RK encA9 (fun k => k < w.heap.size) v1 L1 w) (hb1 : ∀ a ∈ L1, (-9223372036854775808 ≤ a.kind ∧ a.kind ≤ 9223372036854775807) ∧ (-9223372036854775808 ≤ a.k ∧ a.k ≤ 9223372036854775807) ∧ (-9223372036854775808 ≤ a.at_ ∧ a.at_ ≤ 9223372036854775807)) (hl1 : L1.length ≤ maxLen) :
    Calls Try.prog 4 #[v1, .int .i64 at_, .int .i64 stop] w fun e w' => e = .returned (.bool true) ∧ Below w.heap.size w w' := by
  unfold maxLen at hl1
  have q1 := qDueE
  obtain ⟨ao, cap, rfl, hcap, _⟩ := hr1.form
  by_cases h1 : 60 < L1.length
  · have h6 : decide ((L1.length : Int) > 60) = true := by simp; omega
    go_enter Try.func4, Try.ntmps4
    go_wp2_with fail
    refine (awake9_any _).mono ?_
    rintro e w1 ⟨rfl, hb⟩
    go_wp2
    go_ret
    exact ⟨rfl, hb⟩
  obtain ⟨T, hT⟩ : ∃ T, L1.length = T := ⟨_, rfl⟩
  have HR1 := Lib.hid hr1
  have HB1 := Lib.hid hb1
  have HT := Lib.hid hT
  rw [hT] at hcap hl1 h1
  have hT60 : T ≤ 60 := by omega
  have d1 : decide ((T : Int) > 60) = false := by simp; omega
  rw [hT]
  clear hr1 hb1 hT h1
  go_enter Try.func4, Try.ntmps4
  go_wp2_with fail
  refine (t_dnew (Two.start w) partN).mono ?_
  rintro e w1 ⟨X, rfl, h1, _⟩
  have H1 : Hid (Pd X w1.heap.size [] 0 w (fun _ => False) (w1.alloc (.cells #[.slice none 0 0] 46))) := Lib.hid ⟨0, Nat.le_refl _, (e_new h1.swap partD).swap⟩
  clear h1
  go_wp2_with fail
  generalize w1.alloc (.cells #[.slice none 0 0] 46) = w2 at *
  generalize w1.heap.size = m at *
  go_loopw [9] (fun i wr => ∃ t : Nat, ∃ E : List (Int × Int), t ≤ T ∧ i = .int .i64 (t : Int) ∧ Hid (Pd X m E t w (fun _ => False) wr)) (fun i _ => T + 1 - (intOf i).toNat)
  case atStart => exact ⟨0, [], by omega, rfl, H1⟩
  case round =>
    clear H1
    obtain ⟨t, E, ht, rfl, HJ⟩ := hrel
    by_cases hlt : t < T
    · have d5 : decide ((t : Int) < (T : Int)) = true := by simpa using hlt
      have hsl : t < L1.length := by rw [HT.out]; exact hlt
      have hbel : Below w.heap.size w wr := by obtain ⟨N, _, h⟩ := HJ.out; exact h.bel
      obtain ⟨b, off, rfl, c1, c2, c3⟩ := rka_cell (HR1.out.below hbel) hsl
      have hzb := HB1.out _ (List.getElem_mem hsl)
      generalize L1[t] = ac at c1 c2 c3 hzb
      have ik := i64_of hzb.2.1.1 hzb.2.1.2
      have ia := i64_of hzb.2.2.1 hzb.2.2.2
      obtain ⟨kd, k, ka⟩ := ac
      simp only at c1 c2 c3 ik ia
      clear hzb hbel
      have ht60 : t < 60 := by omega
      go_upto_block 2 with (fail)
      have HBL := Lib.hid (Blk.new wr [.int .i64 kd, .int .i64 k, .int .i64 ka] 31)
      have H1 := Lib.hid (HJ.out.box (.cells #[.int .i64 kd, .int .i64 k, .int .i64 ka] 31))
      clear HJ c1 c2 c3
      have hz : wr.heap.size < (wr.alloc (.cells #[.int .i64 kd, .int .i64 k, .int .i64 ka] 31)).heap.size := by rw [World.size_alloc]; omega
      generalize wr.alloc (.cells #[.int .i64 kd, .int .i64 k, .int .i64 ka] 31) = w3 at *
      generalize wr.heap.size = bb at *
      go_cut [] from 38 to 62 (fun wx => ∃ E2 : List (Int × Int), Hid (Pd X m E2 (t + 1) w (fun b => b = bb) wx) ∧ Hid (Blk wx bb [.int .i64 kd, .int .i64 k, .int .i64 ka] 31))
      case first =>
        have b1 := HBL.out.cell (i := 1) rfl
        have b2 := HBL.out.cell (i := 2) rfl
        by_cases h1 : kd = 1
        · subst h1
          go_wp2_with fail
          refine (pd_set H1.out ik ia ht60).mono ?_
          rintro e w4 ⟨rfl, k4, h4⟩
          have B4 := Lib.hid (k4.blk HBL.out rfl)
          clear b1 b2
          have b1 := B4.out.cell (i := 1) rfl
          have b2 := B4.out.cell (i := 2) rfl
          go_wp2_with fail
          refine h4.mono ?_
          rintro e w5 ⟨rfl, ⟨E2, h5⟩, k5⟩
          have H5 := Lib.hid h5
          have B5 := Lib.hid (k5.blk B4.out rfl)
          clear h4 h5 H1 b1 b2 k4 k5 B4
          go_wp2
          go_meet
          case rel => exact ⟨_, H5, B5⟩
        by_cases h3 : kd = 3
        · subst h3
          have HPD : Hid (Pd X m E t w (fun b => b = bb) (World.drew w3)) := Lib.hid (H1.out.drew 1)
          have HBD : Hid (Blk (World.drew w3) bb [.int .i64 3, .int .i64 k, .int .i64 ka] 31) := Lib.hid (HBL.out.kept rfl)
          have HP := Lib.hid (pd_drop HPD.out ik ht60)
          generalize decide (k ∈ E.map (·.1)) = bd at HP
          clear H1 HBL HPD b1 b2
          cases bd
          all_goals
            go_wp2_with fail
            refine wp_region_any (by kernel_rfl) ?_
            change wpAny _ _ _ _ _ _ _ (World.drew _)
            generalize World.drew w3 = wd at *
            have b1 := HBD.out.cell (i := 1) rfl
            refine wpAny_take (i := 0) (v := .pointer (some ⟨X, 0, none⟩)) rfl (by kernel_rfl) (by kernel_rfl) (by kernel_rfl) (fun _ _ _ h => h) (Or.inl ⟨by rfl, fun w => by go_simp⟩) ?_
            refine wpAny_take (i := 1) (v := .pointer (some ⟨bb, 1, none⟩)) rfl (by kernel_rfl) (by kernel_rfl) (by kernel_rfl) (fun _ _ _ h => h) (Or.inl ⟨by rfl, fun w => by go_simp⟩) ?_
            refine wpAny_take (i := 4) (v := .pointer (some ⟨m, 0, none⟩)) rfl (by kernel_rfl) (by kernel_rfl) (by kernel_rfl) (fun _ _ _ h => h) (Or.inl ⟨by rfl, fun w => by go_simp⟩) ?_
            refine wpAny_take (i := 5) (v := .pointer (some ⟨bb, 1, none⟩)) rfl (by kernel_rfl) (by kernel_rfl) (by kernel_rfl) (fun _ _ _ h => h) (Or.inl ⟨by rfl, fun w => by go_simp⟩) ?_
            refine wpAny_ready (rs := [2, 6]) (by kernel_rfl) (by simp) ?_
            refine AllReady.cons rfl (fun K hK => ?_) ?_
            · go_simp
              refine hK _ _ ?_
              clear hK K
              refine wpAny_ready (rs := [3, 6]) (by kernel_rfl) (by simp) ?_
              refine AllReady.cons rfl (fun K hK => ?_) ?_
              · go_simp
                go_wp2_with (go_at_call 26; refine HP.out.mono ?_; rintro e w4 ⟨rfl, k4, h4⟩; have B4 := Lib.hid (k4.blk HBD.out rfl); have H4 := Lib.hid h4; clear h4 k4 HP HBD b1; have b1 := B4.out.cell (i := 1) rfl)
                refine wpAny_ready (rs := [6]) (by kernel_rfl) (by simp) ?_
                refine AllReady.cons rfl (fun K hK => ?_) ?_
                · go_simp
                  refine hK _ _ ?_
                  clear hK K
                  refine wpAny_ready (rs := [7]) (by kernel_rfl) (by simp) ?_
                  refine AllReady.cons rfl (fun K hK => ?_) ?_
                  · go_simp
                    go_wp2_with (go_at_call 27; refine H4.out.mono ?_; rintro e w5 ⟨rfl, ⟨E2, h5⟩, k5⟩; have H5 := Lib.hid h5; have B5 := Lib.hid (k5.blk B4.out rfl); clear h5 k5 H4 B4 b1)
                    refine wpAny_ready (rs := [8]) (by kernel_rfl) (by simp) ?_
                    refine AllReady.cons rfl (fun K hK => ?_) ?_
                    · go_simp
                      refine hK _ _ ?_
                      clear hK K
                      refine wpAny_done (by kernel_rfl) ?_ _
                      go_wp2
                      go_meet
                      case rel => exact ⟨_, H5, B5⟩
                    exact AllReady.nil
                  exact AllReady.nil
                exact AllReady.nil
              refine AllReady.cons rfl (fun K hK => ?_) ?_
              · go_simp
                refine hK _ _ ?_
                clear hK K
                refine wpAny_ready (rs := [3]) (by kernel_rfl) (by simp) ?_
                refine AllReady.cons rfl (fun K hK => ?_) ?_
                · go_simp
                  go_wp2_with (go_at_call 26; refine HP.out.mono ?_; rintro e w4 ⟨rfl, k4, h4⟩; have B4 := Lib.hid (k4.blk HBD.out rfl); have H4 := Lib.hid h4; clear h4 k4 HP HBD b1; have b1 := B4.out.cell (i := 1) rfl)
                  refine wpAny_ready (rs := [7]) (by kernel_rfl) (by simp) ?_
                  refine AllReady.cons rfl (fun K hK => ?_) ?_
                  · go_simp
                    go_wp2_with (go_at_call 27; refine H4.out.mono ?_; rintro e w5 ⟨rfl, ⟨E2, h5⟩, k5⟩; have H5 := Lib.hid h5; have B5 := Lib.hid (k5.blk B4.out rfl); clear h5 k5 H4 B4 b1)
                    refine wpAny_ready (rs := [8]) (by kernel_rfl) (by simp) ?_
                    refine AllReady.cons rfl (fun K hK => ?_) ?_
                    · go_simp
                      refine hK _ _ ?_
                      clear hK K
                      refine wpAny_done (by kernel_rfl) ?_ _
                      go_wp2
                      go_meet
                      case rel => exact ⟨_, H5, B5⟩
                    exact AllReady.nil
                  exact AllReady.nil
                exact AllReady.nil
              exact AllReady.nil
            refine AllReady.cons rfl (fun K hK => ?_) ?_
            · go_simp
              refine hK _ _ ?_
              clear hK K
              refine wpAny_ready (rs := [2]) (by kernel_rfl) (by simp) ?_
              refine AllReady.cons rfl (fun K hK => ?_) ?_
              · go_simp
                refine hK _ _ ?_
                clear hK K
                refine wpAny_ready (rs := [3]) (by kernel_rfl) (by simp) ?_
                refine AllReady.cons rfl (fun K hK => ?_) ?_
                · go_simp
                  go_wp2_with (go_at_call 26; refine HP.out.mono ?_; rintro e w4 ⟨rfl, k4, h4⟩; have B4 := Lib.hid (k4.blk HBD.out rfl); have H4 := Lib.hid h4; clear h4 k4 HP HBD b1; have b1 := B4.out.cell (i := 1) rfl)
                  refine wpAny_ready (rs := [7]) (by kernel_rfl) (by simp) ?_
                  refine AllReady.cons rfl (fun K hK => ?_) ?_
                  · go_simp
                    go_wp2_with (go_at_call 27; refine H4.out.mono ?_; rintro e w5 ⟨rfl, ⟨E2, h5⟩, k5⟩; have H5 := Lib.hid h5; have B5 := Lib.hid (k5.blk B4.out rfl); clear h5 k5 H4 B4 b1)
                    refine wpAny_ready (rs := [8]) (by kernel_rfl) (by simp) ?_
                    refine AllReady.cons rfl (fun K hK => ?_) ?_
                    · go_simp
                      refine hK _ _ ?_
                      clear hK K
                      refine wpAny_done (by kernel_rfl) ?_ _
                      go_wp2
                      go_meet
                      case rel => exact ⟨_, H5, B5⟩
                    exact AllReady.nil
                  exact AllReady.nil
                exact AllReady.nil
              exact AllReady.nil
            exact AllReady.nil
        · have g1 : (kd == 1) = false := by simpa using h1
          have g3 : (kd == 3) = false := by simpa using h3
          have H5 := Lib.hid H1.out.more
          clear H1
          go_wp2
          go_meet
          case rel => exact ⟨_, H5, HBL⟩
      case rest =>
        obtain ⟨E2, HJ2, HB2⟩ := hcut
        clear H1 HBL hsl
        have b1 := HB2.out.cell (i := 1) rfl
        go_wp2_with fail
        refine (pd_at HJ2.out ik (by omega)).mono ?_
        rintro e w8 ⟨rfl, k8, p8, h8⟩
        generalize (atOf E2 k).getD 0 = va at h8 ⊢
        generalize (atOf E2 k).isSome = vo at h8 ⊢
        have HB8 := Lib.hid (k8.blk HB2.out rfl)
        have HP8 := Lib.hid p8
        clear b1 HB2 k8 p8 HJ2
        have b1 := HB8.out.cell (i := 1) rfl
        go_wp2_with fail
        refine h8.mono ?_
        rintro e w9 ⟨rfl, rfl⟩
        clear h8
        obtain ⟨a1, cc1, m1⟩ : ∃ a c, w8.cell? ⟨m, 0, none⟩ = some (.slice a E2.length c) := by
          obtain ⟨N, _, h⟩ := HP8.out
          exact e_cells h.swap
        have n1 : decide (va ≠ va) = false := by simp
        have n2 : (vo != vo) = false := by cases vo <;> rfl
        have n3 : (va != va) = false := by simp
        have n4 : (va == va) = true := by simp
        have n5 : (!va == va) = false := by simp
        obtain ⟨la, hla⟩ : ∃ la, E2.length = la := ⟨_, rfl⟩
        rw [hla] at m1
        have n6 : ((la : Int) == la) = true := by simp
        have hle : E2.length ≤ 61 := by
          obtain ⟨N, hN, h⟩ := HP8.out
          have := h.lenD.1
          omega
        have HPL := Lib.hid (fun n => (show Calls Try.prog 30 #[.pointer (some ⟨X, 0, none⟩)] (w8.drewN n) (fun e W' => e = .returned (.int .i64 (la : Int)) ∧ W' = w8.drewN n) from by have := pd_len (HP8.out.drew n); rw [hla] at this; exact this.mono (fun _ _ h => ⟨h.1, h.2.symm⟩)))
        clear hla
        clear HB8 b1
        go_wp2_with fail
        set_option pp.deepTerms true in
        set_option pp.maxSteps 100000 in
        go_quiet ((go_at_call 30; exact Calls.quiet_of_same (HPL.out _)))
        have H9 := Lib.hid (HP8.out.drew nq).end_
        clear HP8 HPL m1
        generalize w8.drewN nq = w9 at *
        go_wp2
        go_roundw
        case rel => exact ⟨t + 1, E2, by omega, by go_num, H9⟩
        case measure => simp [intOf]; omega
    · obtain rfl : t = T := by omega
      have d5 : decide ((t : Int) < (t : Int)) = false := by simp
      obtain ⟨N, hN, h2⟩ := HJ.out
      have hln := h2.lenD.1
      have H2 := Lib.hid h2
      clear h2 HJ
      go_wp2_with fail
      refine (e_upto H2.out.swap partD at_ (by omega)).mono ?_
      rintro e w8 ⟨v, rfl, r8, h8, hb8⟩
      obtain ⟨O, hO⟩ : ∃ O, Du.uptoE at_ E [] = O := ⟨_, rfl⟩
      obtain ⟨n, hn⟩ : ∃ n, O.length = n := ⟨_, rfl⟩
      have hn60 : n ≤ 60 := by have := uptoE_len at_ E []; rw [hO, hn] at this; simp at this; omega
      have HO := Lib.hid hO
      have HN := Lib.hid hn
      rw [hO] at r8
      obtain ⟨ao3, cp3, rfl, _, _⟩ := r8.form
      rw [hn] at r8
      rw [hn]
      have hkb := roundI_bounds stop ((n : Int) + 1) (by omega)
      have hrr := fun w => round_any stop ((n : Int) + 1) w (by omega) (by omega) hst.1 hst.2
      obtain ⟨k, hk⟩ : ∃ k : Nat, roundI stop ((n : Int) + 1) = (k : Int) := ⟨(roundI stop ((n : Int) + 1)).toNat, by omega⟩
      rw [hk] at hkb
      have HRR := Lib.hid (fun w => by have := hrr w; rw [hk] at this; exact this)
      have hkn : k ≤ n := by omega
      obtain ⟨vt, ht1, ht2⟩ := run_takeK (P := Try.prog) encQ_len q_under infoQ r8 (m := k) (by rw [hn]; exact hkn)
      have HVT := Lib.hid ht2
      have HV8 := Lib.hid r8
      have H8 := Lib.hid (H2.out.turn (x' := fun b => wr.heap.size ≤ b ∧ b < w8.heap.size) partD partMD (hb8.mono H2.out.bel.size) (fun b hb _ => hb8.block b hb) (fun b e => ⟨.inr e.1, e.2⟩))
      clear hrr hk hkb r8 h8 hb8 ht2 H2 hO hn hst
      go_wp2_with fail
      refine (HRR.out _).mono ?_
      rintro e w9 ⟨rfl, rfl⟩
      clear HRR
      go_wp2_with fail
      have HD := Lib.hid (H8.out.drew partD partMD 1)
      have HVD := Lib.hid (HVT.out.same (W' := w8.drewN 1) (fun _ _ => rfl))
      have HVE := Lib.hid (HV8.out.same (W' := w8.drewN 1) (fun _ _ => rfl))
      have HCUT1 : Hid (cutAt (-1) (Du.uptoE at_ E []) = O) := Lib.hid (by rw [HO.out]; rfl)
      clear HVT HV8 H8
      have IAT := i64_of hat.1 hat.2
      by_cases hk0 : k = 0
      · have d7 : ((k : Int) == 0) = true := by simp [hk0]
        clear hk0 ht1
        refine wp_region_any (by kernel_rfl) ?_
        change wpAny _ _ _ _ _ _ _ (World.drew _)
        refine wpAny_take (i := 0) (v := .pointer (some ⟨X, 0, none⟩)) rfl (by kernel_rfl) (by kernel_rfl) (by kernel_rfl) (fun _ _ _ h => h) (Or.inl ⟨by rfl, fun w => by go_simp⟩) ?_
        refine wpAny_take (i := 1) (v := .int .i64 at_) rfl (by kernel_rfl) (by kernel_rfl) (by kernel_rfl) (fun _ _ _ h => h) (Or.inl ⟨by rfl, fun w => by go_simp⟩) ?_
        refine wpAny_take (i := 3) (v := .slice ao3 n cp3) rfl (by kernel_rfl) (by kernel_rfl) (by kernel_rfl) (fun _ _ _ h => h) (Or.inl ⟨by rfl, fun w => by go_simp⟩) ?_
        refine wpAny_ready (rs := [2]) (by kernel_rfl) (by simp) ?_
        refine AllReady.cons rfl (fun K hK => ?_) ?_
        · go_simp
          go_wp2_with (go_at_call 33; refine (t_upto HD.out partMD (by omega) at_ (-1) IAT).mono ?_; rintro e w9 ⟨v9, rfl, r9, h9, K9⟩; rw [HCUT1.out] at r9; have R1 := Lib.hid r9; have VE1 := Lib.hid (K9.rk HVE.out (fun b e => e) (fun b e => e.2)); have VD1 := Lib.hid (K9.rk HVD.out (fun b e => e) (fun b e => HD.out.own b e)); have HD1 := Lib.hid h9; clear r9 h9 K9 HVD HD HVE)
          refine wpAny_ready (rs := [4]) (by kernel_rfl) (by simp) ?_
          refine AllReady.cons rfl (fun K hK => ?_) ?_
          · go_simp
            go_wp2_with (go_at_call 32; refine (pairs_same R1.out VE1.out (by rw [HN.out]; omega)).mono ?_; rintro e w10 ⟨rfl, n10, rfl⟩; have HD := Lib.hid (HD1.out.drew partD partMD n10); have HVD := Lib.hid (VD1.out.same (W' := w9.drewN n10) (fun _ _ => rfl)); clear R1 VE1 HD1 VD1; generalize w9.drewN n10 = w10 at *)
            refine wpAny_ready (rs := [5]) (by kernel_rfl) (by simp) ?_
            refine AllReady.cons rfl (fun K hK => ?_) ?_
            · go_simp
              refine hK _ _ ?_
              clear hK K
              refine wpAny_ready (rs := [6]) (by kernel_rfl) (by simp) ?_
              refine AllReady.cons rfl (fun K hK => ?_) ?_
              · go_simp
                refine hK _ _ ?_
                clear hK K
                refine wpAny_ready (rs := [7]) (by kernel_rfl) (by simp) ?_
                refine AllReady.cons rfl (fun K hK => ?_) ?_
                · go_simp
                  refine hK _ _ ?_
                  clear hK K
                  refine wpAny_ready (rs := [8]) (by kernel_rfl) (by simp) ?_
                  refine AllReady.cons rfl (fun K hK => ?_) ?_
                  · go_simp
                    refine hK _ _ ?_
                    clear hK K
                    refine wpAny_take (i := 9) (v := undef) rfl (by kernel_rfl) (by kernel_rfl) (by kernel_rfl) (fun _ _ _ h => h) (Or.inr ⟨by rfl, rfl⟩) ?_
                    refine wpAny_take (i := 10) (v := undef) rfl (by kernel_rfl) (by kernel_rfl) (by kernel_rfl) (fun _ _ _ h => h) (Or.inr ⟨by rfl, rfl⟩) ?_
                    refine wpAny_take (i := 11) (v := undef) rfl (by kernel_rfl) (by kernel_rfl) (by kernel_rfl) (fun _ _ _ h => h) (Or.inr ⟨by rfl, rfl⟩) ?_
                    refine wpAny_take (i := 13) (v := undef) rfl (by kernel_rfl) (by kernel_rfl) (by kernel_rfl) (fun _ _ _ h => h) (Or.inr ⟨by rfl, rfl⟩) ?_
                    refine wpAny_take (i := 14) (v := undef) rfl (by kernel_rfl) (by kernel_rfl) (by kernel_rfl) (fun _ _ _ h => h) (Or.inr ⟨by rfl, rfl⟩) ?_
                    refine wpAny_ready (rs := [12, 15]) (by kernel_rfl) (by simp) ?_
                    refine AllReady.cons rfl (fun K hK => ?_) ?_
                    · go_simp
                      refine hK _ _ ?_
                      clear hK K
                      refine wpAny_ready (rs := [15]) (by kernel_rfl) (by simp) ?_
                      refine AllReady.cons rfl (fun K hK => ?_) ?_
                      · go_simp
                        refine hK _ _ ?_
                        clear hK K
                        refine wpAny_ready (rs := [16]) (by kernel_rfl) (by simp) ?_
                        refine AllReady.cons rfl (fun K hK => ?_) ?_
                        · go_simp
                          refine hK _ _ ?_
                          clear hK K
                          refine wpAny_ready (rs := [17]) (by kernel_rfl) (by simp) ?_
                          refine AllReady.cons rfl (fun K hK => ?_) ?_
                          · go_simp
                            refine hK _ _ ?_
                            clear hK K
                            refine wpAny_ready (rs := [18]) (by kernel_rfl) (by simp) ?_
                            refine AllReady.cons rfl (fun K hK => ?_) ?_
                            · go_simp
                              refine hK _ _ ?_
                              clear hK K
                              refine wpAny_ready (rs := [19]) (by kernel_rfl) (by simp) ?_
                              refine AllReady.cons rfl (fun K hK => ?_) ?_
                              · go_simp
                                refine hK _ _ ?_
                                clear hK K
                                refine wpAny_ready (rs := [20]) (by kernel_rfl) (by simp) ?_
                                refine AllReady.cons rfl (fun K hK => ?_) ?_
                                · go_simp
                                  go_wp2_with (go_at_call 10; refine (awake9_any _).mono ?_; rintro e w11 ⟨rfl, hb⟩)
                                  refine wpAny_ready (rs := [21]) (by kernel_rfl) (by simp) ?_
                                  refine AllReady.cons rfl (fun K hK => ?_) ?_
                                  · go_simp
                                    refine hK _ _ ?_
                                    clear hK K
                                    refine wpAny_ready (rs := [22]) (by kernel_rfl) (by simp) ?_
                                    refine AllReady.cons rfl (fun K hK => ?_) ?_
                                    · go_simp
                                      refine hK _ _ ?_
                                      clear hK K
                                      refine wpAny_done (by kernel_rfl) ?_ _
                                      go_wp2
                                      go_ret
                                      exact ⟨rfl, HD.out.bel.trans (hb.mono HD.out.bel.size)⟩
                                    exact AllReady.nil
                                  exact AllReady.nil
                                exact AllReady.nil
                              exact AllReady.nil
                            exact AllReady.nil
                          exact AllReady.nil
                        exact AllReady.nil
                      exact AllReady.nil
                    refine AllReady.cons rfl (fun K hK => ?_) ?_
                    · go_simp
                      refine hK _ _ ?_
                      clear hK K
                      refine wpAny_ready (rs := [12]) (by kernel_rfl) (by simp) ?_
                      refine AllReady.cons rfl (fun K hK => ?_) ?_
                      · go_simp
                        refine hK _ _ ?_
                        clear hK K
                        refine wpAny_ready (rs := [16]) (by kernel_rfl) (by simp) ?_
                        refine AllReady.cons rfl (fun K hK => ?_) ?_
                        · go_simp
                          refine hK _ _ ?_
                          clear hK K
                          refine wpAny_ready (rs := [17]) (by kernel_rfl) (by simp) ?_
                          refine AllReady.cons rfl (fun K hK => ?_) ?_
                          · go_simp
                            refine hK _ _ ?_
                            clear hK K
                            refine wpAny_ready (rs := [18]) (by kernel_rfl) (by simp) ?_
                            refine AllReady.cons rfl (fun K hK => ?_) ?_
                            · go_simp
                              refine hK _ _ ?_
                              clear hK K
                              refine wpAny_ready (rs := [19]) (by kernel_rfl) (by simp) ?_
                              refine AllReady.cons rfl (fun K hK => ?_) ?_
                              · go_simp
                                refine hK _ _ ?_
                                clear hK K
                                refine wpAny_ready (rs := [20]) (by kernel_rfl) (by simp) ?_
                                refine AllReady.cons rfl (fun K hK => ?_) ?_
                                · go_simp
                                  go_wp2_with (go_at_call 10; refine (awake9_any _).mono ?_; rintro e w11 ⟨rfl, hb⟩)
                                  refine wpAny_ready (rs := [21]) (by kernel_rfl) (by simp) ?_
                                  refine AllReady.cons rfl (fun K hK => ?_) ?_
                                  · go_simp
                                    refine hK _ _ ?_
                                    clear hK K
                                    refine wpAny_ready (rs := [22]) (by kernel_rfl) (by simp) ?_
                                    refine AllReady.cons rfl (fun K hK => ?_) ?_
                                    · go_simp
                                      refine hK _ _ ?_
                                      clear hK K
                                      refine wpAny_done (by kernel_rfl) ?_ _
                                      go_wp2
                                      go_ret
                                      exact ⟨rfl, HD.out.bel.trans (hb.mono HD.out.bel.size)⟩
                                    exact AllReady.nil
                                  exact AllReady.nil
                                exact AllReady.nil
                              exact AllReady.nil
                            exact AllReady.nil
                          exact AllReady.nil
                        exact AllReady.nil
                      exact AllReady.nil
                    exact AllReady.nil
                  exact AllReady.nil
                exact AllReady.nil
              exact AllReady.nil
            exact AllReady.nil
          exact AllReady.nil
        exact AllReady.nil
      · have d7 : ((k : Int) == 0) = false := by simp [hk0]
        have HCUT2 : Hid (cutAt (k : Int) (Du.uptoE at_ E []) = O.take k) := Lib.hid (by rw [HO.out]; unfold cutAt; rw [if_pos (by omega), Int.toNat_natCast])
        clear hk0
        refine wp_region_any (by kernel_rfl) ?_
        change wpAny _ _ _ _ _ _ _ (World.drew _)
        refine wpAny_take (i := 0) (v := .pointer (some ⟨X, 0, none⟩)) rfl (by kernel_rfl) (by kernel_rfl) (by kernel_rfl) (fun _ _ _ h => h) (Or.inl ⟨by rfl, fun w => by go_simp⟩) ?_
        refine wpAny_take (i := 1) (v := .int .i64 at_) rfl (by kernel_rfl) (by kernel_rfl) (by kernel_rfl) (fun _ _ _ h => h) (Or.inl ⟨by rfl, fun w => by go_simp⟩) ?_
        refine wpAny_take (i := 3) (v := .slice ao3 n cp3) rfl (by kernel_rfl) (by kernel_rfl) (by kernel_rfl) (fun _ _ _ h => h) (Or.inl ⟨by rfl, fun w => by go_simp⟩) ?_
        refine wpAny_ready (rs := [2]) (by kernel_rfl) (by simp) ?_
        refine AllReady.cons rfl (fun K hK => ?_) ?_
        · go_simp
          go_wp2_with (go_at_call 33; refine (t_upto HD.out partMD (by omega) at_ (-1) IAT).mono ?_; rintro e w9 ⟨v9, rfl, r9, h9, K9⟩; rw [HCUT1.out] at r9; have R1 := Lib.hid r9; have VE1 := Lib.hid (K9.rk HVE.out (fun b e => e) (fun b e => e.2)); have VD1 := Lib.hid (K9.rk HVD.out (fun b e => e) (fun b e => HD.out.own b e)); have HD1 := Lib.hid h9; clear r9 h9 K9 HVD HD HVE)
          refine wpAny_ready (rs := [4]) (by kernel_rfl) (by simp) ?_
          refine AllReady.cons rfl (fun K hK => ?_) ?_
          · go_simp
            go_wp2_with (go_at_call 32; refine (pairs_same R1.out VE1.out (by rw [HN.out]; omega)).mono ?_; rintro e w10 ⟨rfl, n10, rfl⟩; have HD := Lib.hid (HD1.out.drew partD partMD n10); have HVD := Lib.hid (VD1.out.same (W' := w9.drewN n10) (fun _ _ => rfl)); clear R1 VE1 HD1 VD1; generalize w9.drewN n10 = w10 at *)
            refine wpAny_ready (rs := [5]) (by kernel_rfl) (by simp) ?_
            refine AllReady.cons rfl (fun K hK => ?_) ?_
            · go_simp
              refine hK _ _ ?_
              clear hK K
              refine wpAny_ready (rs := [6]) (by kernel_rfl) (by simp) ?_
              refine AllReady.cons rfl (fun K hK => ?_) ?_
              · go_simp
                refine hK _ _ ?_
                clear hK K
                refine wpAny_ready (rs := [7]) (by kernel_rfl) (by simp) ?_
                refine AllReady.cons rfl (fun K hK => ?_) ?_
                · go_simp
                  refine hK _ _ ?_
                  clear hK K
                  refine wpAny_ready (rs := [8]) (by kernel_rfl) (by simp) ?_
                  refine AllReady.cons rfl (fun K hK => ?_) ?_
                  · go_simp
                    refine hK _ _ ?_
                    clear hK K
                    refine wpAny_take (i := 9) (v := .pointer (some ⟨X, 0, none⟩)) rfl (by kernel_rfl) (by kernel_rfl) (by kernel_rfl) (fun _ _ _ h => h) (Or.inl ⟨by rfl, fun w => by go_simp⟩) ?_
                    refine wpAny_take (i := 10) (v := .int .i64 at_) rfl (by kernel_rfl) (by kernel_rfl) (by kernel_rfl) (fun _ _ _ h => h) (Or.inl ⟨by rfl, fun w => by go_simp⟩) ?_
                    refine wpAny_take (i := 11) (v := .int .i64 (k : Int)) rfl (by kernel_rfl) (by kernel_rfl) (by kernel_rfl) (fun _ _ _ h => h) (Or.inl ⟨by rfl, fun w => by go_simp⟩) ?_
                    refine wpAny_take (i := 13) (v := .slice ao3 n cp3) rfl (by kernel_rfl) (by kernel_rfl) (by kernel_rfl) (fun _ _ _ h => h) (Or.inl ⟨by rfl, fun w => by go_simp⟩) ?_
                    refine wpAny_take (i := 14) (v := .int .i64 (k : Int)) rfl (by kernel_rfl) (by kernel_rfl) (by kernel_rfl) (fun _ _ _ h => h) (Or.inl ⟨by rfl, fun w => by go_simp⟩) ?_
                    refine wpAny_ready (rs := [12, 15]) (by kernel_rfl) (by simp) ?_
                    refine AllReady.cons rfl (fun K hK => ?_) ?_
                    · go_simp
                      go_wp2_with (go_at_call 33; refine (t_upto HD.out partMD (by omega) at_ (k : Int) IAT).mono ?_; rintro e w9 ⟨v9, rfl, r9, h9, K9⟩; rw [HCUT2.out] at r9; have R2 := Lib.hid r9;  have VD2 := Lib.hid (K9.rk HVD.out (fun b e => e) (fun b e => HD.out.own b e)); have HD2 := Lib.hid h9; clear r9 h9 K9 HVD HD)
                      refine wpAny_ready (rs := [15]) (by kernel_rfl) (by simp) ?_
                      refine AllReady.cons rfl (fun K hK => ?_) ?_
                      · go_simp
                        refine hK _ _ ?_
                        clear hK K
                        refine wpAny_ready (rs := [16]) (by kernel_rfl) (by simp) ?_
                        refine AllReady.cons rfl (fun K hK => ?_) ?_
                        · go_simp
                          go_wp2_with (go_at_call 32; refine (pairs_same R2.out VD2.out (by rw [List.length_take, HN.out]; omega)).mono ?_; rintro e w11 ⟨rfl, n11, rfl⟩; have HD := Lib.hid (HD2.out.drew partD partMD n11); clear R2 VD2 HD2; generalize w9.drewN n11 = w12 at *)
                          refine wpAny_ready (rs := [17]) (by kernel_rfl) (by simp) ?_
                          refine AllReady.cons rfl (fun K hK => ?_) ?_
                          · go_simp
                            refine hK _ _ ?_
                            clear hK K
                            refine wpAny_ready (rs := [18]) (by kernel_rfl) (by simp) ?_
                            refine AllReady.cons rfl (fun K hK => ?_) ?_
                            · go_simp
                              refine hK _ _ ?_
                              clear hK K
                              refine wpAny_ready (rs := [19]) (by kernel_rfl) (by simp) ?_
                              refine AllReady.cons rfl (fun K hK => ?_) ?_
                              · go_simp
                                refine hK _ _ ?_
                                clear hK K
                                refine wpAny_ready (rs := [20]) (by kernel_rfl) (by simp) ?_
                                refine AllReady.cons rfl (fun K hK => ?_) ?_
                                · go_simp
                                  go_wp2_with (go_at_call 10; refine (awake9_any _).mono ?_; rintro e w11 ⟨rfl, hb⟩)
                                  refine wpAny_ready (rs := [21]) (by kernel_rfl) (by simp) ?_
                                  refine AllReady.cons rfl (fun K hK => ?_) ?_
                                  · go_simp
                                    refine hK _ _ ?_
                                    clear hK K
                                    refine wpAny_ready (rs := [22]) (by kernel_rfl) (by simp) ?_
                                    refine AllReady.cons rfl (fun K hK => ?_) ?_
                                    · go_simp
                                      refine hK _ _ ?_
                                      clear hK K
                                      refine wpAny_done (by kernel_rfl) ?_ _
                                      go_wp2
                                      go_ret
                                      exact ⟨rfl, HD.out.bel.trans (hb.mono HD.out.bel.size)⟩
                                    exact AllReady.nil
                                  exact AllReady.nil
                                exact AllReady.nil
                              exact AllReady.nil
                            exact AllReady.nil
                          exact AllReady.nil
                        exact AllReady.nil
                      exact AllReady.nil
                    refine AllReady.cons rfl (fun K hK => ?_) ?_
                    · go_simp
                      refine hK _ _ ?_
                      clear hK K
                      refine wpAny_ready (rs := [12]) (by kernel_rfl) (by simp) ?_
                      refine AllReady.cons rfl (fun K hK => ?_) ?_
                      · go_simp
                        go_wp2_with (go_at_call 33; refine (t_upto HD.out partMD (by omega) at_ (k : Int) IAT).mono ?_; rintro e w9 ⟨v9, rfl, r9, h9, K9⟩; rw [HCUT2.out] at r9; have R2 := Lib.hid r9;  have VD2 := Lib.hid (K9.rk HVD.out (fun b e => e) (fun b e => HD.out.own b e)); have HD2 := Lib.hid h9; clear r9 h9 K9 HVD HD)
                        refine wpAny_ready (rs := [16]) (by kernel_rfl) (by simp) ?_
                        refine AllReady.cons rfl (fun K hK => ?_) ?_
                        · go_simp
                          go_wp2_with (go_at_call 32; refine (pairs_same R2.out VD2.out (by rw [List.length_take, HN.out]; omega)).mono ?_; rintro e w11 ⟨rfl, n11, rfl⟩; have HD := Lib.hid (HD2.out.drew partD partMD n11); clear R2 VD2 HD2; generalize w9.drewN n11 = w12 at *)
                          refine wpAny_ready (rs := [17]) (by kernel_rfl) (by simp) ?_
                          refine AllReady.cons rfl (fun K hK => ?_) ?_
                          · go_simp
                            refine hK _ _ ?_
                            clear hK K
                            refine wpAny_ready (rs := [18]) (by kernel_rfl) (by simp) ?_
                            refine AllReady.cons rfl (fun K hK => ?_) ?_
                            · go_simp
                              refine hK _ _ ?_
                              clear hK K
                              refine wpAny_ready (rs := [19]) (by kernel_rfl) (by simp) ?_
                              refine AllReady.cons rfl (fun K hK => ?_) ?_
                              · go_simp
                                refine hK _ _ ?_
                                clear hK K
                                refine wpAny_ready (rs := [20]) (by kernel_rfl) (by simp) ?_
                                refine AllReady.cons rfl (fun K hK => ?_) ?_
                                · go_simp
                                  go_wp2_with (go_at_call 10; refine (awake9_any _).mono ?_; rintro e w11 ⟨rfl, hb⟩)
                                  refine wpAny_ready (rs := [21]) (by kernel_rfl) (by simp) ?_
                                  refine AllReady.cons rfl (fun K hK => ?_) ?_
                                  · go_simp
                                    refine hK _ _ ?_
                                    clear hK K
                                    refine wpAny_ready (rs := [22]) (by kernel_rfl) (by simp) ?_
                                    refine AllReady.cons rfl (fun K hK => ?_) ?_
                                    · go_simp
                                      refine hK _ _ ?_
                                      clear hK K
                                      refine wpAny_done (by kernel_rfl) ?_ _
                                      go_wp2
                                      go_ret
                                      exact ⟨rfl, HD.out.bel.trans (hb.mono HD.out.bel.size)⟩
                                    exact AllReady.nil
                                  exact AllReady.nil
                                exact AllReady.nil
                              exact AllReady.nil
                            exact AllReady.nil
                          exact AllReady.nil
                        exact AllReady.nil
                      exact AllReady.nil
                    exact AllReady.nil
                  exact AllReady.nil
                exact AllReady.nil
              exact AllReady.nil
            exact AllReady.nil
          exact AllReady.nil
        exact AllReady.nil
end Go.Proofs.Ytjaejdenboggpaa

/- The frame of ListsLRU and ListsDue: an argument that is a list of acts. -/
set_option maxRecDepth 100000
namespace Go.Proofs.Ytjaejdenboggpaa
open Go.ChangeShapes Go.WideShapes Go.ChangeAt Go.RowKit
section
variable {H : Type} {enc : TypeId × Value → H} {W : World}
theorem act_in9 {fuel : Nat} {cs : List Value} {x : DataW H × List MemPlace} (hf : DataW.trod enc Try.prog W 0 (fun _ => true) true fuel 31 cs = some x) :
    ∃ a : Ac9, cs = encA9 a ∧ (-9223372036854775808 ≤ a.kind ∧ a.kind ≤ 9223372036854775807) ∧ (-9223372036854775808 ≤ a.k ∧ a.k ≤ 9223372036854775807) ∧ (-9223372036854775808 ≤ a.at_ ∧ a.at_ ≤ 9223372036854775807) := by
  obtain ⟨ys, n, _, rfl, hl, hlen, hg⟩ := DataW.trod_struct Try.underlying31 hf
  have hl3 : cs.length = 3 := hl.trans (by kernel_rfl)
  match cs, hl3 with
  | [c0, c1, c2], _ =>
    have k1 : Try.prog.cellsOf 3 = 1 := by kernel_rfl
    match ys, hlen with
    | [y0, y1, y2], _ =>
      have g0 := hg 0 _ rfl
      have g1 := hg 1 _ rfl
      have g2 := hg 2 _ rfl
      simp [k1] at g0 g1 g2
      obtain ⟨z0, e0, _, h0⟩ := DataW.trod_int Try.underlying3 g0
      obtain ⟨z1, e1, _, h1⟩ := DataW.trod_int Try.underlying3 g1
      obtain ⟨z2, e2, _, h2⟩ := DataW.trod_int Try.underlying3 g2
      obtain rfl : c0 = .int .i64 z0 := by simpa using e0
      obtain rfl : c1 = .int .i64 z1 := by simpa using e1
      obtain rfl : c2 = .int .i64 z2 := by simpa using e2
      exact ⟨⟨z0, z1, z2⟩, rfl, bounds_i64 h0, bounds_i64 h1, bounds_i64 h2⟩
theorem arg_acts9 {b0 : Nat} {v : Value} {d : DataW H} {ps : List MemPlace} (hval : Value.okWide Try.prog W .any b0 22 v) (hd : DataW.Trod enc Try.prog W 0 (fun _ => true) true 22 v d ps) :
    ∃ l : List Ac9, RK encA9 (fun k => k < W.heap.size) v l W ∧ (∀ a ∈ l, (-9223372036854775808 ≤ a.kind ∧ a.kind ≤ 9223372036854775807) ∧ (-9223372036854775808 ≤ a.k ∧ a.k ≤ 9223372036854775807) ∧ (-9223372036854775808 ≤ a.at_ ∧ a.at_ ≤ 9223372036854775807)) ∧ l.length ≤ maxLen := by
  obtain ⟨a0, len, cap, rfl⟩ := okWide_slice Try.underlying22 hval
  obtain ⟨fuel, hf⟩ := hd
  rcases Go.Deep.open_slice Try.underlying22 hf with ⟨hcs, _⟩ | ⟨a, len', cap', m, n, D, Pl, hcs, _, hle, hmax, hm, _, hi⟩
  · simp [Value.cells] at hcs
    obtain ⟨rfl, rfl, rfl⟩ := hcs
    exact ⟨[], RK.nil _ _ _, by simp, zero_maxLen⟩
  · simp [Value.cells] at hcs
    obtain ⟨rfl, rfl, rfl⟩ := hcs
    simp only [if_true] at hm
    subst hm
    have k3 : Try.prog.cellsOf 31 = 3 := by kernel_rfl
    have hall : ∀ i, i < len → ∃ x : Ac9, (∀ j, j < 3 → W.cell? ((a.add (i * 3)).add j) = (encA9 x)[j]?) ∧ (-9223372036854775808 ≤ x.kind ∧ x.kind ≤ 9223372036854775807) ∧ (-9223372036854775808 ≤ x.k ∧ x.k ≤ 9223372036854775807) ∧ (-9223372036854775808 ≤ x.at_ ∧ x.at_ ≤ 9223372036854775807) := fun i hil => by
      obtain ⟨cs', hc, ht⟩ := hi i (by omega)
      rw [k3] at hc
      obtain ⟨_, _, hat⟩ := World.cells?_some hc
      obtain ⟨x, rfl, r⟩ := act_in9 ht
      exact ⟨x, hat, r⟩
    obtain ⟨F, hF⟩ : ∃ F : Nat → Ac9, ∀ i, i < len → (∀ j, j < 3 → W.cell? ((a.add (i * 3)).add j) = (encA9 (F i))[j]?) ∧ (-9223372036854775808 ≤ (F i).kind ∧ (F i).kind ≤ 9223372036854775807) ∧ (-9223372036854775808 ≤ (F i).k ∧ (F i).k ≤ 9223372036854775807) ∧ (-9223372036854775808 ≤ (F i).at_ ∧ (F i).at_ ≤ 9223372036854775807) :=
      ⟨fun i => if h : i < len then (hall i h).choose else ⟨0, 0, 0⟩, fun i h => by have h5 := (hall i h).choose_spec; simp only [h, dite_true]; exact h5⟩
    refine ⟨(List.range len).map F, ?_, fun x hx => ?_, by simp; omega⟩
    · by_cases h0 : 0 < len
      · obtain ⟨b, off, spot⟩ := a
        have c00 := (hF 0 h0).1 0 (by omega)
        have hspot : spot = none := by simpa [Addr.add] using World.cell?_spot (show W.cell? _ = some _ from c00)
        subst hspot
        have hz := RK.ofEach (enc := encA9) encA9_len (by omega) (l := (List.range len).map F) (W := W) (b := b) (off := off) (cap := m) (by simp; omega) (fun i hi f hf => by
          rw [List.length_map, List.length_range] at hi
          have h1 := (hF i hi).1 f hf
          rw [add_plain, add_plain, Nat.add_assoc] at h1
          rw [h1, List.getElem_map, List.getElem_range])
        rw [List.length_map, List.length_range] at hz
        exact hz
      · obtain rfl : len = 0 := by omega
        exact ⟨some a, m, rfl, Nat.zero_le _, fun j u hu => by simp at hu⟩
    · obtain ⟨i, hi, rfl⟩ := List.mem_map.1 hx
      exact (hF i (List.mem_range.1 hi)).2
end
end Go.Proofs.Ytjaejdenboggpaa

/- whatever is set and dropped, each act tells, and what is due by then, is as the document says
   Conditions: those of the row, none beside. -/
namespace Go.Proofs.Ytjaejdenboggpaa.listsDue
open Go.ChangeShapes Go.WideShapes Go.ChangeAt Go.RowKit

set_option maxRecDepth 100000 in
theorem contract (H : Type) (enc : TypeId × Value → H) (W : World) (base : Nat) (args : Array Value) (ds gs : List (DataW H)) (before : List MemPlace)
    (hval : ∀ (j : Nat) t v, Try.f4.params[j]? = some t → args[j]? = some v → Value.okWide Try.prog W .any base t v)
    (hW : DataW.Whole enc Try.prog Try.f4.params.toList Rows.listsDueSpec.vars false W args.toList ds gs before) (_hL : laidMetH Try.prog laidList W) :
    Calls Try.prog 4 args W fun e W' => ∃ v, e = .returned v ∧ Rows.listsDueSpec.post enc Try.prog Try.f4 false true false false W args v W' := by
  have hW' := hW
  obtain ⟨p, q, hA0, hV, rfl, _, _⟩ := hW
  have hA : DataW.TrodAll enc Try.prog W 0 (fun _ => true) true Try.f4.params.toList args.toList ds p := hA0
  clear hA0
  rw [Try.params4] at hA hval
  obtain ⟨v0, vs0, d0, ds0, p0, q0, hargs0, rfl, rfl, h0, r0⟩ := trodAll_cons hA
  obtain ⟨v1, vs1, d1, ds1, p1, q1, hargs1, rfl, rfl, h1, r1⟩ := trodAll_cons r0
  subst hargs1
  obtain ⟨v2, vs2, d2, ds2, p2, q2, hargs2, rfl, rfl, h2, r2⟩ := trodAll_cons r1
  subst hargs2
  obtain ⟨rfl, rfl, rfl⟩ := trodAll_nil r2
  obtain rfl : args = #[v0, v1, v2] := by cases args; simp_all
  obtain ⟨rfl, rfl⟩ := trodVars_none hV
  obtain ⟨L0, hr0, hb0, hl0⟩ := arg_acts9 (hval 0 _ v0 rfl rfl) h0
  obtain ⟨z1, rfl, hz1⟩ := arg_int (hval 1 _ _ rfl rfl) h1
  obtain ⟨z2, rfl, hz2⟩ := arg_int (hval 2 _ _ rfl rfl) h2
  refine (due9_any v0 L0 z1 z2 W hz1 hz2 hr0 hb0 hl0).mono fun e W' ⟨he, hbl⟩ => ?_
  exact ⟨_, he, law_post hW' rfl hbl rfl rfl (fun t ht => readT9 t (by rw [Try.params4] at ht; exact (show ∀ t ∈ (#[22, 3, 3] : Array TypeId).toList, t ∈ [3, 27, 22] by decide) t ht))⟩

set_option maxRecDepth 100000 in
theorem reads (os : Os) {H : Type} (enc : TypeId × Value → H) : ∃ places, DataW.whole enc Try.prog ((laidWorld os).forCall (fun _ _ => 0) ⟨#[], #[.slice none 0 0, .int .i64 0, .int .i64 0], []⟩).memory Try.f4.params.toList Rows.listsDueSpec.vars false (#[.slice none 0 0, .int .i64 0, .int .i64 0] : Array Value).toList 8 = some ([.nil, .lit (.int .i64 0), .lit (.int .i64 0)], [], places) :=
  ⟨[], by kernel_rfl⟩

set_option maxRecDepth 100000 in
theorem lifted (os : Os) (started : os.Started) (H : Type) (enc : TypeId × Value → H) (F : Stop.Interp) :
    ReturnsInHanded {} Try.checked os 4 .any ((OpenSpec.ofChange Rows.listsDueSpec).preRow enc Try.prog Try.f4 Rows.listsDueRow.domain false Rows.listsDueRow.laid) (((OpenSpec.ofChange Rows.listsDueSpec).at F).post enc Try.prog Try.f4 false true false false) := by
  obtain ⟨places, hx⟩ := reads os enc
  refine returnsInHanded_of_row (C := Try.checked) (s := OpenSpec.ofChange Rows.listsDueSpec) own started (by kernel_rfl) Try.func4
    (witness_row_atRef (enc := enc) (C := Try.checked) false (laidWorld os) #[.slice none 0 0, .int .i64 0, .int .i64 0] rfl (by kernel_rfl) (by kernel_rfl) (by kernel_rfl)
      (OpenSpec.preRow_of_cond 8 hx (by kernel_rfl) (fun k hk => by cases hk) (by kernel_rfl) (laid_met os _))) ?_
  intro W base args ds gs before hval hW _ _ _ hL _ _
  exact contract H enc W base args ds gs before hval hW hL

theorem said : Rows.ListsDueSaid :=
  OpenClaim.holds_of_cond 4 Try.f4 rfl rfl rfl rfl rfl rfl rfl ⟨rfl, rfl, rfl, rfl, rfl⟩ rfl rfl rfl rfl rfl (by kernel_rfl) Try.func4 (by kernel_rfl)
    (of_decide_eq_true (by kernel_rfl)) (by unfold Func.isWrapper; first | (rw [if_pos (by decide +kernel)]; kernel_rfl) | (rw [if_neg (by decide +kernel)]; exact ⟨rfl, rfl⟩))
    (fun os started H enc _ F => by rw [OpenClaim.pre_eq_preRow]; exact lifted os started H enc F)
end Go.Proofs.Ytjaejdenboggpaa.listsDue
