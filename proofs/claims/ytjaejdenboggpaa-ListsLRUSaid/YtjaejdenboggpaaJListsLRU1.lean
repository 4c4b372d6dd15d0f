/- ListsLRU of package freshetlaw9 (whatever is added, used and dropped, each act tells, and who would go first, is as the document says) returns true at every int, list of acts and int.
   Conditions: those of the row, none beside. -/
import Derived.Deep.RegionLaw
import Derived.LoopTactic
import Derived.Deep.CutRange
import Derived.Deep.CutBlock
import Derived.Deep.RegionWith
import Derived.Test.YtjaejdenboggpaaJB23
import Derived.Test.YtjaejdenboggpaaJB26
import Derived.Test.YtjaejdenboggpaaJB27
/- The document's own LRU: Touch of one who is on probation. -/
set_option maxRecDepth 100000
namespace Go.Proofs.Ytjaejdenboggpaa
open Go Go.RowKit Go.Shelf
attribute [local go_sem] Oper.semAt_some
section
variable {x : Nat → Prop} {m : Nat} {most : Int} {P Q : List Int} {w w' : World}
set_option maxHeartbeats 16000000 in
theorem mltouch_P (h : ML x m most P Q w) (k : Int) (hl : P.length + Q.length < 90000) (h1 : k ∈ P) (h2 : k ∉ Q) (hm : ¬ x m) {PP QQ : List Int} (hPQ : touch (max most 0) P Q k = (PP, QQ)) :
    Calls Try.prog 15 #[.pointer (some ⟨m, 0, none⟩), .int .i64 k] w fun e w' => e = .returned (.bool true) ∧ Trn (fun b => b = m) w w' ∧ ML (fun b => w.heap.size ≤ b) m most PP QQ w' := by
  have HPQ := Lib.hid (show (if ((Q.length + 1 : Nat) : Int) ≤ max most 0 then (P.erase k, Q ++ [k]) else (P.erase k ++ (Q ++ [k]).take 1, (Q ++ [k]).drop 1)) = (PP, QQ) by rw [← hPQ]; unfold touch; rw [if_neg h2, if_pos h1])
  clear hPQ
  obtain ⟨v, u, hBk, hp, hq⟩ := h.ex
  have hml := hBk.lt
  have c1 := hBk.cell (i := 1) rfl
  have c2 := hBk.cell (i := 2) rfl
  have p1 := place_any hp k (by omega)
  have p2 := place_any hq k (by omega)
  rw [plc_none h2] at p2
  obtain ⟨j, hj, e1, e2⟩ := plc_ge h1
  rw [e1] at p1
  obtain ⟨R, hR⟩ : ∃ R, P.take j ++ P.drop (j + 1) = R := ⟨_, rfl⟩
  rw [e2, hR] at HPQ
  have hRl : R.length ≤ P.length := by rw [← hR]; simp; omega
  have d0 : decide ((j : Int) < 0) = false := by simp
  have ho := out_any hp hj (by omega)
  rw [hR] at ho
  clear e1 e2 hR
  go_enter Try.func15, Try.ntmps15
  go_wp2_with fail
  refine p2.mono ?_
  rintro e w1 ⟨rfl, rfl⟩
  go_wp2_with fail
  refine p1.mono ?_
  rintro e w1 ⟨rfl, rfl⟩
  go_wp2_with fail
  refine ho.mono ?_
  rintro e w2 ⟨v2, rfl, o2, b2⟩
  obtain ⟨a2, cp2, e3, _⟩ := ownK_form o2
  subst e3
  have k1 := hBk.kept (b2.block _ hml)
  have f1 := k1.frozen 1
  have g1 := k1.cell (i := 1) rfl
  -- the world behind the first store
  obtain ⟨W3, hW3⟩ : ∃ W3, w2.setCell ⟨m, 1, none⟩ (.slice a2 R.length cp2) = W3 := ⟨_, rfl⟩
  have k3 : Blk W3 m [.int .i64 most, .slice a2 R.length cp2, u] 29 := by rw [← hW3]; exact k1.set 1 _
  have o3 : OwnK encZ 1 3 w.heap.size (.slice a2 R.length cp2) R W3 := by
    rw [← hW3]
    exact own_kept o2 fun g e => Below.heap_setCell _ ⟨m, 1, none⟩ _ g (fun e2 => by have h9 := own_low o2 e; have e3 : g = m := e2; omega)
  have q3 : RK encZ x u Q W3 := by
    rw [← hW3]
    exact (hq.below b2).same fun b hb => Below.heap_setCell _ ⟨m, 1, none⟩ _ b (fun e2 => hm (show x m from (show b = m from e2) ▸ hb))
  have t3 : Trn (fun b => b = m) w W3 := by rw [← hW3]; exact (Trn.of_below b2).trans (Trn.set (f := grow (fun b => b = m) w w2) k1 (.inl rfl) 1 _)
  have hz3 := t3.size
  have K3 := Lib.hid k3
  have O3 := Lib.hid o3
  have Q3 := Lib.hid q3
  have T3 := Lib.hid t3
  have hb0 : Below W3.heap.size W3 (W3.alloc (.cells #[] 3)) := (Below.refl _ _).alloc (Nat.le_refl _) _
  have z2 := (k3.kept (hb0.block _ k3.lt)).cell (i := 2) rfl
  have o0 := own_lit0z (n := W3.heap.size) W3 (Nat.le_refl _)
  have r0 := q3.below hb0
  clear hBk hp hq c1 c2 ho o2 k1 h k3 o3 q3 t3
  by_cases hroom : ((Q.length + 1 : Nat) : Int) ≤ max most 0
  all_goals go_wp2_with (first
    | (at_builtin; (
       refine wpList_apR encZ_len (by omega) encZ_one z_under infoInt rfl (by omega) rfl _ _ rfl W3.heap.size _ [] rfl o0 u Q rfl r0 (by simp; omega) hb0.size ?_
       intro v4 w4 ho4 hg4 _
       rw [List.nil_append] at ho4
       have hb4 := hb0.trans (below_ownK o0 hg4 hb0.size)
       clear o0 r0 hg4 hb0 z2))
    | (at_builtin; (
       refine wpList_apR encZ_len (by omega) encZ_one z_under infoInt rfl (by omega) rfl _ _ rfl W3.heap.size v4 Q rfl (ownK_alloc ho4 _) (.slice (some ⟨w4.heap.size, 0, none⟩) 1 1) [k] rfl (RK.oneN (enc := encZ) k 3 _ _ (by simp) _ rfl) (by simp; omega) (Nat.le_trans hb4.size (by simp)) ?_
       intro v5 w5 ho5 hg5 _
       have hb5 := (hb4.alloc hb4.size _).trans (below_ownK (ownK_alloc ho4 _) hg5 (Nat.le_trans hb4.size (by simp)))
       have cl := K3.out.kept (hb5.block _ K3.out.lt)
       have l2 := cl.cell (i := 2) rfl
       have kf := cl.frozen
       obtain ⟨a5, c5, e5, _⟩ := ownK_form ho5
       rw [show (Q ++ [k]).length = Q.length + 1 by simp] at e5
       subst e5
       clear ho4 hb4))
    | fail)
  all_goals
    have m3 : Blk (w5.setCell ⟨m, 2, none⟩ (.slice a5 (Q.length + 1) c5)) m [.int .i64 most, .slice a2 R.length cp2, .slice a5 (Q.length + 1) c5] 29 := cl.set 2 _
    have o6 : OwnK encZ 1 3 w.heap.size (.slice a2 R.length cp2) R (w5.setCell ⟨m, 2, none⟩ (.slice a5 (Q.length + 1) c5)) := own_kept O3.out fun g e => by
      obtain ⟨c, hc⟩ := own_blk' O3.out e
      have h9 := own_low O3.out e
      exact (Below.heap_setCell _ ⟨m, 2, none⟩ _ g (fun e2 => by have e3 : g = m := e2; omega)).trans (hb5.block g hc.lt)
    have o7 : OwnK encZ 1 3 W3.heap.size (.slice a5 (Q.length + 1) c5) (Q ++ [k]) (w5.setCell ⟨m, 2, none⟩ (.slice a5 (Q.length + 1) c5)) := own_kept ho5 fun g e => Below.heap_setCell _ ⟨m, 2, none⟩ _ g (fun e2 => by have h9 := own_low ho5 e; have e3 : g = m := e2; omega)
    have l3 : ∀ g, (Value.slice a2 R.length cp2).ownBlock = some g → g < W3.heap.size := fun g e => by
      obtain ⟨c, hc⟩ := own_blk' O3.out e
      exact hc.lt
    have L3 := Lib.hid l3
    clear l3
    have t7 : Trn (fun b => b = m) w (w5.setCell ⟨m, 2, none⟩ (.slice a5 (Q.length + 1) c5)) := T3.out.trans ((Trn.of_below hb5).trans (Trn.set (f := grow (grow (fun b => b = m) w W3) W3 w5) cl (.inl (.inl rfl)) 2 _))
    clear cl l2 kf ho5 hg5 hb5 K3 O3 Q3 T3
    generalize w5.setCell ⟨m, 2, none⟩ (.slice a5 (Q.length + 1) c5) = W7 at *
    have n2 := m3.cell (i := 2) rfl
    have n1 := m3.cell (i := 1) rfl
    have n0 := m3.cell (i := 0) rfl
    have f1 := m3.frozen 1
    have f2 := m3.frozen 2
    have M3 := Lib.hid m3
    have O6 := Lib.hid o6
    have O7 := Lib.hid o7
    have T7 := Lib.hid t7
    clear m3 o6 o7 t7
  · have d9 : decide ((Q.length : Int) + 1 > max most 0) = false := by rw [decide_eq_false_iff_not]; omega
    go_wp2_with fail
    go_region
    have M4 := Lib.hid (M3.out.kept (W' := W7.drew) rfl)
    have O64 := Lib.hid (own_kept (W' := W7.drew) O6.out fun _ _ => rfl)
    have O74 := Lib.hid (own_kept (W' := W7.drew) O7.out fun _ _ => rfl)
    have T4 := Lib.hid (T7.out.trans (Trn.drew (f := grow (fun b => b = m) w W7) W7 1))
    have hP2 := HPQ.out
    rw [if_pos hroom] at hP2
    cases hP2
    go_wp2
    go_ret
    exact ⟨rfl, T4.out, ⟨_, _, M4.out, RK.own O64.out (fun b e => own_low O64.out e), RK.own O74.out (fun b e => Nat.le_trans hz3 (own_low O74.out e))⟩⟩
  · have d9 : decide ((Q.length : Int) + 1 > max most 0) = true := by rw [decide_eq_true_iff]; omega
    have hP2 := HPQ.out
    rw [if_neg (by omega)] at hP2
    have HP2 := Lib.hid hP2
    clear hP2
    go_wp2_with fail
    go_region
    obtain ⟨y, Y, hY⟩ : ∃ y Y, Q ++ [k] = y :: Y := by
      cases Q with
      | nil => exact ⟨k, [], rfl⟩
      | cons y Y => exact ⟨y, Y ++ [k], rfl⟩
    have hYl : Y.length = Q.length := by have := congrArg List.length hY; simpa using this.symm
    have O7' := O7.out
    rw [hY] at O7'
    obtain ⟨g5, rfl⟩ : ∃ g5, a5 = some ⟨g5, 0, none⟩ := by
      obtain ⟨a, c, e, f⟩ := ownK_form O7'
      obtain ⟨g, rfl⟩ := f (by simp)
      injection e with e1
      exact ⟨g, e1⟩
    have y0 : W7.cell? ⟨g5, 0, none⟩ = some (.int .i64 y) := by
      obtain ⟨b, off, e, c⟩ := rk_cell (n := Q.length + 1) (cap := c5) (ao := some ⟨g5, 0, none⟩) (RK.own O7' (x := fun _ => True) (fun _ _ => trivial)) (i := 0) (by simp)
      cases e
      exact c
    have HYL := Lib.hid hYl
    have O7Y := Lib.hid O7'
    have hP2 := HP2.out
    rw [hY] at hP2
    have hP3 : R ++ [y] = PP ∧ Y = QQ := Prod.mk.inj hP2
    have HP3 := Lib.hid hP3
    have h0Q : 0 < Q.length + 1 := by omega
    have hm7 := M3.out.lt
    have hg57 : g5 < W7.heap.size := by obtain ⟨c, hc⟩ := own_blk O7Y.out; exact hc.lt
    have hRb : R.length ≤ 90000 := by omega
    have hz6 : w.heap.size ≤ W7.heap.size := T7.out.size
    clear hY hYl O7' O7 HPQ hP2 hP3
    go_wp2_with fail
    all_goals go_region_law (
      refine step_apRK encZ_len (by omega) encZ_one z_under infoInt rfl (by omega) (by rfl) (.tmp 70) (.tmp 77) (by rfl) w.heap.size (.slice a2 R.length cp2) R (by rfl) (own_kept (ownK_alloc O6.out (.cells #[.int .i64 y] 3)) (fun _ _ => rfl)) (.slice (some ⟨W7.heap.size, 0, none⟩) 1 1) [y] (by rfl) ((RK.oneN (enc := encZ) y 3 W7 _ rfl #[.int .i64 y] rfl).same (fun _ _ => rfl)) (by simp; omega) (by simp; omega) ?_
      intro v8 w8 ho8 hg8 hv8
      obtain ⟨a8, c8, e8, _⟩ := ownK_form ho8
      rw [show (R ++ [y]).length = R.length + 1 by simp] at e8
      subst e8
      have kb : ∀ b, b < W7.heap.size → (Value.slice a2 R.length cp2).ownBlock ≠ some b → w8.heap[b]? = W7.heap[b]? := fun b hb hn => (hg8.block b (by simp; omega) (fun e => hn e.symm)).trans (Below.heap_alloc W7 (.cells #[.int .i64 y] 3) b hb)
      have M8 := M3.out.kept (kb m M3.out.lt (fun e => by have := own_low O6.out e; omega))
      have n8 := M8.cell (i := 1) rfl
      have f8 := M8.frozen 1
      have HM8 := Lib.hid M8
      have HO8 := Lib.hid ho8
      have HV8 := Lib.hid (own_kept O7Y.out fun b e => by
        obtain ⟨c, hc⟩ := own_blk' O7Y.out e
        exact kb b hc.lt fun e2 => by have h1 := L3.out b e2; have h2 := own_low O7Y.out e; omega)
      have HT8 := Lib.hid (T7.out.trans (show Trn (grow (fun b => b = m) w W7) W7 w8 from ⟨hg8.os, hg8.tape, hg8.output, Nat.le_trans (by simp) hg8.size, fun b hb hn => kb b hb (fun e => hn (.inr ⟨own_low O6.out e, hb⟩)), fun b o hb hk => (kb b (Array.getElem?_eq_some_iff.1 hb).1 (fun e => by
        obtain ⟨c, hc⟩ := own_blk' O6.out e
        rw [show W7.heap[b]? = _ from hc] at hb
        cases hb
        cases hk)).trans hb⟩))
      clear M8 kb ho8 hg8 hv8)
    all_goals
      have M9 := HM8.out.set 1 (.slice a8 (R.length + 1) c8)
      have O9 : OwnK encZ 1 3 w.heap.size (.slice a8 (R.length + 1) c8) (R ++ [y]) (w8.setCell ⟨m, 1, none⟩ (.slice a8 (R.length + 1) c8)) := own_kept HO8.out fun g e => Below.heap_setCell _ ⟨m, 1, none⟩ _ g (fun e2 => by have h9 := own_low HO8.out e; have e3 : g = m := e2; omega)
      have V9 : OwnK encZ 1 3 W3.heap.size (.slice (some ⟨g5, 0, none⟩) (Q.length + 1) c5) (y :: Y) (w8.setCell ⟨m, 1, none⟩ (.slice a8 (R.length + 1) c8)) := own_kept HV8.out fun g e => Below.heap_setCell _ ⟨m, 1, none⟩ _ g (fun e2 => by have h9 := own_low HV8.out e; have e3 : g = m := e2; omega)
      have T9 := HT8.out.trans (Trn.set (f := grow (fun b => b = m) w w8) HM8.out (.inl rfl) 1 (.slice a8 (R.length + 1) c8))
      have hz9 : w.heap.size ≤ (w8.setCell ⟨m, 1, none⟩ (.slice a8 (R.length + 1) c8)).heap.size := T9.size
      clear HM8 HO8 HV8 HT8 n8 f8 T7 O6 O7Y M3 y0 n0 n1 n2
      simp only [List.set_cons_succ, List.set_cons_zero] at M9
      generalize w8.setCell ⟨m, 1, none⟩ (.slice a8 (R.length + 1) c8) = W9 at *
      obtain ⟨vd, hd1, hd2⟩ := run_dropK (P := Try.prog) encZ_len z_under infoInt (RK.own V9 (x := fun b => W3.heap.size ≤ b) (fun b e => own_low V9 e)) (m := 1) (by simp)
      simp only [List.drop_succ_cons, List.drop_zero] at hd2
      have hd1 : ∀ W' : World, (Instr.slice 27 (.slice (some ⟨g5, 0, none⟩) (Q.length + 1) c5) (some (.int .i64 1)) none none).run Try.prog W' = .ok vd W' := hd1
      have hb0 : Below W9.heap.size W9 (W9.alloc (.cells #[] 3)) := (Below.refl _ _).alloc (Nat.le_refl _) _
      have z2 := (M9.kept (hb0.block _ M9.lt)).cell (i := 2) rfl
      have o0 := own_lit0z (n := W9.heap.size) W9 (Nat.le_refl _)
      have r0 := hd2.below hb0
      have HYQ := HYL.out
      have M9H := Lib.hid M9
      have O9H := Lib.hid O9
      have T9H := Lib.hid T9
      clear M9 O9 T9 V9 hd2
      go_wp2_with (at_builtin; (
        refine wpList_apR encZ_len (by omega) encZ_one z_under infoInt rfl (by omega) rfl _ _ rfl W9.heap.size _ [] rfl o0 vd Y rfl r0 (by simp; omega) hb0.size ?_
        intro v12 w12 ho12 hg12 _
        rw [List.nil_append] at ho12
        have hb12 := hb0.trans (below_ownK o0 hg12 hb0.size)
        have cl := M9H.out.kept (hb12.block _ M9H.out.lt)
        have l2 := cl.cell (i := 2) rfl
        have kf := cl.frozen 2
        obtain ⟨a12, c12, e12, _⟩ := ownK_form ho12
        subst e12
        have CL := Lib.hid cl
        have HO12 := Lib.hid ho12
        have HB12 := Lib.hid hb12
        clear cl ho12 hb12 hg12 o0 r0 hb0 z2 hd1 HYQ))
      go_ret
      have M13 := CL.out.set 2 (.slice a12 Y.length c12)
      simp only [List.set_cons_succ, List.set_cons_zero] at M13
      have O13 : OwnK encZ 1 3 W9.heap.size (.slice a12 Y.length c12) Y (w12.setCell ⟨m, 2, none⟩ (.slice a12 Y.length c12)) := own_kept HO12.out fun g e => Below.heap_setCell _ ⟨m, 2, none⟩ _ g (fun e2 => by have h9 := own_low HO12.out e; have e3 : g = m := e2; have := M9H.out.lt; omega)
      have P13 : OwnK encZ 1 3 w.heap.size (.slice a8 (R.length + 1) c8) (R ++ [y]) (w12.setCell ⟨m, 2, none⟩ (.slice a12 Y.length c12)) := own_kept O9H.out fun g e => by
        obtain ⟨c, hc⟩ := own_blk' O9H.out e
        have h9 := own_low O9H.out e
        exact (Below.heap_setCell _ ⟨m, 2, none⟩ _ g (fun e2 => by have e3 : g = m := e2; omega)).trans (HB12.out.block g hc.lt)
      have T13 := T9H.out.trans ((Trn.of_below (f := grow (fun b => b = m) w W9) HB12.out).trans (Trn.set (f := grow (grow (fun b => b = m) w W9) W9 w12) CL.out (.inl (.inl rfl)) 2 (.slice a12 Y.length c12)))
      rw [HP3.out.1] at P13
      rw [HP3.out.2] at O13 M13
      have hYQ := HP3.out.2
      subst hYQ
      exact ⟨rfl, T13, ⟨_, _, M13, RK.own P13 (fun b e => own_low P13 e), RK.own O13 (fun b e => Nat.le_trans hz9 (own_low O13 e))⟩⟩
end
end Go.Proofs.Ytjaejdenboggpaa

/- The document's own LRU as a part beside another: each call in one line. -/
set_option maxRecDepth 100000
namespace Go.Proofs.Ytjaejdenboggpaa
open Go Go.RowKit Go.Shelf Go.Maps
theorem RK.trim {α : Type} {enc : α → List Value} {x : Nat → Prop} {v : Value} {l : List α} {W : World} (h : RK enc x v l W) : RK enc (fun b => x b ∧ b < W.heap.size) v l W := by
  obtain ⟨ao, cap, e, hc, hf⟩ := h.form
  exact ⟨ao, cap, e, hc, fun j u hu => by
    obtain ⟨b, off, e, hx, c⟩ := hf j u hu
    exact ⟨b, off, e, ⟨hx, cell_lt c⟩, c⟩⟩
/-- The document's own LRU in the box m, whose blocks are s. -/
def MLp (m : Nat) (most : Int) (P Q : List Int) (s : Nat → Prop) (W : World) : Prop := (∃ y, ML y m most P Q W ∧ ¬ y m ∧ ∀ k, y k → s k) ∧ s m ∧ ∀ k, s k → k < W.heap.size
theorem ML.trim {y : Nat → Prop} {m : Nat} {most : Int} {P Q : List Int} {W : World} (h : ML y m most P Q W) : ML (fun b => y b ∧ b < W.heap.size) m most P Q W := by
  obtain ⟨v, u, h1, h2, h3⟩ := h.ex
  exact ⟨v, u, h1, h2.trim, h3.trim⟩
theorem ML.mono {y z : Nat → Prop} {m : Nat} {most : Int} {P Q : List Int} {W : World} (h : ML y m most P Q W) (hz : ∀ b, y b → z b) : ML z m most P Q W := by
  obtain ⟨v, u, h1, h2, h3⟩ := h.ex
  exact ⟨v, u, h1, h2.mono hz, h3.mono hz⟩
theorem partM {m : Nat} {most : Int} {P Q : List Int} : Part (MLp m most P Q) := by
  refine ⟨fun {s W W'} h hk hs => ?_, fun h => h.2.2⟩
  obtain ⟨⟨y, hm, hy, hys⟩, h2, h3⟩ := h
  obtain ⟨v, u, h4, h5, h6⟩ := hm.ex
  exact ⟨⟨y, ⟨v, u, h4.kept (hk m h2), h5.same fun b hb => hk b (hys b hb), h6.same fun b hb => hk b (hys b hb)⟩, hy, hys⟩, h2, fun k e => Nat.lt_of_lt_of_le (h3 k e) hs⟩
section
variable {B : (Nat → Prop) → World → Prop} {w0 W : World} {x : Nat → Prop} {m : Nat} {most : Int} {P Q : List Int}
/-- What a call of it leaves. -/
theorem MLp.step {s y : Nat → Prop} {P' Q' : List Int} {W' : World} (h2 : s m) (h3 : ∀ k, s k → k < W.heap.size) (hy : ¬ y m) (hys : ∀ k, y k → s k) (hl : m < W.heap.size) (t : Trn (fun b => b = m) W W') (hm : ML (fun b => y b ∨ W.heap.size ≤ b) m most P' Q' W') : Trn s W W' ∧ MLp m most P' Q' (grow s W W') W' := by
  refine ⟨t.mono fun b _ e => e ▸ h2, ⟨_, hm.trim, fun e => e.1.elim hy (fun e => by omega), fun k e => e.1.elim (fun e2 => .inl (hys k e2)) (fun e2 => .inr ⟨e2, e.2⟩)⟩, .inl h2, fun k e => e.elim (fun e => Nat.lt_of_lt_of_le (h3 k e) t.size) (fun e => e.2)⟩
theorem d_new (h : Two Nobody B w0 x W) (hB : Part B) (most : Int) : Two (MLp W.heap.size most [] []) B w0 x (W.alloc (.cells #[.int .i64 most, .slice none 0 0, .slice none 0 0] 29)) :=
  h.made hB ((Below.refl _ _).alloc (Nat.le_refl _) _) ⟨⟨fun _ => False, ⟨_, _, Blk.new W [.int .i64 most, .slice none 0 0, .slice none 0 0] 29, RK.nil _ _ _, RK.nil _ _ _⟩, fun e => e, fun k e => e.elim⟩, ⟨Nat.le_refl _, by simp⟩, fun k e => e.2⟩
theorem d_add (h : Two (MLp m most P Q) B w0 x W) (hB : Part B) (k : Int) (hl : P.length + Q.length < 90000) : Calls Try.prog 13 #[.pointer (some ⟨m, 0, none⟩), .int .i64 k] W fun e W' => e = .returned (.tuple #[]) ∧ Two (MLp m most (addP P Q k) Q) B w0 x W' ∧ Kx x W W' := by
  obtain ⟨s, a, f⟩ := h.left hB
  obtain ⟨⟨y, hm, hy, hys⟩, h2, h3⟩ := id a
  by_cases hk : k ∈ P ++ Q
  · refine (mladd_has hm k hl hk).mono ?_
    rintro e W' ⟨rfl, rfl⟩
    rw [addP_old hk]
    exact ⟨rfl, f (Trn.refl _ _) a (fun k e => .inl e)⟩
  · refine (mladd_new hm k hl hk hy).mono ?_
    rintro e W' ⟨rfl, h5, t⟩
    rw [addP_new hk]
    obtain ⟨t2, h6⟩ := MLp.step h2 h3 hy hys (h3 m h2) t h5
    exact ⟨rfl, f t2 h6 (fun k e => e)⟩
theorem touch_none {most : Int} {k : Int} (h : k ∉ P ++ Q) : touch most P Q k = (P, Q) := by
  unfold touch
  rw [if_neg (fun e => h (List.mem_append_right _ e)), if_neg (fun e => h (List.mem_append_left _ e))]
theorem d_touch (h : Two (MLp m most P Q) B w0 x W) (hB : Part B) (k : Int) (hl : P.length + Q.length < 90000) : Calls Try.prog 15 #[.pointer (some ⟨m, 0, none⟩), .int .i64 k] W fun e W' => e = .returned (.bool (decide (k ∈ P ++ Q))) ∧ Two (MLp m most (touch (max most 0) P Q k).1 (touch (max most 0) P Q k).2) B w0 x W' ∧ Kx x W W' := by
  obtain ⟨s, a, f⟩ := h.left hB
  obtain ⟨⟨y, hm, hy, hys⟩, h2, h3⟩ := id a
  by_cases hk : k ∈ P ++ Q
  · rw [decide_eq_true hk]
    by_cases hq : k ∈ Q
    · have e : touch (max most 0) P Q k = (P, Q.erase k ++ [k]) := if_pos hq
      rw [e]
      refine (mltouch_Q hm k hl hq hy).mono ?_
      rintro e W' ⟨rfl, h5, t⟩
      obtain ⟨t2, h6⟩ := MLp.step h2 h3 hy hys (h3 m h2) t h5
      exact ⟨rfl, f t2 h6 (fun k e => e)⟩
    · obtain ⟨PP, QQ, hPQ⟩ : ∃ PP QQ, touch (max most 0) P Q k = (PP, QQ) := ⟨_, _, rfl⟩
      rw [hPQ]
      refine (mltouch_P hm k hl ((List.mem_append.1 hk).resolve_right hq) hq hy hPQ).mono ?_
      rintro e W' ⟨rfl, t, h5⟩
      obtain ⟨t2, h6⟩ := MLp.step h2 h3 hy hys (h3 m h2) t (h5.mono fun b e => .inr e)
      exact ⟨rfl, f t2 h6 (fun k e => e)⟩
  · rw [decide_eq_false hk, touch_none hk]
    refine (mltouch_no hm k hl (fun e => hk (List.mem_append_left _ e)) (fun e => hk (List.mem_append_right _ e))).mono ?_
    rintro e W' ⟨rfl, rfl⟩
    exact ⟨rfl, f (Trn.refl _ _) a (fun k e => .inl e)⟩
theorem d_drop (h : Two (MLp m most P Q) B w0 x W) (hB : Part B) (k : Int) (hl : P.length + Q.length < 90000) (hn : (P ++ Q).Nodup) : Calls Try.prog 17 #[.pointer (some ⟨m, 0, none⟩), .int .i64 k] W fun e W' => e = .returned (.bool (decide (k ∈ P ++ Q))) ∧ Two (MLp m most (P.erase k) (Q.erase k)) B w0 x W' ∧ Kx x W W' := by
  obtain ⟨s, a, f⟩ := h.left hB
  obtain ⟨⟨y, hm, hy, hys⟩, h2, h3⟩ := id a
  by_cases hk : k ∈ P ++ Q
  · rw [decide_eq_true hk]
    by_cases hq : k ∈ Q
    · have hp : k ∉ P := fun e => (List.nodup_append.1 hn).2.2 k e k hq rfl
      rw [List.erase_of_not_mem hp]
      refine (mldrop_Q hm k hl hp hq hy).mono ?_
      rintro e W' ⟨rfl, h5, t⟩
      obtain ⟨t2, h6⟩ := MLp.step h2 h3 hy hys (h3 m h2) t h5
      exact ⟨rfl, f t2 h6 (fun k e => e)⟩
    · rw [List.erase_of_not_mem hq]
      refine (mldrop_P hm k hl ((List.mem_append.1 hk).resolve_right hq) hq hy).mono ?_
      rintro e W' ⟨rfl, h5, t⟩
      obtain ⟨t2, h6⟩ := MLp.step h2 h3 hy hys (h3 m h2) t h5
      exact ⟨rfl, f t2 h6 (fun k e => e)⟩
  · rw [decide_eq_false hk, List.erase_of_not_mem (fun e => hk (List.mem_append_left _ e)), List.erase_of_not_mem (fun e => hk (List.mem_append_right _ e))]
    refine (mldrop_no hm k hl (fun e => hk (List.mem_append_left _ e)) (fun e => hk (List.mem_append_right _ e))).mono ?_
    rintro e W' ⟨rfl, hb⟩
    exact ⟨rfl, f (Trn.of_below hb) (partM.away a (fun k e => hb.block k (h3 k e)) hb.size) (fun k e => .inl e)⟩
theorem d_order (h : Two (MLp m most P Q) B w0 x W) (hB : Part B) (hl : P.length + Q.length < 90000) : Calls Try.prog 21 #[.pointer (some ⟨m, 0, none⟩)] W fun e W' => ∃ v, e = .returned v ∧ RK encZ (fun k => W.heap.size ≤ k ∧ k < W'.heap.size) v (P ++ Q) W' ∧ Two (MLp m most P Q) B w0 x W' ∧ Below W.heap.size W W' := by
  obtain ⟨s, a, f⟩ := h.left hB
  obtain ⟨⟨y, hm, hy, hys⟩, h2, h3⟩ := id a
  refine (mlorder_any hm hl).mono ?_
  rintro e W' ⟨v, rfl, ho, hb⟩
  exact ⟨v, rfl, RK.own ho (fun b e => ⟨own_low ho e, by obtain ⟨c, hc⟩ := own_blk' ho e; exact hc.lt⟩), h.below partM hB hb, hb⟩
/-- Its lists' lengths, in memory. -/
theorem d_cells (h : Two (MLp m most P Q) B w0 x W) : ∃ a1 c1 a2 c2, W.cell? ⟨m, 1, none⟩ = some (.slice a1 P.length c1) ∧ W.cell? ⟨m, 2, none⟩ = some (.slice a2 Q.length c2) := by
  obtain ⟨s1, s2, ⟨⟨y, hm, _⟩, _⟩, _⟩ := h.ex
  obtain ⟨v, u, hb, hp, hq⟩ := hm.ex
  obtain ⟨a1, c1, rfl, _⟩ := hp.form
  obtain ⟨a2, c2, rfl, _⟩ := hq.form
  exact ⟨a1, c1, a2, c2, hb.cell rfl, hb.cell rfl⟩
end
/-- An act of chapter 9's laws. -/
structure Ac9 where
  kind : Int
  k : Int
  at_ : Int
def encA9 (a : Ac9) : List Value := [.int .i64 a.kind, .int .i64 a.k, .int .i64 a.at_]
theorem encA9_len (a : Ac9) : (encA9 a).length = 3 := rfl
theorem rka_cell {x : Nat → Prop} {ao : Option Addr} {n cap : Nat} {l : List Ac9} {W : World} (h : RK encA9 x (.slice ao n cap) l W) {i : Nat} (hi : i < l.length) : ∃ b off, ao = some ⟨b, off, none⟩ ∧ W.cell? ⟨b, off + i * 3, none⟩ = some (.int .i64 l[i].kind) ∧ W.cell? ⟨b, off + i * 3 + 1, none⟩ = some (.int .i64 l[i].k) ∧ W.cell? ⟨b, off + i * 3 + 2, none⟩ = some (.int .i64 l[i].at_) := by
  obtain ⟨b, off, e, _, c⟩ := RK.at_ encA9_len h hi (f := 0) (by omega)
  obtain ⟨b', off', e', _, c'⟩ := RK.at_ encA9_len h hi (f := 1) (by omega)
  obtain ⟨b2, off2, e2, _, c2⟩ := RK.at_ encA9_len h hi (f := 2) (by omega)
  rw [e] at e' e2
  cases e'
  cases e2
  exact ⟨b, off, e, by rw [Nat.add_zero] at c; rw [c]; rfl, by rw [← Nat.add_assoc] at c'; rw [c']; rfl, by rw [← Nat.add_assoc] at c2; rw [c2]; rfl⟩
end Go.Proofs.Ytjaejdenboggpaa

/- The law ListsLRU, walked. -/
set_option maxRecDepth 100000
namespace Go.Proofs.Ytjaejdenboggpaa
open Go Go.RowKit Go.Shelf Go.Maps
theorem Two.lenL {B : (Nat → Prop) → World → Prop} {w0 W : World} {x : Nat → Prop} {X : Nat} {most : Int} {P Q : List Int} {N : Nat} (h : Two (LV X most P Q N) B w0 x W) : P.length + Q.length ≤ N := by
  obtain ⟨s1, s2, a, _⟩ := h.ex
  exact a.len_le
/-- The code's and the document's, side by side, behind t acts. -/
def Pr (X m : Nat) (most : Int) (P Q : List Int) (t : Nat) (w W : World) : Prop := ∃ N, N ≤ t ∧ Two (LV X (max most 0) P Q N) (MLp m most P Q) w (fun _ => False) W
section
variable {X m : Nat} {most k : Int} {P Q : List Int} {t : Nat} {w W : World}
theorem pr_add1 (h : Pr X m most P Q t w W) (ik : I64 k) (ht : t < 60) : Calls Try.prog 12 #[.pointer (some ⟨X, 0, none⟩), .int .i64 k] W fun e W' => e = .returned (.tuple #[]) ∧ Calls Try.prog 13 #[.pointer (some ⟨m, 0, none⟩), .int .i64 k] W' fun e W'' => e = .returned (.tuple #[]) ∧ Pr X m most (addP P Q k) Q (t + 1) w W'' := by
  obtain ⟨N, hN, h⟩ := h
  have hl := h.lenL
  refine (t_add h partM ik (by omega)).mono ?_
  rintro e W' ⟨rfl, h1, _⟩
  refine ⟨rfl, (d_add h1.swap partL k (by omega)).mono ?_⟩
  rintro e W'' ⟨rfl, h2, _⟩
  exact ⟨rfl, N + 1, by omega, h2.swap⟩
theorem pr_touch (h : Pr X m most P Q t w W) (ik : I64 k) (ht : t < 60) : Calls Try.prog 14 #[.pointer (some ⟨X, 0, none⟩), .int .i64 k] W fun e W' => e = .returned (.bool (decide (k ∈ P ++ Q))) ∧ Calls Try.prog 15 #[.pointer (some ⟨m, 0, none⟩), .int .i64 k] W' fun e W'' => e = .returned (.bool (decide (k ∈ P ++ Q))) ∧ ∃ P2 Q2, Pr X m most P2 Q2 (t + 1) w W'' := by
  obtain ⟨N, hN, h⟩ := h
  have hl := h.lenL
  by_cases hk : k ∈ P ++ Q
  · rw [decide_eq_true hk]
    refine (t_touch h partM ik hk (by omega)).mono ?_
    rintro e W' ⟨rfl, h1, _⟩
    have hd := d_touch h1.swap partL k (by omega)
    rw [decide_eq_true hk] at hd
    refine ⟨rfl, hd.mono ?_⟩
    rintro e W'' ⟨rfl, h2, _⟩
    exact ⟨rfl, _, _, N, by omega, h2.swap⟩
  · rw [decide_eq_false hk]
    refine (t_touch_no h partM ik hk).mono ?_
    rintro e W' ⟨rfl, h1, _⟩
    have hd := d_touch h1.swap partL k (by omega)
    rw [decide_eq_false hk, touch_none hk] at hd
    refine ⟨rfl, hd.mono ?_⟩
    rintro e W'' ⟨rfl, h2, _⟩
    exact ⟨rfl, _, _, N, by omega, h2.swap⟩
theorem pr_drop (h : Pr X m most P Q t w W) (ik : I64 k) (ht : t < 60) : Calls Try.prog 16 #[.pointer (some ⟨X, 0, none⟩), .int .i64 k] W fun e W' => e = .returned (.bool (decide (k ∈ P ++ Q))) ∧ Calls Try.prog 17 #[.pointer (some ⟨m, 0, none⟩), .int .i64 k] W' fun e W'' => e = .returned (.bool (decide (k ∈ P ++ Q))) ∧ ∃ P2 Q2, Pr X m most P2 Q2 (t + 1) w W'' := by
  obtain ⟨N, hN, h⟩ := h
  have hl := h.lenL
  have hn := h.nodupL.1
  by_cases hk : k ∈ P ++ Q
  · rw [decide_eq_true hk]
    refine (t_drop h partM ik hk (by omega)).mono ?_
    rintro e W' ⟨rfl, h1, _⟩
    have hd := d_drop h1.swap partL k (by omega) hn
    rw [decide_eq_true hk] at hd
    refine ⟨rfl, hd.mono ?_⟩
    rintro e W'' ⟨rfl, h2, _⟩
    exact ⟨rfl, _, _, N, by omega, h2.swap⟩
  · rw [decide_eq_false hk]
    refine (t_drop_no h partM ik hk).mono ?_
    rintro e W' ⟨rfl, h1, _⟩
    have hd := d_drop h1.swap partL k (by omega) hn
    rw [decide_eq_false hk, List.erase_of_not_mem (fun e => hk (List.mem_append_left _ e)), List.erase_of_not_mem (fun e => hk (List.mem_append_right _ e))] at hd
    refine ⟨rfl, hd.mono ?_⟩
    rintro e W'' ⟨rfl, h2, _⟩
    exact ⟨rfl, _, _, N, by omega, h2.swap⟩
theorem Pr.more (h : Pr X m most P Q t w W) : Pr X m most P Q (t + 1) w W := by
  obtain ⟨N, hN, h⟩ := h
  exact ⟨N, by omega, h⟩
end
set_option maxHeartbeats 64000000 in
theorem lru9_any (most stop : Int) (v1 : Value) (L1 : List Ac9) (w : World) (hmo : -9223372036854775808 ≤ most ∧ most ≤ 9223372036854775807) (hst : -9223372036854775808 ≤ stop ∧ stop ≤ 9223372036854775807) (hr1 : RK encA9 (fun k => k < w.heap.size) v1 L1 w) (hb1 : ∀ a ∈ L1, (-9223372036854775808 ≤ a.kind ∧ a.kind ≤ 9223372036854775807) ∧ (-9223372036854775808 ≤ a.k ∧ a.k ≤ 9223372036854775807) ∧ (-9223372036854775808 ≤ a.at_ ∧ a.at_ ≤ 9223372036854775807)) (hl1 : L1.length ≤ maxLen) :
    Calls Try.prog 3 #[.int .i64 most, v1, .int .i64 stop] w fun e w' => e = .returned (.bool true) ∧ Below w.heap.size w w' := by
  unfold maxLen at hl1
  have q1 := qLruE
  obtain ⟨ao, cap, rfl, hcap, _⟩ := hr1.form
  by_cases h1 : 60 < L1.length
  · have h6 : decide ((L1.length : Int) > 60) = true := by simp; omega
    go_enter Try.func3, Try.ntmps3
    go_wp2_with fail
    refine (awake9_any _).mono ?_
    rintro e w1 ⟨rfl, hb⟩
    go_wp2
    go_ret
    exact ⟨rfl, hb⟩
  obtain ⟨T, hT⟩ : ∃ T, L1.length = T := ⟨_, rfl⟩
  have HR1 := Lib.hid hr1
  have HB1 := Lib.hid hb1
  have HT := Lib.hid hT
  rw [hT] at hcap hl1 h1
  have hT60 : T ≤ 60 := by omega
  have d1 : decide ((T : Int) > 60) = false := by simp; omega
  rw [hT]
  clear hr1 hb1 hT h1
  go_enter Try.func3, Try.ntmps3
  go_wp2_with fail
  refine (t_lnew (Two.start w) partN most (i64_of hmo.1 hmo.2)).mono ?_
  rintro e w1 ⟨X, rfl, h1, _⟩
  have H1 : Hid (Pr X w1.heap.size most [] [] 0 w (w1.alloc (.cells #[.int .i64 most, .slice none 0 0, .slice none 0 0] 29))) := Lib.hid ⟨0, Nat.le_refl _, (d_new h1.swap partL most).swap⟩
  clear h1
  go_wp2_with fail
  generalize w1.alloc (.cells #[.int .i64 most, .slice none 0 0, .slice none 0 0] 29) = w2 at *
  generalize w1.heap.size = m at *
  go_loopw [9] (fun i wr => ∃ t : Nat, ∃ P Q : List Int, t ≤ T ∧ i = .int .i64 (t : Int) ∧ Hid (Pr X m most P Q t w wr)) (fun i _ => T + 1 - (intOf i).toNat)
  case atStart => exact ⟨0, [], [], by omega, rfl, H1⟩
  case round =>
    clear H1
    obtain ⟨t, P, Q, ht, rfl, HJ⟩ := hrel
    by_cases hlt : t < T
    · have d5 : decide ((t : Int) < (T : Int)) = true := by simpa using hlt
      have hsl : t < L1.length := by rw [HT.out]; exact hlt
      have hbel : Below w.heap.size w wr := by obtain ⟨N, _, h⟩ := HJ.out; exact h.bel
      obtain ⟨b, off, rfl, c1, c2, c3⟩ := rka_cell (HR1.out.below hbel) hsl
      have hzb := HB1.out _ (List.getElem_mem hsl)
      generalize L1[t] = ac at c1 c2 hzb
      have ik := i64_of hzb.2.1.1 hzb.2.1.2
      obtain ⟨kd, k, at_⟩ := ac
      simp only at c1 c2 ik
      clear hzb hbel c3
      have ht60 : t < 60 := by omega
      go_upto_block 2 with (fail)
      go_cut [] from 42 to 67 (fun wx => ∃ P2 Q2 : List Int, Hid (Pr X m most P2 Q2 (t + 1) w wx))
      case first =>
        by_cases h1 : kd = 1
        · subst h1
          go_wp2_with fail
          refine (pr_add1 HJ.out ik ht60).mono ?_
          rintro e w4 ⟨rfl, h4⟩
          go_wp2_with fail
          refine h4.mono ?_
          rintro e w5 ⟨rfl, h5⟩
          have H5 := Lib.hid h5
          clear h4 h5 HJ
          go_wp2
          go_meet
          case rel => exact ⟨_, _, H5⟩
        by_cases h2 : kd = 2
        · subst h2
          have hp := pr_touch HJ.out ik ht60
          generalize decide (k ∈ P ++ Q) = bb at hp
          clear HJ
          cases bb
          all_goals
            go_wp2_with fail
            refine hp.mono ?_
            rintro e w4 ⟨rfl, h4⟩
            go_wp2_with fail
            refine h4.mono ?_
            rintro e w5 ⟨rfl, P2, Q2, h5⟩
            have H5 := Lib.hid h5
            clear h4 h5 hp
            go_wp2
            go_meet
            case rel => exact ⟨_, _, H5⟩
        by_cases h3 : kd = 3
        · subst h3
          have hp := pr_drop HJ.out ik ht60
          generalize decide (k ∈ P ++ Q) = bb at hp
          clear HJ
          cases bb
          all_goals
            go_wp2_with fail
            refine hp.mono ?_
            rintro e w4 ⟨rfl, h4⟩
            go_wp2_with fail
            refine h4.mono ?_
            rintro e w5 ⟨rfl, P2, Q2, h5⟩
            have H5 := Lib.hid h5
            clear h4 h5 hp
            go_wp2
            go_meet
            case rel => exact ⟨_, _, H5⟩
        · have g1 : (kd == 1) = false := by simpa using h1
          have g2 : (kd == 2) = false := by simpa using h2
          have g3 : (kd == 3) = false := by simpa using h3
          have H5 := Lib.hid HJ.out.more
          clear HJ
          go_wp2
          go_meet
          case rel => exact ⟨_, _, H5⟩
      case rest =>
        obtain ⟨P2, Q2, HJ2⟩ := hcut
        clear HJ c1 c2 hsl
        obtain ⟨N, hN, h2⟩ := HJ2.out
        have hln := h2.lenL
        obtain ⟨np, hnp⟩ : ∃ np, P2.length = np := ⟨_, rfl⟩
        obtain ⟨nq, hnq⟩ : ∃ nq, Q2.length = nq := ⟨_, rfl⟩
        rw [hnp, hnq] at hln
        have HNP := Lib.hid hnp
        have HNQ := Lib.hid hnq
        have H2 := Lib.hid h2
        clear hnp hnq h2 HJ2
        go_wp2_with fail
        refine (t_len H2.out partM (by omega)).mono ?_
        rintro e w8 ⟨rfl, h8, _⟩
        obtain ⟨a1, cc1, a2, cc2, m1, m2⟩ := d_cells h8.swap
        rw [HNP.out] at m1
        rw [HNQ.out] at m2
        rw [HNP.out, HNQ.out]
        have H8 := Lib.hid h8
        clear h8 H2
        go_wp2_with fail
        refine (t_order H8.out partM (by omega) (-1)).mono ?_
        rintro e w9 ⟨v, rfl, r9, h9, _⟩
        have hv := r9
        rw [show cutAt (-1) (P2 ++ Q2) = P2 ++ Q2 from rfl] at hv
        have HV := Lib.hid hv
        have H9 := Lib.hid h9
        clear hv r9 h9 H8 m1 m2
        go_wp2_with fail
        refine (d_order H9.out.swap partL (by rw [HNP.out, HNQ.out]; omega)).mono ?_
        rintro e w10 ⟨v2, rfl, r10, h10, hb10⟩
        have HV1 := Lib.hid (HV.out.below hb10)
        have HV2 := Lib.hid r10
        have H10 := Lib.hid h10.swap
        clear r10 h10 hb10 HV H9
        go_wp2_with fail
        refine (ints_same HV1.out HV2.out (by rw [List.length_append, HNP.out, HNQ.out]; omega)).mono ?_
        rintro e w11 ⟨rfl, n, rfl⟩
        have H11 : Hid (Pr X m most P2 Q2 (t + 1) w (w10.drewN n)) := Lib.hid ⟨N, hN, H10.out.drew partL partM n⟩
        clear HV1 HV2 H10
        generalize w10.drewN n = w11 at *
        go_wp2
        go_roundw
        case rel => exact ⟨t + 1, P2, Q2, by omega, by go_num, H11⟩
        case measure => simp [intOf]; omega
    · obtain rfl : t = T := by omega
      have d5 : decide ((t : Int) < (t : Int)) = false := by simp
      obtain ⟨N, hN, h2⟩ := HJ.out
      have hln := h2.lenL
      have H2 := Lib.hid h2
      clear h2 HJ
      go_wp2_with fail
      refine (d_order H2.out.swap partL (by omega)).mono ?_
      rintro e w8 ⟨v, rfl, r8, h8, hb8⟩
      obtain ⟨O, hO⟩ : ∃ O, P ++ Q = O := ⟨_, rfl⟩
      obtain ⟨n, hn⟩ : ∃ n, O.length = n := ⟨_, rfl⟩
      have hn60 : n ≤ 60 := by rw [← hn, ← hO, List.length_append]; omega
      have HO := Lib.hid hO
      have HN := Lib.hid hn
      rw [hO] at r8
      obtain ⟨ao3, cp3, rfl, _, _⟩ := r8.form
      rw [hn] at r8
      rw [hn]
      have hkb := roundI_bounds stop ((n : Int) + 1) (by omega)
      have hrr := fun w => round_any stop ((n : Int) + 1) w (by omega) (by omega) hst.1 hst.2
      obtain ⟨k, hk⟩ : ∃ k : Nat, roundI stop ((n : Int) + 1) = (k : Int) := ⟨(roundI stop ((n : Int) + 1)).toNat, by omega⟩
      rw [hk] at hkb
      have HRR := Lib.hid (fun w => by have := hrr w; rw [hk] at this; exact this)
      have hkn : k ≤ n := by omega
      obtain ⟨vt, ht1, ht2⟩ := run_takeK (P := Try.prog) encZ_len z_under infoInt r8 (m := k) (by rw [hn]; exact hkn)
      have HVT := Lib.hid ht2
      have H8 := Lib.hid (H2.out.turn (x' := fun b => wr.heap.size ≤ b ∧ b < w8.heap.size) partL partM (hb8.mono H2.out.bel.size) (fun b hb _ => hb8.block b hb) (fun b e => ⟨.inr e.1, e.2⟩))
      clear hrr hk hkb r8 h8 hb8 ht2 H2 hO hn hst
      go_wp2_with fail
      refine (HRR.out _).mono ?_
      rintro e w9 ⟨rfl, rfl⟩
      clear HRR
      go_wp2_with fail
      have HD := Lib.hid (H8.out.drew partL partM 1)
      have HVD := Lib.hid (HVT.out.same (W' := w8.drewN 1) (fun _ _ => rfl))
      have hBD := H8.out.bel
      have HBD := Lib.hid hBD
      clear hBD HVT H8
      by_cases hk0 : k = 0
      · have d7 : ((k : Int) == 0) = true := by simp [hk0]
        clear hk0 ht1
        refine wp_region_slotsTL (by simp) slotLe (slotPhi ((fun v _ => v = ?q104) :: (fun v _ => v = ?q105) :: (fun v _ => v = ?q106) :: (fun v _ => v = undef) :: (fun v _ => v = undef) :: (fun v _ => v = undef) :: (fun v _ => v = undef) :: (fun v _ => v = undef) :: (fun v _ => v = undef) :: (fun v _ => v = undef) :: (fun v _ => v = ?q114) :: (fun v _ => v = ?q115) :: (fun v _ => v = ?q116) :: (fun v _ => v = ?q117) :: [])) slotLe_refl slotLe_trans (slotPhi_stable ?stb) (by kernel_rfl) (by kernel_rfl) (by kernel_rfl) (by kernel_rfl) (by kernel_rfl) ?steps ?fin
        case stb =>
          refine ⟨by intro _ _ _ _ h; exact h, ?_⟩
          refine ⟨by intro _ _ _ _ h; exact h, ?_⟩
          refine ⟨by intro _ _ _ _ h; exact h, ?_⟩
          refine ⟨by intro _ _ _ _ h; exact h, ?_⟩
          refine ⟨by intro _ _ _ _ h; exact h, ?_⟩
          refine ⟨by intro _ _ _ _ h; exact h, ?_⟩
          refine ⟨by intro _ _ _ _ h; exact h, ?_⟩
          refine ⟨by intro _ _ _ _ h; exact h, ?_⟩
          refine ⟨by intro _ _ _ _ h; exact h, ?_⟩
          refine ⟨by intro _ _ _ _ h; exact h, ?_⟩
          refine ⟨by intro _ _ _ _ h; exact h, ?_⟩
          refine ⟨by intro _ _ _ _ h; exact h, ?_⟩
          refine ⟨by intro _ _ _ _ h; exact h, ?_⟩
          refine ⟨by intro _ _ _ _ h; exact h, ?_⟩
          exact trivial
        case steps =>
          refine ⟨?_, ?_⟩
          · intro a W K N hK
            have e14 : a.tmps[14]?.getD undef = .int .i64 (k : Int) := N.was' 14 _ (by kernel_rfl) rfl
            rw [if_pos (wanted_no rfl)]
            go_simp
            refine hK _ _ (slotLe_refl _) ?_
            exact rfl
          refine ⟨?_, ?_⟩
          · intro a W K N hK
            have e104 : a.tmps[104]?.getD undef = _ := N.dep' 0 104 (by kernel_rfl)
            rw [if_pos (wanted_no rfl)]
            go_simp
            refine hK _ _ (slotLe_refl _) ?_
            exact rfl
          refine ⟨?_, ?_⟩
          · intro a W K N hK
            have e105 : a.tmps[105]?.getD undef = _ := N.dep' 1 105 (by kernel_rfl)
            rw [if_pos (wanted_no rfl)]
            go_simp
            refine hK _ _ (slotLe_refl _) ?_
            exact rfl
          refine ⟨?_, ?_⟩
          · intro a W K N hK
            have eg : a.tmps[106]?.getD undef = .bool true := N.dep' 2 106 (by kernel_rfl)
            rw [if_neg (by rw [wanted_get (g := 2) (d := 106) rfl rfl eg]; decide)]
            refine hK _ _ (slotLe_refl _) ?_
            exact rfl
          refine ⟨?_, ?_⟩
          · intro a W K N hK
            have eg : a.tmps[106]?.getD undef = .bool true := N.dep' 2 106 (by kernel_rfl)
            rw [if_neg (by rw [wanted_get (g := 2) (d := 106) rfl rfl eg]; decide)]
            refine hK _ _ (slotLe_refl _) ?_
            exact rfl
          refine ⟨?_, ?_⟩
          · intro a W K N hK
            have eg : a.tmps[106]?.getD undef = .bool true := N.dep' 2 106 (by kernel_rfl)
            rw [if_neg (by rw [wanted_get (g := 2) (d := 106) rfl rfl eg]; decide)]
            refine hK _ _ (slotLe_refl _) ?_
            exact rfl
          refine ⟨?_, ?_⟩
          · intro a W K N hK
            have eg : a.tmps[106]?.getD undef = .bool true := N.dep' 2 106 (by kernel_rfl)
            rw [if_neg (by rw [wanted_get (g := 2) (d := 106) rfl rfl eg]; decide)]
            refine hK _ _ (slotLe_refl _) ?_
            exact rfl
          refine ⟨?_, ?_⟩
          · intro a W K N hK
            have eg : a.tmps[106]?.getD undef = .bool true := N.dep' 2 106 (by kernel_rfl)
            rw [if_neg (by rw [wanted_get (g := 2) (d := 106) rfl rfl eg]; decide)]
            refine hK _ _ (slotLe_refl _) ?_
            exact rfl
          refine ⟨?_, ?_⟩
          · intro a W K N hK
            have eg : a.tmps[106]?.getD undef = .bool true := N.dep' 2 106 (by kernel_rfl)
            rw [if_neg (by rw [wanted_get (g := 2) (d := 106) rfl rfl eg]; decide)]
            refine hK _ _ (slotLe_refl _) ?_
            exact rfl
          refine ⟨?_, ?_⟩
          · intro a W K N hK
            have eg : a.tmps[106]?.getD undef = .bool true := N.dep' 2 106 (by kernel_rfl)
            rw [if_neg (by rw [wanted_get (g := 2) (d := 106) rfl rfl eg]; decide)]
            refine hK _ _ (slotLe_refl _) ?_
            exact rfl
          refine ⟨?_, ?_⟩
          · intro a W K N hK
            have e106 : a.tmps[106]?.getD undef = _ := N.dep' 2 106 (by kernel_rfl)
            have e113 : a.tmps[113]?.getD undef = undef := N.dep' 9 113 (by kernel_rfl)
            rw [if_pos (wanted_no rfl)]
            go_simp
            refine hK _ _ (slotLe_refl _) ?_
            exact rfl
          refine ⟨?_, ?_⟩
          · intro a W K N hK
            have e114 : a.tmps[114]?.getD undef = _ := N.dep' 10 114 (by kernel_rfl)
            rw [if_pos (wanted_no rfl)]
            go_simp
            refine hK _ _ (slotLe_refl _) ?_
            exact rfl
          refine ⟨?_, ?_⟩
          · intro a W K N hK
            have eg : a.tmps[115]?.getD undef = .bool true := N.dep' 11 115 (by kernel_rfl)
            rw [if_pos (by rw [wanted_get (g := 11) (d := 115) rfl rfl eg]; decide)]
            clear eg
            go_simp
            go_at_call 10
            refine (awake9_any _).mono ?_
            rintro e w2 ⟨rfl, hb⟩
            go_simp
            refine hK _ _ hb ?_
            exact rfl
          refine ⟨?_, ?_⟩
          · intro a W K N hK
            have e115 : a.tmps[115]?.getD undef = _ := N.dep' 11 115 (by kernel_rfl)
            have e116 : a.tmps[116]?.getD undef = _ := N.dep' 12 116 (by kernel_rfl)
            rw [if_pos (wanted_no rfl)]
            go_simp
            refine hK _ _ (slotLe_refl _) ?_
            exact rfl
          exact trivial
        case fin =>
          intro V hV
          simp only [FinAll, slotPhi, List.dropLast, List.getLast_cons_cons, List.getLast_singleton, List.getD_cons_zero, List.getD_cons_succ, forall_eq, Act.put, List.setIfInBounds_toArray, List.set_cons_zero, List.set_cons_succ]
          go_wp2
          go_ret
          exact ⟨rfl, HBD.out.trans (Below.mono (show Below w8.heap.size w8 V from ((Below.refl _ w8).drew).trans hV) HBD.out.size)⟩
      · have d7 : ((k : Int) == 0) = false := by simp [hk0]
        have hcut : cutAt (k : Int) (P ++ Q) = O.take k := by
          unfold cutAt
          rw [if_pos (by omega), HO.out, Int.toNat_natCast]
        have HCUT := Lib.hid hcut
        clear hcut hk0
        refine wp_region_any (by kernel_rfl) ?_
        change wpAny _ _ _ _ _ _ _ (World.drew _)
        refine wpAny_take (i := 0) (v := .int .i64 (k : Int)) rfl (by kernel_rfl) (by kernel_rfl) (by kernel_rfl) (fun _ _ _ h => h) (Or.inl ⟨by rfl, fun w => by go_simp⟩) ?_
        refine wpAny_take (i := 1) (v := .bool false) rfl (by kernel_rfl) (by kernel_rfl) (by kernel_rfl) (fun _ _ _ h => h) (Or.inl ⟨by rfl, fun w => by go_simp⟩) ?_
        refine wpAny_take (i := 2) (v := .bool false) rfl (by kernel_rfl) (by kernel_rfl) (by kernel_rfl) (fun _ _ _ h => h) (Or.inl ⟨by rfl, fun w => by go_simp⟩) ?_
        refine wpAny_take (i := 3) (v := .pointer (some ⟨X, 0, none⟩)) rfl (by kernel_rfl) (by kernel_rfl) (by kernel_rfl) (fun _ _ _ h => h) (Or.inl ⟨by rfl, fun w => by go_simp⟩) ?_
        refine wpAny_take (i := 4) (v := .int .i64 (k : Int)) rfl (by kernel_rfl) (by kernel_rfl) (by kernel_rfl) (fun _ _ _ h => h) (Or.inl ⟨by rfl, fun w => by go_simp⟩) ?_
        refine wpAny_ready (rs := [5, 6, 7]) (by kernel_rfl) (by simp) ?_
        refine AllReady.cons rfl (fun K hK => ?_) ?_
        · go_simp
          go_wp2_with (go_at_call 20; refine (t_order HD.out partM (by omega) (k : Int)).mono ?_; rintro e w9 ⟨v9, rfl, r9, h9, K9⟩; rw [HCUT.out] at r9; have R9 := Lib.hid r9; have V9 := Lib.hid (K9.rk HVD.out (fun b e => e) (fun b e => e.2)); have B9 := Lib.hid h9.bel; clear r9 h9 K9)
          refine wpAny_ready (rs := [6, 7]) (by kernel_rfl) (by simp) ?_
          refine AllReady.cons rfl (fun K hK => ?_) ?_
          · go_simp
            refine hK _ _ ?_
            clear hK K
            refine wpAny_ready (rs := [7]) (by kernel_rfl) (by simp) ?_
            refine AllReady.cons rfl (fun K hK => ?_) ?_
            · go_simp
              refine hK _ _ ?_
              clear hK K
              refine wpAny_ready (rs := [8]) (by kernel_rfl) (by simp) ?_
              refine AllReady.cons rfl (fun K hK => ?_) ?_
              · go_simp
                refine hK _ _ ?_
                clear hK K
                refine wpAny_ready (rs := [9]) (by kernel_rfl) (by simp) ?_
                refine AllReady.cons rfl (fun K hK => ?_) ?_
                · go_simp
                  go_wp2_with (go_at_call 19; refine (ints_same R9.out V9.out (by rw [List.length_take]; omega)).mono ?_; rintro e w10 ⟨rfl, n10, rfl⟩; have B10 := Lib.hid (B9.out.trans (show Below w.heap.size w9 (w9.drewN n10) from ⟨rfl, rfl, rfl, Nat.le_refl _, fun _ _ => rfl⟩)); clear R9 V9; generalize w9.drewN n10 = w10 at *)
                  refine wpAny_ready (rs := [10]) (by kernel_rfl) (by simp) ?_
                  refine AllReady.cons rfl (fun K hK => ?_) ?_
                  · go_simp
                    refine hK _ _ ?_
                    clear hK K
                    refine wpAny_ready (rs := [11]) (by kernel_rfl) (by simp) ?_
                    refine AllReady.cons rfl (fun K hK => ?_) ?_
                    · go_simp
                      refine hK _ _ ?_
                      clear hK K
                      refine wpAny_ready (rs := [12]) (by kernel_rfl) (by simp) ?_
                      refine AllReady.cons rfl (fun K hK => ?_) ?_
                      · go_simp
                        go_wp2_with (go_at_call 10; refine (awake9_any _).mono ?_; rintro e w11 ⟨rfl, hb⟩)
                        refine wpAny_ready (rs := [13]) (by kernel_rfl) (by simp) ?_
                        refine AllReady.cons rfl (fun K hK => ?_) ?_
                        · go_simp
                          refine hK _ _ ?_
                          clear hK K
                          refine wpAny_ready (rs := [14]) (by kernel_rfl) (by simp) ?_
                          refine AllReady.cons rfl (fun K hK => ?_) ?_
                          · go_simp
                            refine hK _ _ ?_
                            clear hK K
                            refine wpAny_done (by kernel_rfl) ?_ _
                            go_wp2
                            go_ret
                            exact ⟨rfl, B10.out.trans (hb.mono B10.out.size)⟩
                          exact AllReady.nil
                        exact AllReady.nil
                      exact AllReady.nil
                    exact AllReady.nil
                  exact AllReady.nil
                exact AllReady.nil
              exact AllReady.nil
            exact AllReady.nil
          refine AllReady.cons rfl (fun K hK => ?_) ?_
          · go_simp
            refine hK _ _ ?_
            clear hK K
            refine wpAny_ready (rs := [6]) (by kernel_rfl) (by simp) ?_
            refine AllReady.cons rfl (fun K hK => ?_) ?_
            · go_simp
              refine hK _ _ ?_
              clear hK K
              refine wpAny_ready (rs := [8]) (by kernel_rfl) (by simp) ?_
              refine AllReady.cons rfl (fun K hK => ?_) ?_
              · go_simp
                refine hK _ _ ?_
                clear hK K
                refine wpAny_ready (rs := [9]) (by kernel_rfl) (by simp) ?_
                refine AllReady.cons rfl (fun K hK => ?_) ?_
                · go_simp
                  go_wp2_with (go_at_call 19; refine (ints_same R9.out V9.out (by rw [List.length_take]; omega)).mono ?_; rintro e w10 ⟨rfl, n10, rfl⟩; have B10 := Lib.hid (B9.out.trans (show Below w.heap.size w9 (w9.drewN n10) from ⟨rfl, rfl, rfl, Nat.le_refl _, fun _ _ => rfl⟩)); clear R9 V9; generalize w9.drewN n10 = w10 at *)
                  refine wpAny_ready (rs := [10]) (by kernel_rfl) (by simp) ?_
                  refine AllReady.cons rfl (fun K hK => ?_) ?_
                  · go_simp
                    refine hK _ _ ?_
                    clear hK K
                    refine wpAny_ready (rs := [11]) (by kernel_rfl) (by simp) ?_
                    refine AllReady.cons rfl (fun K hK => ?_) ?_
                    · go_simp
                      refine hK _ _ ?_
                      clear hK K
                      refine wpAny_ready (rs := [12]) (by kernel_rfl) (by simp) ?_
                      refine AllReady.cons rfl (fun K hK => ?_) ?_
                      · go_simp
                        go_wp2_with (go_at_call 10; refine (awake9_any _).mono ?_; rintro e w11 ⟨rfl, hb⟩)
                        refine wpAny_ready (rs := [13]) (by kernel_rfl) (by simp) ?_
                        refine AllReady.cons rfl (fun K hK => ?_) ?_
                        · go_simp
                          refine hK _ _ ?_
                          clear hK K
                          refine wpAny_ready (rs := [14]) (by kernel_rfl) (by simp) ?_
                          refine AllReady.cons rfl (fun K hK => ?_) ?_
                          · go_simp
                            refine hK _ _ ?_
                            clear hK K
                            refine wpAny_done (by kernel_rfl) ?_ _
                            go_wp2
                            go_ret
                            exact ⟨rfl, B10.out.trans (hb.mono B10.out.size)⟩
                          exact AllReady.nil
                        exact AllReady.nil
                      exact AllReady.nil
                    exact AllReady.nil
                  exact AllReady.nil
                exact AllReady.nil
              exact AllReady.nil
            exact AllReady.nil
          exact AllReady.nil
        refine AllReady.cons rfl (fun K hK => ?_) ?_
        · go_simp
          refine hK _ _ ?_
          clear hK K
          refine wpAny_ready (rs := [5, 7]) (by kernel_rfl) (by simp) ?_
          refine AllReady.cons rfl (fun K hK => ?_) ?_
          · go_simp
            go_wp2_with (go_at_call 20; refine (t_order HD.out partM (by omega) (k : Int)).mono ?_; rintro e w9 ⟨v9, rfl, r9, h9, K9⟩; rw [HCUT.out] at r9; have R9 := Lib.hid r9; have V9 := Lib.hid (K9.rk HVD.out (fun b e => e) (fun b e => e.2)); have B9 := Lib.hid h9.bel; clear r9 h9 K9)
            refine wpAny_ready (rs := [7]) (by kernel_rfl) (by simp) ?_
            refine AllReady.cons rfl (fun K hK => ?_) ?_
            · go_simp
              refine hK _ _ ?_
              clear hK K
              refine wpAny_ready (rs := [8]) (by kernel_rfl) (by simp) ?_
              refine AllReady.cons rfl (fun K hK => ?_) ?_
              · go_simp
                refine hK _ _ ?_
                clear hK K
                refine wpAny_ready (rs := [9]) (by kernel_rfl) (by simp) ?_
                refine AllReady.cons rfl (fun K hK => ?_) ?_
                · go_simp
                  go_wp2_with (go_at_call 19; refine (ints_same R9.out V9.out (by rw [List.length_take]; omega)).mono ?_; rintro e w10 ⟨rfl, n10, rfl⟩; have B10 := Lib.hid (B9.out.trans (show Below w.heap.size w9 (w9.drewN n10) from ⟨rfl, rfl, rfl, Nat.le_refl _, fun _ _ => rfl⟩)); clear R9 V9; generalize w9.drewN n10 = w10 at *)
                  refine wpAny_ready (rs := [10]) (by kernel_rfl) (by simp) ?_
                  refine AllReady.cons rfl (fun K hK => ?_) ?_
                  · go_simp
                    refine hK _ _ ?_
                    clear hK K
                    refine wpAny_ready (rs := [11]) (by kernel_rfl) (by simp) ?_
                    refine AllReady.cons rfl (fun K hK => ?_) ?_
                    · go_simp
                      refine hK _ _ ?_
                      clear hK K
                      refine wpAny_ready (rs := [12]) (by kernel_rfl) (by simp) ?_
                      refine AllReady.cons rfl (fun K hK => ?_) ?_
                      · go_simp
                        go_wp2_with (go_at_call 10; refine (awake9_any _).mono ?_; rintro e w11 ⟨rfl, hb⟩)
                        refine wpAny_ready (rs := [13]) (by kernel_rfl) (by simp) ?_
                        refine AllReady.cons rfl (fun K hK => ?_) ?_
                        · go_simp
                          refine hK _ _ ?_
                          clear hK K
                          refine wpAny_ready (rs := [14]) (by kernel_rfl) (by simp) ?_
                          refine AllReady.cons rfl (fun K hK => ?_) ?_
                          · go_simp
                            refine hK _ _ ?_
                            clear hK K
                            refine wpAny_done (by kernel_rfl) ?_ _
                            go_wp2
                            go_ret
                            exact ⟨rfl, B10.out.trans (hb.mono B10.out.size)⟩
                          exact AllReady.nil
                        exact AllReady.nil
                      exact AllReady.nil
                    exact AllReady.nil
                  exact AllReady.nil
                exact AllReady.nil
              exact AllReady.nil
            exact AllReady.nil
          refine AllReady.cons rfl (fun K hK => ?_) ?_
          · go_simp
            refine hK _ _ ?_
            clear hK K
            refine wpAny_ready (rs := [5, 8]) (by kernel_rfl) (by simp) ?_
            refine AllReady.cons rfl (fun K hK => ?_) ?_
            · go_simp
              go_wp2_with (go_at_call 20; refine (t_order HD.out partM (by omega) (k : Int)).mono ?_; rintro e w9 ⟨v9, rfl, r9, h9, K9⟩; rw [HCUT.out] at r9; have R9 := Lib.hid r9; have V9 := Lib.hid (K9.rk HVD.out (fun b e => e) (fun b e => e.2)); have B9 := Lib.hid h9.bel; clear r9 h9 K9)
              refine wpAny_ready (rs := [8]) (by kernel_rfl) (by simp) ?_
              refine AllReady.cons rfl (fun K hK => ?_) ?_
              · go_simp
                refine hK _ _ ?_
                clear hK K
                refine wpAny_ready (rs := [9]) (by kernel_rfl) (by simp) ?_
                refine AllReady.cons rfl (fun K hK => ?_) ?_
                · go_simp
                  go_wp2_with (go_at_call 19; refine (ints_same R9.out V9.out (by rw [List.length_take]; omega)).mono ?_; rintro e w10 ⟨rfl, n10, rfl⟩; have B10 := Lib.hid (B9.out.trans (show Below w.heap.size w9 (w9.drewN n10) from ⟨rfl, rfl, rfl, Nat.le_refl _, fun _ _ => rfl⟩)); clear R9 V9; generalize w9.drewN n10 = w10 at *)
                  refine wpAny_ready (rs := [10]) (by kernel_rfl) (by simp) ?_
                  refine AllReady.cons rfl (fun K hK => ?_) ?_
                  · go_simp
                    refine hK _ _ ?_
                    clear hK K
                    refine wpAny_ready (rs := [11]) (by kernel_rfl) (by simp) ?_
                    refine AllReady.cons rfl (fun K hK => ?_) ?_
                    · go_simp
                      refine hK _ _ ?_
                      clear hK K
                      refine wpAny_ready (rs := [12]) (by kernel_rfl) (by simp) ?_
                      refine AllReady.cons rfl (fun K hK => ?_) ?_
                      · go_simp
                        go_wp2_with (go_at_call 10; refine (awake9_any _).mono ?_; rintro e w11 ⟨rfl, hb⟩)
                        refine wpAny_ready (rs := [13]) (by kernel_rfl) (by simp) ?_
                        refine AllReady.cons rfl (fun K hK => ?_) ?_
                        · go_simp
                          refine hK _ _ ?_
                          clear hK K
                          refine wpAny_ready (rs := [14]) (by kernel_rfl) (by simp) ?_
                          refine AllReady.cons rfl (fun K hK => ?_) ?_
                          · go_simp
                            refine hK _ _ ?_
                            clear hK K
                            refine wpAny_done (by kernel_rfl) ?_ _
                            go_wp2
                            go_ret
                            exact ⟨rfl, B10.out.trans (hb.mono B10.out.size)⟩
                          exact AllReady.nil
                        exact AllReady.nil
                      exact AllReady.nil
                    exact AllReady.nil
                  exact AllReady.nil
                exact AllReady.nil
              exact AllReady.nil
            refine AllReady.cons rfl (fun K hK => ?_) ?_
            · go_simp
              refine hK _ _ ?_
              clear hK K
              refine wpAny_ready (rs := [5]) (by kernel_rfl) (by simp) ?_
              refine AllReady.cons rfl (fun K hK => ?_) ?_
              · go_simp
                go_wp2_with (go_at_call 20; refine (t_order HD.out partM (by omega) (k : Int)).mono ?_; rintro e w9 ⟨v9, rfl, r9, h9, K9⟩; rw [HCUT.out] at r9; have R9 := Lib.hid r9; have V9 := Lib.hid (K9.rk HVD.out (fun b e => e) (fun b e => e.2)); have B9 := Lib.hid h9.bel; clear r9 h9 K9)
                refine wpAny_ready (rs := [9]) (by kernel_rfl) (by simp) ?_
                refine AllReady.cons rfl (fun K hK => ?_) ?_
                · go_simp
                  go_wp2_with (go_at_call 19; refine (ints_same R9.out V9.out (by rw [List.length_take]; omega)).mono ?_; rintro e w10 ⟨rfl, n10, rfl⟩; have B10 := Lib.hid (B9.out.trans (show Below w.heap.size w9 (w9.drewN n10) from ⟨rfl, rfl, rfl, Nat.le_refl _, fun _ _ => rfl⟩)); clear R9 V9; generalize w9.drewN n10 = w10 at *)
                  refine wpAny_ready (rs := [10]) (by kernel_rfl) (by simp) ?_
                  refine AllReady.cons rfl (fun K hK => ?_) ?_
                  · go_simp
                    refine hK _ _ ?_
                    clear hK K
                    refine wpAny_ready (rs := [11]) (by kernel_rfl) (by simp) ?_
                    refine AllReady.cons rfl (fun K hK => ?_) ?_
                    · go_simp
                      refine hK _ _ ?_
                      clear hK K
                      refine wpAny_ready (rs := [12]) (by kernel_rfl) (by simp) ?_
                      refine AllReady.cons rfl (fun K hK => ?_) ?_
                      · go_simp
                        go_wp2_with (go_at_call 10; refine (awake9_any _).mono ?_; rintro e w11 ⟨rfl, hb⟩)
                        refine wpAny_ready (rs := [13]) (by kernel_rfl) (by simp) ?_
                        refine AllReady.cons rfl (fun K hK => ?_) ?_
                        · go_simp
                          refine hK _ _ ?_
                          clear hK K
                          refine wpAny_ready (rs := [14]) (by kernel_rfl) (by simp) ?_
                          refine AllReady.cons rfl (fun K hK => ?_) ?_
                          · go_simp
                            refine hK _ _ ?_
                            clear hK K
                            refine wpAny_done (by kernel_rfl) ?_ _
                            go_wp2
                            go_ret
                            exact ⟨rfl, B10.out.trans (hb.mono B10.out.size)⟩
                          exact AllReady.nil
                        exact AllReady.nil
                      exact AllReady.nil
                    exact AllReady.nil
                  exact AllReady.nil
                exact AllReady.nil
              exact AllReady.nil
            exact AllReady.nil
          exact AllReady.nil
        refine AllReady.cons rfl (fun K hK => ?_) ?_
        · go_simp
          refine hK _ _ ?_
          clear hK K
          refine wpAny_ready (rs := [5, 6]) (by kernel_rfl) (by simp) ?_
          refine AllReady.cons rfl (fun K hK => ?_) ?_
          · go_simp
            go_wp2_with (go_at_call 20; refine (t_order HD.out partM (by omega) (k : Int)).mono ?_; rintro e w9 ⟨v9, rfl, r9, h9, K9⟩; rw [HCUT.out] at r9; have R9 := Lib.hid r9; have V9 := Lib.hid (K9.rk HVD.out (fun b e => e) (fun b e => e.2)); have B9 := Lib.hid h9.bel; clear r9 h9 K9)
            refine wpAny_ready (rs := [6]) (by kernel_rfl) (by simp) ?_
            refine AllReady.cons rfl (fun K hK => ?_) ?_
            · go_simp
              refine hK _ _ ?_
              clear hK K
              refine wpAny_ready (rs := [8]) (by kernel_rfl) (by simp) ?_
              refine AllReady.cons rfl (fun K hK => ?_) ?_
              · go_simp
                refine hK _ _ ?_
                clear hK K
                refine wpAny_ready (rs := [9]) (by kernel_rfl) (by simp) ?_
                refine AllReady.cons rfl (fun K hK => ?_) ?_
                · go_simp
                  go_wp2_with (go_at_call 19; refine (ints_same R9.out V9.out (by rw [List.length_take]; omega)).mono ?_; rintro e w10 ⟨rfl, n10, rfl⟩; have B10 := Lib.hid (B9.out.trans (show Below w.heap.size w9 (w9.drewN n10) from ⟨rfl, rfl, rfl, Nat.le_refl _, fun _ _ => rfl⟩)); clear R9 V9; generalize w9.drewN n10 = w10 at *)
                  refine wpAny_ready (rs := [10]) (by kernel_rfl) (by simp) ?_
                  refine AllReady.cons rfl (fun K hK => ?_) ?_
                  · go_simp
                    refine hK _ _ ?_
                    clear hK K
                    refine wpAny_ready (rs := [11]) (by kernel_rfl) (by simp) ?_
                    refine AllReady.cons rfl (fun K hK => ?_) ?_
                    · go_simp
                      refine hK _ _ ?_
                      clear hK K
                      refine wpAny_ready (rs := [12]) (by kernel_rfl) (by simp) ?_
                      refine AllReady.cons rfl (fun K hK => ?_) ?_
                      · go_simp
                        go_wp2_with (go_at_call 10; refine (awake9_any _).mono ?_; rintro e w11 ⟨rfl, hb⟩)
                        refine wpAny_ready (rs := [13]) (by kernel_rfl) (by simp) ?_
                        refine AllReady.cons rfl (fun K hK => ?_) ?_
                        · go_simp
                          refine hK _ _ ?_
                          clear hK K
                          refine wpAny_ready (rs := [14]) (by kernel_rfl) (by simp) ?_
                          refine AllReady.cons rfl (fun K hK => ?_) ?_
                          · go_simp
                            refine hK _ _ ?_
                            clear hK K
                            refine wpAny_done (by kernel_rfl) ?_ _
                            go_wp2
                            go_ret
                            exact ⟨rfl, B10.out.trans (hb.mono B10.out.size)⟩
                          exact AllReady.nil
                        exact AllReady.nil
                      exact AllReady.nil
                    exact AllReady.nil
                  exact AllReady.nil
                exact AllReady.nil
              exact AllReady.nil
            exact AllReady.nil
          refine AllReady.cons rfl (fun K hK => ?_) ?_
          · go_simp
            refine hK _ _ ?_
            clear hK K
            refine wpAny_ready (rs := [5, 8]) (by kernel_rfl) (by simp) ?_
            refine AllReady.cons rfl (fun K hK => ?_) ?_
            · go_simp
              go_wp2_with (go_at_call 20; refine (t_order HD.out partM (by omega) (k : Int)).mono ?_; rintro e w9 ⟨v9, rfl, r9, h9, K9⟩; rw [HCUT.out] at r9; have R9 := Lib.hid r9; have V9 := Lib.hid (K9.rk HVD.out (fun b e => e) (fun b e => e.2)); have B9 := Lib.hid h9.bel; clear r9 h9 K9)
              refine wpAny_ready (rs := [8]) (by kernel_rfl) (by simp) ?_
              refine AllReady.cons rfl (fun K hK => ?_) ?_
              · go_simp
                refine hK _ _ ?_
                clear hK K
                refine wpAny_ready (rs := [9]) (by kernel_rfl) (by simp) ?_
                refine AllReady.cons rfl (fun K hK => ?_) ?_
                · go_simp
                  go_wp2_with (go_at_call 19; refine (ints_same R9.out V9.out (by rw [List.length_take]; omega)).mono ?_; rintro e w10 ⟨rfl, n10, rfl⟩; have B10 := Lib.hid (B9.out.trans (show Below w.heap.size w9 (w9.drewN n10) from ⟨rfl, rfl, rfl, Nat.le_refl _, fun _ _ => rfl⟩)); clear R9 V9; generalize w9.drewN n10 = w10 at *)
                  refine wpAny_ready (rs := [10]) (by kernel_rfl) (by simp) ?_
                  refine AllReady.cons rfl (fun K hK => ?_) ?_
                  · go_simp
                    refine hK _ _ ?_
                    clear hK K
                    refine wpAny_ready (rs := [11]) (by kernel_rfl) (by simp) ?_
                    refine AllReady.cons rfl (fun K hK => ?_) ?_
                    · go_simp
                      refine hK _ _ ?_
                      clear hK K
                      refine wpAny_ready (rs := [12]) (by kernel_rfl) (by simp) ?_
                      refine AllReady.cons rfl (fun K hK => ?_) ?_
                      · go_simp
                        go_wp2_with (go_at_call 10; refine (awake9_any _).mono ?_; rintro e w11 ⟨rfl, hb⟩)
                        refine wpAny_ready (rs := [13]) (by kernel_rfl) (by simp) ?_
                        refine AllReady.cons rfl (fun K hK => ?_) ?_
                        · go_simp
                          refine hK _ _ ?_
                          clear hK K
                          refine wpAny_ready (rs := [14]) (by kernel_rfl) (by simp) ?_
                          refine AllReady.cons rfl (fun K hK => ?_) ?_
                          · go_simp
                            refine hK _ _ ?_
                            clear hK K
                            refine wpAny_done (by kernel_rfl) ?_ _
                            go_wp2
                            go_ret
                            exact ⟨rfl, B10.out.trans (hb.mono B10.out.size)⟩
                          exact AllReady.nil
                        exact AllReady.nil
                      exact AllReady.nil
                    exact AllReady.nil
                  exact AllReady.nil
                exact AllReady.nil
              exact AllReady.nil
            refine AllReady.cons rfl (fun K hK => ?_) ?_
            · go_simp
              refine hK _ _ ?_
              clear hK K
              refine wpAny_ready (rs := [5]) (by kernel_rfl) (by simp) ?_
              refine AllReady.cons rfl (fun K hK => ?_) ?_
              · go_simp
                go_wp2_with (go_at_call 20; refine (t_order HD.out partM (by omega) (k : Int)).mono ?_; rintro e w9 ⟨v9, rfl, r9, h9, K9⟩; rw [HCUT.out] at r9; have R9 := Lib.hid r9; have V9 := Lib.hid (K9.rk HVD.out (fun b e => e) (fun b e => e.2)); have B9 := Lib.hid h9.bel; clear r9 h9 K9)
                refine wpAny_ready (rs := [9]) (by kernel_rfl) (by simp) ?_
                refine AllReady.cons rfl (fun K hK => ?_) ?_
                · go_simp
                  go_wp2_with (go_at_call 19; refine (ints_same R9.out V9.out (by rw [List.length_take]; omega)).mono ?_; rintro e w10 ⟨rfl, n10, rfl⟩; have B10 := Lib.hid (B9.out.trans (show Below w.heap.size w9 (w9.drewN n10) from ⟨rfl, rfl, rfl, Nat.le_refl _, fun _ _ => rfl⟩)); clear R9 V9; generalize w9.drewN n10 = w10 at *)
                  refine wpAny_ready (rs := [10]) (by kernel_rfl) (by simp) ?_
                  refine AllReady.cons rfl (fun K hK => ?_) ?_
                  · go_simp
                    refine hK _ _ ?_
                    clear hK K
                    refine wpAny_ready (rs := [11]) (by kernel_rfl) (by simp) ?_
                    refine AllReady.cons rfl (fun K hK => ?_) ?_
                    · go_simp
                      refine hK _ _ ?_
                      clear hK K
                      refine wpAny_ready (rs := [12]) (by kernel_rfl) (by simp) ?_
                      refine AllReady.cons rfl (fun K hK => ?_) ?_
                      · go_simp
                        go_wp2_with (go_at_call 10; refine (awake9_any _).mono ?_; rintro e w11 ⟨rfl, hb⟩)
                        refine wpAny_ready (rs := [13]) (by kernel_rfl) (by simp) ?_
                        refine AllReady.cons rfl (fun K hK => ?_) ?_
                        · go_simp
                          refine hK _ _ ?_
                          clear hK K
                          refine wpAny_ready (rs := [14]) (by kernel_rfl) (by simp) ?_
                          refine AllReady.cons rfl (fun K hK => ?_) ?_
                          · go_simp
                            refine hK _ _ ?_
                            clear hK K
                            refine wpAny_done (by kernel_rfl) ?_ _
                            go_wp2
                            go_ret
                            exact ⟨rfl, B10.out.trans (hb.mono B10.out.size)⟩
                          exact AllReady.nil
                        exact AllReady.nil
                      exact AllReady.nil
                    exact AllReady.nil
                  exact AllReady.nil
                exact AllReady.nil
              exact AllReady.nil
            exact AllReady.nil
          exact AllReady.nil
        exact AllReady.nil
end Go.Proofs.Ytjaejdenboggpaa

/- The frame of ListsLRU and ListsDue: an argument that is a list of acts. -/
set_option maxRecDepth 100000
namespace Go.Proofs.Ytjaejdenboggpaa
open Go.ChangeShapes Go.WideShapes Go.ChangeAt Go.RowKit
section
variable {H : Type} {enc : TypeId × Value → H} {W : World}
theorem act_in9 {fuel : Nat} {cs : List Value} {x : DataW H × List MemPlace} (hf : DataW.trod enc Try.prog W 0 (fun _ => true) true fuel 31 cs = some x) :
    ∃ a : Ac9, cs = encA9 a ∧ (-9223372036854775808 ≤ a.kind ∧ a.kind ≤ 9223372036854775807) ∧ (-9223372036854775808 ≤ a.k ∧ a.k ≤ 9223372036854775807) ∧ (-9223372036854775808 ≤ a.at_ ∧ a.at_ ≤ 9223372036854775807) := by
  obtain ⟨ys, n, _, rfl, hl, hlen, hg⟩ := DataW.trod_struct Try.underlying31 hf
  have hl3 : cs.length = 3 := hl.trans (by kernel_rfl)
  match cs, hl3 with
  | [c0, c1, c2], _ =>
    have k1 : Try.prog.cellsOf 3 = 1 := by kernel_rfl
    match ys, hlen with
    | [y0, y1, y2], _ =>
      have g0 := hg 0 _ rfl
      have g1 := hg 1 _ rfl
      have g2 := hg 2 _ rfl
      simp [k1] at g0 g1 g2
      obtain ⟨z0, e0, _, h0⟩ := DataW.trod_int Try.underlying3 g0
      obtain ⟨z1, e1, _, h1⟩ := DataW.trod_int Try.underlying3 g1
      obtain ⟨z2, e2, _, h2⟩ := DataW.trod_int Try.underlying3 g2
      obtain rfl : c0 = .int .i64 z0 := by simpa using e0
      obtain rfl : c1 = .int .i64 z1 := by simpa using e1
      obtain rfl : c2 = .int .i64 z2 := by simpa using e2
      exact ⟨⟨z0, z1, z2⟩, rfl, bounds_i64 h0, bounds_i64 h1, bounds_i64 h2⟩
theorem arg_acts9 {b0 : Nat} {v : Value} {d : DataW H} {ps : List MemPlace} (hval : Value.okWide Try.prog W .any b0 22 v) (hd : DataW.Trod enc Try.prog W 0 (fun _ => true) true 22 v d ps) :
    ∃ l : List Ac9, RK encA9 (fun k => k < W.heap.size) v l W ∧ (∀ a ∈ l, (-9223372036854775808 ≤ a.kind ∧ a.kind ≤ 9223372036854775807) ∧ (-9223372036854775808 ≤ a.k ∧ a.k ≤ 9223372036854775807) ∧ (-9223372036854775808 ≤ a.at_ ∧ a.at_ ≤ 9223372036854775807)) ∧ l.length ≤ maxLen := by
  obtain ⟨a0, len, cap, rfl⟩ := okWide_slice Try.underlying22 hval
  obtain ⟨fuel, hf⟩ := hd
  rcases Go.Deep.open_slice Try.underlying22 hf with ⟨hcs, _⟩ | ⟨a, len', cap', m, n, D, Pl, hcs, _, hle, hmax, hm, _, hi⟩
  · simp [Value.cells] at hcs
    obtain ⟨rfl, rfl, rfl⟩ := hcs
    exact ⟨[], RK.nil _ _ _, by simp, zero_maxLen⟩
  · simp [Value.cells] at hcs
    obtain ⟨rfl, rfl, rfl⟩ := hcs
    simp only [if_true] at hm
    subst hm
    have k3 : Try.prog.cellsOf 31 = 3 := by kernel_rfl
    have hall : ∀ i, i < len → ∃ x : Ac9, (∀ j, j < 3 → W.cell? ((a.add (i * 3)).add j) = (encA9 x)[j]?) ∧ (-9223372036854775808 ≤ x.kind ∧ x.kind ≤ 9223372036854775807) ∧ (-9223372036854775808 ≤ x.k ∧ x.k ≤ 9223372036854775807) ∧ (-9223372036854775808 ≤ x.at_ ∧ x.at_ ≤ 9223372036854775807) := fun i hil => by
      obtain ⟨cs', hc, ht⟩ := hi i (by omega)
      rw [k3] at hc
      obtain ⟨_, _, hat⟩ := World.cells?_some hc
      obtain ⟨x, rfl, r⟩ := act_in9 ht
      exact ⟨x, hat, r⟩
    obtain ⟨F, hF⟩ : ∃ F : Nat → Ac9, ∀ i, i < len → (∀ j, j < 3 → W.cell? ((a.add (i * 3)).add j) = (encA9 (F i))[j]?) ∧ (-9223372036854775808 ≤ (F i).kind ∧ (F i).kind ≤ 9223372036854775807) ∧ (-9223372036854775808 ≤ (F i).k ∧ (F i).k ≤ 9223372036854775807) ∧ (-9223372036854775808 ≤ (F i).at_ ∧ (F i).at_ ≤ 9223372036854775807) :=
      ⟨fun i => if h : i < len then (hall i h).choose else ⟨0, 0, 0⟩, fun i h => by have h5 := (hall i h).choose_spec; simp only [h, dite_true]; exact h5⟩
    refine ⟨(List.range len).map F, ?_, fun x hx => ?_, by simp; omega⟩
    · by_cases h0 : 0 < len
      · obtain ⟨b, off, spot⟩ := a
        have c00 := (hF 0 h0).1 0 (by omega)
        have hspot : spot = none := by simpa [Addr.add] using World.cell?_spot (show W.cell? _ = some _ from c00)
        subst hspot
        have hz := RK.ofEach (enc := encA9) encA9_len (by omega) (l := (List.range len).map F) (W := W) (b := b) (off := off) (cap := m) (by simp; omega) (fun i hi f hf => by
          rw [List.length_map, List.length_range] at hi
          have h1 := (hF i hi).1 f hf
          rw [add_plain, add_plain, Nat.add_assoc] at h1
          rw [h1, List.getElem_map, List.getElem_range])
        rw [List.length_map, List.length_range] at hz
        exact hz
      · obtain rfl : len = 0 := by omega
        exact ⟨some a, m, rfl, Nat.zero_le _, fun j u hu => by simp at hu⟩
    · obtain ⟨i, hi, rfl⟩ := List.mem_map.1 hx
      exact (hF i (List.mem_range.1 hi)).2
end
end Go.Proofs.Ytjaejdenboggpaa

/- ListsLRU of package freshetlaw9 (whatever is added, used and dropped, each act tells, and who would go first, is as the document says) returns true at every int, list of acts and int.
   Conditions: those of the row, none beside. -/
namespace Go.Proofs.Ytjaejdenboggpaa.listsLRU
open Go.ChangeShapes Go.WideShapes Go.ChangeAt Go.RowKit

set_option maxRecDepth 100000 in
theorem contract (H : Type) (enc : TypeId × Value → H) (W : World) (base : Nat) (args : Array Value) (ds gs : List (DataW H)) (before : List MemPlace)
    (hval : ∀ (j : Nat) t v, Try.f3.params[j]? = some t → args[j]? = some v → Value.okWide Try.prog W .any base t v)
    (hW : DataW.Whole enc Try.prog Try.f3.params.toList Rows.listsLRUSpec.vars false W args.toList ds gs before) (_hL : laidMetH Try.prog laidList W) :
    Calls Try.prog 3 args W fun e W' => ∃ v, e = .returned v ∧ Rows.listsLRUSpec.post enc Try.prog Try.f3 false true false false W args v W' := by
  have hW' := hW
  obtain ⟨p, q, hA0, hV, rfl, _, _⟩ := hW
  have hA : DataW.TrodAll enc Try.prog W 0 (fun _ => true) true Try.f3.params.toList args.toList ds p := hA0
  clear hA0
  rw [Try.params3] at hA hval
  obtain ⟨v0, vs0, d0, ds0, p0, q0, hargs0, rfl, rfl, h0, r0⟩ := trodAll_cons hA
  obtain ⟨v1, vs1, d1, ds1, p1, q1, hargs1, rfl, rfl, h1, r1⟩ := trodAll_cons r0
  subst hargs1
  obtain ⟨v2, vs2, d2, ds2, p2, q2, hargs2, rfl, rfl, h2, r2⟩ := trodAll_cons r1
  subst hargs2
  obtain ⟨rfl, rfl, rfl⟩ := trodAll_nil r2
  obtain rfl : args = #[v0, v1, v2] := by cases args; simp_all
  obtain ⟨rfl, rfl⟩ := trodVars_none hV
  obtain ⟨z0, rfl, hz0⟩ := arg_int (hval 0 _ _ rfl rfl) h0
  obtain ⟨L1, hr1, hb1, hl1⟩ := arg_acts9 (hval 1 _ v1 rfl rfl) h1
  obtain ⟨z2, rfl, hz2⟩ := arg_int (hval 2 _ _ rfl rfl) h2
  refine (lru9_any z0 z2 v1 L1 W hz0 hz2 hr1 hb1 hl1).mono fun e W' ⟨he, hbl⟩ => ?_
  exact ⟨_, he, law_post hW' rfl hbl rfl rfl (fun t ht => readT9 t (by rw [Try.params3] at ht; exact (show ∀ t ∈ (#[3, 22, 3] : Array TypeId).toList, t ∈ [3, 27, 22] by decide) t ht))⟩

set_option maxRecDepth 100000 in
theorem reads (os : Os) {H : Type} (enc : TypeId × Value → H) : ∃ places, DataW.whole enc Try.prog ((laidWorld os).forCall (fun _ _ => 0) ⟨#[], #[.int .i64 0, .slice none 0 0, .int .i64 0], []⟩).memory Try.f3.params.toList Rows.listsLRUSpec.vars false (#[.int .i64 0, .slice none 0 0, .int .i64 0] : Array Value).toList 8 = some ([.lit (.int .i64 0), .nil, .lit (.int .i64 0)], [], places) :=
  ⟨[], by kernel_rfl⟩

set_option maxRecDepth 100000 in
theorem lifted (os : Os) (started : os.Started) (H : Type) (enc : TypeId × Value → H) (F : Stop.Interp) :
    ReturnsInHanded {} Try.checked os 3 .any ((OpenSpec.ofChange Rows.listsLRUSpec).preRow enc Try.prog Try.f3 Rows.listsLRURow.domain false Rows.listsLRURow.laid) (((OpenSpec.ofChange Rows.listsLRUSpec).at F).post enc Try.prog Try.f3 false true false false) := by
  obtain ⟨places, hx⟩ := reads os enc
  refine returnsInHanded_of_row (C := Try.checked) (s := OpenSpec.ofChange Rows.listsLRUSpec) own started (by kernel_rfl) Try.func3
    (witness_row_atRef (enc := enc) (C := Try.checked) false (laidWorld os) #[.int .i64 0, .slice none 0 0, .int .i64 0] rfl (by kernel_rfl) (by kernel_rfl) (by kernel_rfl)
      (OpenSpec.preRow_of_cond 8 hx (by kernel_rfl) (fun k hk => by cases hk) (by kernel_rfl) (laid_met os _))) ?_
  intro W base args ds gs before hval hW _ _ _ hL _ _
  exact contract H enc W base args ds gs before hval hW hL

theorem said : Rows.ListsLRUSaid :=
  OpenClaim.holds_of_cond 3 Try.f3 rfl rfl rfl rfl rfl rfl rfl ⟨rfl, rfl, rfl, rfl, rfl⟩ rfl rfl rfl rfl rfl (by kernel_rfl) Try.func3 (by kernel_rfl)
    (of_decide_eq_true (by kernel_rfl)) (by unfold Func.isWrapper; first | (rw [if_pos (by decide +kernel)]; kernel_rfl) | (rw [if_neg (by decide +kernel)]; exact ⟨rfl, rfl⟩))
    (fun os started H enc _ F => by rw [OpenClaim.pre_eq_preRow]; exact lifted os started H enc F)
end Go.Proofs.Ytjaejdenboggpaa.listsLRU
