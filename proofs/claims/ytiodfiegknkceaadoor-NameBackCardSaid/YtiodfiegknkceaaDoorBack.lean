/- NameBack: its walk. -/
import Derived.Test.YtiodfiegknkceaaDoorTextMath
import Derived.Test.YtiodfiegknkceaaDoorRound
import Derived.Test.YtiodfiegknkceaaDoorShort
import Derived.Test.YtiodfiegknkceaaDoorFrame
import Derived.Deep.CutRange
import Derived.Deep.QuietTactic
import Derived.BigQuiet
namespace Go.Proofs.YtiodfiegknkceaaDoor
open Go.ChangeShapes Go.WideShapes Go.ChangeAt
open Go.RowKit Go.Shelf
attribute [local go_sem] Oper.semAt_some

/-- A slice of strings that is read, and holds no more than its room. -/
structure ReadC (v : Value) (ls : List (List UInt8)) (W : World) : Prop where
  read : ReadS v ls W
  cap : ∃ ao cap, v = .slice ao ls.length cap ∧ ls.length ≤ cap
theorem arg_strings_cap {H : Type} {enc : TypeId × Value → H} {W : World} {b0 : Nat} {v : Value} {d : DataW H} {ps : List MemPlace} (hval : Value.okWide Tryd.prog W .any b0 23 v) (hd : DataW.Trod enc Tryd.prog W 0 (fun _ => true) true 23 v d ps) :
    ∃ ls : List (List UInt8), ReadC v ls W ∧ (∀ l ∈ ls, l.length ≤ maxLen) ∧ ls.length ≤ maxLen := by
  obtain ⟨ls, hr, h1, h2⟩ := arg_strings hval hd
  refine ⟨ls, ⟨hr, ?_⟩, h1, h2⟩
  obtain ⟨a0, len, cap, rfl⟩ := okWide_slice Tryd.underlying23 hval
  obtain ⟨ao, cap', e, _⟩ := hr.form
  obtain ⟨fuel, hf⟩ := hd
  rcases Go.ChangeShapes.open_strings Tryd.underlying23 Tryd.underlying9 (by kernel_rfl) hf with ⟨hcs, _⟩ | ⟨a, len', cap', zs, hcs, _, hle, _, _, _, _, _⟩
  · simp [Value.cells] at hcs
    obtain ⟨rfl, rfl, rfl⟩ := hcs
    injection e with e1 e2 e3
    exact ⟨_, _, by rw [e2], by omega⟩
  · simp [Value.cells] at hcs
    obtain ⟨rfl, rfl, rfl⟩ := hcs
    injection e with e1 e2 e3
    exact ⟨_, _, by rw [e2], by omega⟩
theorem readS_take {ao : Option Addr} {cap : Nat} {ls : List (List UInt8)} {W : World} (h : ReadS (.slice ao ls.length cap) ls W) {k : Nat} (hk : k ≤ ls.length) : ReadS (.slice ao k cap) (ls.take k) W := by
  obtain ⟨ao', cap', e, hc⟩ := h.form
  injection e with e1 e2 e3
  subst e1 e3
  have hl : (ls.take k).length = k := by rw [List.length_take]; omega
  exact ⟨ao, cap, by rw [hl], fun j hj => by
    obtain ⟨b, off, e, c⟩ := hc j (by omega)
    exact ⟨b, off, e, by rw [List.getElem_take]; exact c⟩⟩

theorem below_drewN (B : Nat) (w : World) (n : Nat) : Below B w (w.drewN n) := ⟨rfl, rfl, rfl, Nat.le_refl _, fun _ _ => rfl⟩
namespace Nm
theorem walkL_neg (n : List UInt8) : walkL n (-1) = labsD n := by unfold walkL; rw [if_neg (by omega)]
theorem walkL_nat (n : List UInt8) (k : Nat) (h1 : 1 ≤ k) (h2 : k ≤ (labsD n).length) : walkL n (k : Int) = (labsD n).take k := by unfold walkL; rw [if_pos (by omega), Int.toNat_natCast]
/-- Up from parent to parent. -/
theorem up_facts {ls : List (List UInt8)} {n : List UInt8} (hj : join ls = some n) {i : Nat} (hi : i < ls.length) :
    made (ls.drop i) ≠ [0] ∧ under n (made (ls.drop i)) = true ∧ commonC n (made (ls.drop i)) = made (ls.drop i) ∧ parent (made (ls.drop i)) = made (ls.drop (i + 1)) ∧ (made (ls.drop i)).length ≤ 255 := by
  obtain ⟨e, g, hl⟩ := join_some.1 hj
  have gd : good (ls.drop i) := fun x hx => g x (List.mem_of_mem_drop hx)
  have hne : ls.drop i ≠ [] := by intro e; have := congrArg List.length e; simp at this; omega
  have hle : (made (ls.drop i)).length ≤ 255 := by
    have := encL_append (ls.take i) (ls.drop i)
    rw [List.take_append_drop] at this
    rw [e, made_length] at hl
    rw [made_length]; omega
  have hvn : valid n = true := by rw [e]; exact valid_made g (by rw [← e]; exact hl)
  have hvu := valid_made gd hle
  have hdn : labsD n = ls := by rw [e]; exact labsD_of_made g (by rw [← e]; exact hl)
  have hdu := labsD_of_made gd hle
  have hj2 : join (ls.take i ++ labsD (made (ls.drop i))) = some n := by rw [hdu, List.take_append_drop]; exact hj
  obtain ⟨_, _, _, h1, h2, _⟩ := ahead hvu hj2
  refine ⟨made_ne hne gd, h1, h2, ?_, hle⟩
  unfold parent
  rw [hdu, List.drop_eq_getElem_cons hi]
end Nm

set_option maxRecDepth 100000 in
set_option maxHeartbeats 4000000 in
theorem back_any (ls : List (List UInt8)) (sv : Value) (z : Int) (w : World) (hrc : ReadC sv ls w) (hlen : ls.length ≤ 9223372036854775807) (hl : ∀ l ∈ ls, l.length ≤ 9223372036854775807) (hz : -9223372036854775808 ≤ z ∧ z ≤ 9223372036854775807) (hv : VarsOk w) :
    Calls Tryd.prog 6 #[sv, .int .i64 z] w fun e w' => e = .returned (.bool true) ∧ Below w.heap.size w w' := by
  obtain ⟨hr, ao, cap, rfl, hcap⟩ := hrc
  have HLM := Lib.hid hl
  clear hl
  cases hxs : decide ((Nm.encL ls : Int) ≤ 300)
  · have HXS := Lib.hid hxs
    clear hxs
    go_enter Tryd.func6, Tryd.ntmps6
    go_wp2_with (first
      | (go_at_call 25; refine (short_any ls _ 300 _ hr hlen HLM.out (by omega)).mono ?_; rw [HXS.out]; rintro e w' ⟨rfl, rfl⟩)
      | (go_at_call 11; refine (awake_any _ hv).mono ?_; rintro e w1 ⟨rfl, b1⟩))
    go_ret
    exact ⟨rfl, b1⟩
  have HXS := Lib.hid hxs
  have h300 : Nm.encL ls ≤ 300 := by rw [decide_eq_true_eq] at hxs; omega
  have hl300 : ls.length ≤ 300 := Nat.le_trans Nm.length_le_encL h300
  have HLL : Hid (∀ l ∈ ls, l.length ≤ 100000) := Lib.hid (fun l h => by have := Nm.encL_mem h; omega)
  clear hxs
  have bb : Below w.heap.size w w := Below.refl _ _
  cases hj : Nm.join ls with
  | none =>
    have HJ := Lib.hid (joinRet_none hj)
    clear hj
    go_enter Tryd.func6, Tryd.ntmps6
    go_wp2_with (first
      | (go_at_call 25; refine (short_any ls _ 300 _ hr hlen HLM.out (by omega)).mono ?_; rw [HXS.out]; rintro e w' ⟨rfl, rfl⟩)
      | (go_at_call 26; refine (join_any ls _ _ hr (by omega) HLL.out).mono ?_; rw [HJ.out]; rintro e w' ⟨rfl, b1⟩; replace bb := below_trans bb b1; clear b1)
      | (go_at_call 11; refine (awake_any _ (hv.below bb)).mono ?_; rintro e w' ⟨rfl, b1⟩; replace bb := below_trans bb b1; clear b1))
    go_ret
    exact ⟨rfl, bb⟩
  | some n =>
    have HJ := Lib.hid (joinRet_some hj)
    obtain ⟨e, g, hnl⟩ := Nm.join_some.1 hj
    have hvn : Nm.valid n = true := by rw [e]; exact Nm.valid_made g (by rw [← e]; exact hnl)
    have hdn : Nm.labsD n = ls := by rw [e]; exact Nm.labsD_of_made g (by rw [← e]; exact hnl)
    obtain ⟨t, ht⟩ : ∃ t, Nm.text n = t := ⟨_, rfl⟩
    have HT := Lib.hid ht
    have HP : Hid (parseRet t = .tuple #[.string ⟨n.toArray⟩, .int .i64 0]) := Lib.hid (by unfold parseRet; rw [← ht, Nm.parse_of_text hvn]; rfl)
    have htl : t.length ≤ 1020 := by
      rw [← ht]
      unfold Nm.text
      split
      · simp
      · have := (Nm.text_len (Nm.labsD n)).2
        rw [hdn] at this ⊢
        rw [e, Nm.made_length] at hnl
        omega
    have HW1 : Hid (Nm.walkL n (-1) = ls) := Lib.hid (by rw [Nm.walkL_neg, hdn])
    have HC : Hid ((Nm.labsD n).length = ls.length) := Lib.hid (by rw [hdn])
    have HE : Hid ((ls == ls) = true) := Lib.hid (by simp)
    obtain ⟨hk1, hk2⟩ := roundI_bounds z ((ls.length : Int) + 1) (by omega)
    obtain ⟨kk, hkk⟩ := Int.eq_ofNat_of_zero_le hk1
    have hkl : kk ≤ ls.length := by omega
    have HK := Lib.hid hkk
    have HUP := Lib.hid (fun (i : Nat) (hi : i < ls.length) => Nm.up_facts hj hi)
    have HEND : Hid (Nm.made (ls.drop ls.length) = [0]) := Lib.hid (by rw [List.drop_length]; rfl)
    have HN : Hid (n = Nm.made (ls.drop 0)) := Lib.hid e
    have HW2 : Hid (1 ≤ kk → Nm.walkL n (kk : Int) = ls.take kk) := Lib.hid (fun h => by rw [Nm.walkL_nat n kk h (by rw [hdn]; exact hkl), hdn])
    have HRD := Lib.hid (fun (W : World) (h : Below w.heap.size w W) => readS_take (readS_below hr h) hkl)
    clear hkk hk1 hk2 e g hvn hdn hj ht
    have hkcap : kk ≤ cap := by omega
    go_enter Tryd.func6, Tryd.ntmps6
    go_wp2_with (first
      | (go_at_call 25; refine (short_any ls _ 300 _ hr hlen HLM.out (by omega)).mono ?_; rw [HXS.out]; rintro e w' ⟨rfl, rfl⟩)
      | (go_at_call 26; refine (join_any ls _ _ hr (by omega) HLL.out).mono ?_; rw [HJ.out]; rintro e w' ⟨rfl, b1⟩; replace bb := below_trans bb b1; clear b1)
      | (go_at_call 23; refine (text_any n _ (by omega)).mono ?_; rw [HT.out]; rintro e w' ⟨rfl, b1⟩; replace bb := below_trans bb b1; clear b1)
      | (go_at_call 13; refine (parse_any t _ (by omega) (hv.below bb)).mono ?_; rw [HP.out]; rintro e w' ⟨rfl, b1⟩; replace bb := below_trans bb b1; clear b1)
      | (go_at_call 17; refine (walk_any n (-1) _ (by omega)).mono ?_; rw [HW1.out]; rintro e w' ⟨v, rfl, ho, b1⟩; replace bb := below_trans bb b1; clear b1)
      | (go_at_call 16; refine (texts_any ls ls _ _ _ (ownS_read ho) (readS_below hr bb) (by omega) (by omega)).mono ?_; rw [HE.out]; rintro e w' ⟨rfl, b1⟩; replace bb := below_trans bb b1.below; clear b1 ho)
      | (go_at_call 18; refine (count_any n _ (by omega)).mono ?_; rw [HC.out]; rintro e w' ⟨rfl, b1⟩; replace bb := below_trans bb b1; clear b1)
      | (go_at_call 36; refine (round_any z ((ls.length : Int) + 1) _ (by omega) (by omega) hz.1 hz.2).mono ?_; rw [HK.out]; rintro e w' ⟨rfl, rfl⟩))
    go_cut [71] from 60 to 71 (fun b wx => b = .bool false ∧ Below w.heap.size w wx)
    case first =>
      rcases Nat.eq_zero_or_pos kk with rfl | hpos
      · rw [show ((0 : Nat) : Int) = 0 from rfl]
        go_quiet (fail)
        go_wp2
        go_meet
        case rel => exact ⟨rfl, bb.trans (below_drewN _ _ _)⟩
      · have HW3 := Lib.hid (HW2.out hpos)
        have HRD2 := Lib.hid HRD.out
        have hpi : decide ((0 : Int) < (kk : Int)) = true := by rw [decide_eq_true_eq]; omega
        have HE2 : Hid ((ls.take kk == ls.take kk) = true) := Lib.hid (by simp)
        have hkl2 : (ls.take kk).length ≤ 300 := by rw [List.length_take]; omega
        go_region_with (first
          | (go_at_call 17; refine (walk_any n (kk : Int) _ (by omega)).mono ?_; rw [HW3.out]; rintro e w' ⟨v, rfl, ho, b1⟩; replace bb := below_trans bb.drew b1; clear b1)
          | (go_at_call 16; refine (texts_any (ls.take kk) (ls.take kk) _ _ _ (ownS_read ho) (HRD2.out _ bb) (by omega) (by omega)).mono ?_; rw [HE2.out]; rintro e w' ⟨rfl, b1⟩; replace bb := below_trans bb b1.below; clear b1 ho))
        simp only [List.getElem_toArray, List.getElem_cons_succ, List.getElem_cons_zero, Act.put, List.setIfInBounds_toArray, List.set_cons_succ, List.set_cons_zero]
        go_wp2
        go_meet
        case rel => exact ⟨rfl, bb⟩
    case rest =>
      obtain ⟨rfl, bb⟩ := hcut
      go_wp2
      go_loopw [10, 11] (fun u s wr => ∃ (i : Nat) (m : List UInt8), i ≤ ls.length ∧ s = .int .i64 (i : Int) ∧ u = .string ⟨m.toArray⟩ ∧ Hid (m = Nm.made (ls.drop i)) ∧ Below w.heap.size w wr) (fun _ s _ => ls.length + 1 - (intOf s).toNat)
      case atStart => exact ⟨0, n, by omega, rfl, rfl, HN, bb⟩
      case round =>
        obtain ⟨i, m, hi, rfl, rfl, hm, bw⟩ := hrel
        by_cases hlt : i < ls.length
        · obtain ⟨f1, f2, f3, f4, f5⟩ := HUP.out i hlt
          rw [← hm.out] at f1 f2 f3 f4 f5
          have F2 := Lib.hid f2
          have F3 := Lib.hid f3
          have t1 : (m == [0]) = false := by simpa using f1
          have HM : Hid (Nm.parent m = Nm.made (ls.drop (i + 1))) := Lib.hid f4
          obtain ⟨m2, hm2⟩ : ∃ m2, Nm.parent m = m2 := ⟨_, rfl⟩
          have HM2 := Lib.hid hm2
          have HM3 : Hid (m2 = Nm.made (ls.drop (i + 1))) := Lib.hid (by rw [← hm2]; exact f4)
          clear f1 f2 f3 f4 hm2 hm
          go_wp2_with (first
            | (go_at_call 30; refine (under_any n m _ (by omega) (by omega)).mono ?_; rw [F2.out]; rintro e w' ⟨rfl, b1⟩; replace bw := below_trans bw b1; clear b1)
            | (go_at_call 34; refine (common_any n m _ (by omega) (by omega)).mono ?_; rw [F3.out]; rintro e w' ⟨rfl, b1⟩; replace bw := below_trans bw b1; clear b1)
            | (go_at_call 21; refine (parent_any m _ (by omega)).mono ?_; rw [HM2.out]; rintro e w' ⟨rfl, b1⟩; replace bw := below_trans bw b1; clear b1))
          exact ⟨⟨i + 1, m2, by omega, by go_num, rfl, HM3, bw⟩, by simp [intOf]; omega⟩
        · obtain rfl : i = ls.length := by omega
          obtain rfl : m = [0] := by rw [hm.out, HEND.out]
          have HR := Lib.hid (show Nm.parent [0] = [0] from by decide +kernel)
          clear hm
          go_wp2_with (first
            | (go_at_call 21; refine (parent_any [0] _ (by simp)).mono ?_; rw [HR.out]; rintro e w' ⟨rfl, b1⟩; replace bw := below_trans bw b1; clear b1)
            | (go_at_call 11; refine (awake_any _ (hv.below bw)).mono ?_; rintro e w' ⟨rfl, b1⟩; replace bw := below_trans bw b1; clear b1))
          go_ret
          exact ⟨rfl, bw⟩
end Go.Proofs.YtiodfiegknkceaaDoor
