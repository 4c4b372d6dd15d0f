/- NamePairs: its walk. -/
import Derived.Test.YtiodfiegknkceaaDoorRef3
import Derived.Test.YtiodfiegknkceaaDoorLess
import Derived.Test.YtiodfiegknkceaaDoorFrame
namespace Go.Proofs.YtiodfiegknkceaaDoor
open Go.RowKit Go.Shelf
attribute [local go_sem] Oper.semAt_some

set_option maxRecDepth 100000 in
set_option maxHeartbeats 4000000 in
theorem pairs_any (a b : List UInt8) (ls : List (List UInt8)) (sv : Value) (w : World) (ha : a.length ≤ 9223372036854775807) (hb : b.length ≤ 9223372036854775807) (hr : ReadS sv ls w) (hlen : ls.length ≤ 9223372036854775807) (hl : ∀ l ∈ ls, l.length ≤ 9223372036854775807) (hv : VarsOk w) :
    Calls Tryd.prog 4 #[.string ⟨a.toArray⟩, .string ⟨b.toArray⟩, sv] w fun e w' => e = .returned (.bool true) ∧ Below w.heap.size w w' := by
  have HLM := Lib.hid hl
  clear hl
  obtain ⟨xs, hxs⟩ : ∃ x, decide ((Nm.encL ls : Int) ≤ 500) = x := ⟨_, rfl⟩
  have HXS := Lib.hid hxs
  have bb : Below w.heap.size w w := Below.refl _ _
  by_cases hg : 300 < a.length ∨ 300 < b.length ∨ xs = false
  · have hcase : 300 < a.length ∨ (a.length ≤ 300 ∧ 300 < b.length) ∨ (a.length ≤ 300 ∧ b.length ≤ 300 ∧ xs = false) := by
      by_cases h1 : 300 < a.length
      · exact .inl h1
      · by_cases h2 : 300 < b.length
        · exact .inr (.inl ⟨by omega, h2⟩)
        · cases xs
          · exact .inr (.inr ⟨by omega, by omega, rfl⟩)
          · simp at hg; omega
    clear hg hxs
    rcases hcase with g1 | ⟨g1, g2⟩ | ⟨g1, g2, rfl⟩
    all_goals
      go_enter Tryd.func4, Tryd.ntmps4
      go_wp2_with (first
        | (go_at_call 25; refine (short_any ls _ 500 _ hr hlen HLM.out (by omega)).mono ?_; rw [HXS.out]; rintro e w' ⟨rfl, rfl⟩)
        | (go_at_call 11; refine (awake_any _ hv).mono ?_; rintro e w' ⟨rfl, b1⟩; replace bb := below_trans bb b1; clear b1))
      go_ret
      exact ⟨rfl, bb⟩
  have g1 : a.length ≤ 300 := by omega
  have g2 : b.length ≤ 300 := by omega
  obtain rfl : xs = true := by cases xs <;> simp_all
  have h500 : Nm.encL ls ≤ 500 := by rw [decide_eq_true_eq] at hxs; omega
  have hl500 : ls.length ≤ 500 := Nat.le_trans Nm.length_le_encL h500
  have HLL : Hid (∀ l ∈ ls, l.length ≤ 100000) := Lib.hid (fun l h => by have := Nm.encL_mem h; omega)
  obtain ⟨sm, hsm⟩ : ∃ x, Nm.same a b = x := ⟨_, rfl⟩
  obtain ⟨un, hun⟩ : ∃ x, Nm.under a b = x := ⟨_, rfl⟩
  obtain ⟨le, hle⟩ : ∃ x, Nm.less a b = x := ⟨_, rfl⟩
  obtain ⟨co, hco⟩ : ∃ x, Nm.commonC a b = x := ⟨_, rfl⟩
  have HSM := Lib.hid hsm
  have HUN := Lib.hid hun
  have HLE := Lib.hid hle
  have HCO := Lib.hid hco
  clear hg hxs hsm hun hle hco
  cases hj : Nm.join ls with
  | none =>
    have HJ := Lib.hid (joinRet_none hj)
    have HJR := Lib.hid (rjoinRet_none hj)
    clear hj
    go_enter Tryd.func4, Tryd.ntmps4
    go_wp2_with (first
      | (go_at_call 25; refine (short_any ls _ 500 _ hr hlen HLM.out (by omega)).mono ?_; rw [HXS.out]; rintro e w' ⟨rfl, rfl⟩)
      | (go_at_call 26; refine (join_any ls _ _ hr (by omega) HLL.out).mono ?_; rw [HJ.out]; rintro e w' ⟨rfl, b1⟩; replace bb := below_trans bb b1; clear b1)
      | (go_at_call 27; refine (rjoin_any ls _ _ (readS_below hr bb) (by omega)).mono ?_; rw [HJR.out]; rintro e w' ⟨rfl, b1⟩; replace bb := below_trans bb b1; clear b1)
      | (go_at_call 28; refine (same_any a b _ (by omega) (by omega)).mono ?_; rw [HSM.out]; rintro e w' ⟨rfl, b1⟩; replace bb := below_trans bb b1.below; clear b1)
      | (go_at_call 29; refine (rsame_any a b _ (by omega) (by omega)).mono ?_; rw [HSM.out]; rintro e w' ⟨rfl, b1⟩; replace bb := below_trans bb b1; clear b1)
      | (go_at_call 30; refine (under_any a b _ (by omega) (by omega)).mono ?_; rw [HUN.out]; rintro e w' ⟨rfl, b1⟩; replace bb := below_trans bb b1; clear b1)
      | (go_at_call 31; refine (runder_any a b _ (by omega) (by omega)).mono ?_; rw [HUN.out]; rintro e w' ⟨rfl, b1⟩; replace bb := below_trans bb b1; clear b1)
      | (go_at_call 32; refine (less_any a b _ (by omega) (by omega)).mono ?_; rw [HLE.out]; rintro e w' ⟨rfl, b1⟩; replace bb := below_trans bb b1; clear b1)
      | (go_at_call 33; refine (rless_any a b _ (by omega) (by omega)).mono ?_; rw [HLE.out]; rintro e w' ⟨rfl, b1⟩; replace bb := below_trans bb b1; clear b1)
      | (go_at_call 34; refine (common_any a b _ (by omega) (by omega)).mono ?_; rw [HCO.out]; rintro e w' ⟨rfl, b1⟩; replace bb := below_trans bb b1; clear b1)
      | (go_at_call 35; refine (rcommon_any a b _ (by omega) (by omega)).mono ?_; rw [HCO.out]; rintro e w' ⟨rfl, b1⟩; replace bb := below_trans bb b1; clear b1)
      | (go_at_call 11; refine (awake_any _ (hv.below bb)).mono ?_; rintro e w' ⟨rfl, b1⟩; replace bb := below_trans bb b1; clear b1))
    all_goals first
      | (exfalso; simp_all [undef]; done)
      | (go_ret; exact ⟨rfl, bb⟩)
  | some n =>
    have HJ := Lib.hid (joinRet_some hj)
    have HJR := Lib.hid (rjoinRet_some hj)
    clear hj
    go_enter Tryd.func4, Tryd.ntmps4
    go_wp2_with (first
      | (go_at_call 25; refine (short_any ls _ 500 _ hr hlen HLM.out (by omega)).mono ?_; rw [HXS.out]; rintro e w' ⟨rfl, rfl⟩)
      | (go_at_call 26; refine (join_any ls _ _ hr (by omega) HLL.out).mono ?_; rw [HJ.out]; rintro e w' ⟨rfl, b1⟩; replace bb := below_trans bb b1; clear b1)
      | (go_at_call 27; refine (rjoin_any ls _ _ (readS_below hr bb) (by omega)).mono ?_; rw [HJR.out]; rintro e w' ⟨rfl, b1⟩; replace bb := below_trans bb b1; clear b1)
      | (go_at_call 28; refine (same_any a b _ (by omega) (by omega)).mono ?_; rw [HSM.out]; rintro e w' ⟨rfl, b1⟩; replace bb := below_trans bb b1.below; clear b1)
      | (go_at_call 29; refine (rsame_any a b _ (by omega) (by omega)).mono ?_; rw [HSM.out]; rintro e w' ⟨rfl, b1⟩; replace bb := below_trans bb b1; clear b1)
      | (go_at_call 30; refine (under_any a b _ (by omega) (by omega)).mono ?_; rw [HUN.out]; rintro e w' ⟨rfl, b1⟩; replace bb := below_trans bb b1; clear b1)
      | (go_at_call 31; refine (runder_any a b _ (by omega) (by omega)).mono ?_; rw [HUN.out]; rintro e w' ⟨rfl, b1⟩; replace bb := below_trans bb b1; clear b1)
      | (go_at_call 32; refine (less_any a b _ (by omega) (by omega)).mono ?_; rw [HLE.out]; rintro e w' ⟨rfl, b1⟩; replace bb := below_trans bb b1; clear b1)
      | (go_at_call 33; refine (rless_any a b _ (by omega) (by omega)).mono ?_; rw [HLE.out]; rintro e w' ⟨rfl, b1⟩; replace bb := below_trans bb b1; clear b1)
      | (go_at_call 34; refine (common_any a b _ (by omega) (by omega)).mono ?_; rw [HCO.out]; rintro e w' ⟨rfl, b1⟩; replace bb := below_trans bb b1; clear b1)
      | (go_at_call 35; refine (rcommon_any a b _ (by omega) (by omega)).mono ?_; rw [HCO.out]; rintro e w' ⟨rfl, b1⟩; replace bb := below_trans bb b1; clear b1)
      | (go_at_call 11; refine (awake_any _ (hv.below bb)).mono ?_; rintro e w' ⟨rfl, b1⟩; replace bb := below_trans bb b1; clear b1))
    all_goals first
      | (exfalso; simp_all [undef]; done)
      | (go_ret; exact ⟨rfl, bb⟩)
end Go.Proofs.YtiodfiegknkceaaDoor
