/- NameTells: its walk. -/
import Derived.Test.YtiodfiegknkceaaDoorRef5
import Derived.Test.YtiodfiegknkceaaDoorFrame
namespace Go.Proofs.YtiodfiegknkceaaDoor
open Go.RowKit Go.Shelf
attribute [local go_sem] Oper.semAt_some

set_option maxRecDepth 100000 in
set_option maxHeartbeats 8000000 in
theorem tells_any (n s : List UInt8) (w : World) (hn : n.length ≤ 9223372036854775807) (hs : s.length ≤ 9223372036854775807) (hv : VarsOk w) :
    Calls Tryd.prog 3 #[.string ⟨n.toArray⟩, .string ⟨s.toArray⟩] w fun e w' => e = .returned (.bool true) ∧ Below w.heap.size w w' := by
  by_cases hg : 400 < n.length ∨ 800 < s.length
  · have hcase : 400 < n.length ∨ (n.length ≤ 400 ∧ 800 < s.length) := by omega
    clear hg
    rcases hcase with g1 | ⟨g1, g2⟩
    all_goals
      go_enter Tryd.func3, Tryd.ntmps3
      go_wp2_with (go_at_call 11; refine (awake_any _ hv).mono ?_; rintro e w1 ⟨rfl, b1⟩)
      go_ret
      exact ⟨rfl, b1⟩
  have g1 : n.length ≤ 400 := by omega
  have g2 : s.length ≤ 800 := by omega
  clear hg
  obtain ⟨p, ev, iv, hp, hq, hcase⟩ : ∃ (p : List UInt8) (ev : Int) (iv : Bool), parseRet s = .tuple #[.string ⟨p.toArray⟩, .int .i64 ev] ∧ pnRet s = .tuple #[.string ⟨p.toArray⟩, .bool iv] ∧ ((ev = 2 ∧ iv = false) ∨ (ev = 0 ∧ iv = true)) := by
    cases h : Nm.parse s with
    | none => exact ⟨[], 2, false, parseRet_none h, pnRet_none h, .inl ⟨rfl, rfl⟩⟩
    | some m => exact ⟨m, 0, true, by unfold parseRet; rw [h]; rfl, pnRet_some h, .inr ⟨rfl, rfl⟩⟩
  have HP := Lib.hid hp
  have HQ := Lib.hid hq
  clear hp hq
  obtain ⟨x, hx⟩ : ∃ x, Nm.valid n = x := ⟨_, rfl⟩
  have HX := Lib.hid hx
  cases x
  · have HW : Hid (Nm.walkL n (-1) = []) := Lib.hid (by
      unfold Nm.walkL
      rw [Nm.labsD_bad hx]; simp)
    have HC : Hid ((Nm.labsD n).length = 0) := Lib.hid (by rw [Nm.labsD_bad hx]; rfl)
    obtain ⟨L, hL⟩ : ∃ L : List (List UInt8), L = [] := ⟨_, rfl⟩
    have HE : Hid ((L == L) = true) := Lib.hid (by simp)
    clear hx
    rcases hcase with ⟨rfl, rfl⟩ | ⟨rfl, rfl⟩
    all_goals
      go_enter Tryd.func3, Tryd.ntmps3
      go_wp2_with fail
      refine (rlabels_any n _ (by omega)).mono ?_
      rintro e w1 ⟨v, L0, rfl, ho, b1, _, _⟩
      rw [HX.out]
      have bb : Below w1.heap.size w1 w1 := Below.refl _ _
      have hv1 := hv.below b1
      have RD : Hid (∀ W, Below w1.heap.size w1 W → ReadS (.slice none 0 0) L W) := Lib.hid (fun W _ => by rw [hL]; exact ⟨none, 0, rfl, fun j hj => by simp at hj⟩)
      have hL0 : L.length ≤ 400 := by rw [hL]; simp
      rw [← hL] at HW
      clear ho hL
      go_wp2_with (first
        | (go_at_call 13; refine (parse_any s _ (by omega) (hv1.below bb)).mono ?_; rw [HP.out]; rintro e w' ⟨rfl, b2⟩; replace bb := below_trans bb b2; clear b2)
        | (go_at_call 14; refine (rparse_any s _ (by omega)).mono ?_; rw [HQ.out]; rintro e w' ⟨rfl, b2⟩; replace bb := below_trans bb b2; clear b2)
        | (go_at_call 15; refine (valid_any n _ (by omega)).mono ?_; rw [HX.out]; rintro e w' ⟨rfl, rfl⟩)
        | (go_at_call 17; refine (walk_any n (-1) _ (by omega)).mono ?_; rw [HW.out]; rintro e w' ⟨v2, rfl, ho2, b2⟩; replace bb := below_trans bb b2; clear b2)
        | (go_at_call 16; refine (texts_any L L _ _ _ (ownS_read ho2) (RD.out _ bb) (by omega) (by omega)).mono ?_; rw [HE.out]; rintro e w' ⟨rfl, b2⟩; replace bb := below_trans bb b2.below; clear b2 ho2)
        | (go_at_call 18; refine (count_any n _ (by omega)).mono ?_; rw [HC.out]; rintro e w' ⟨rfl, b2⟩; replace bb := below_trans bb b2; clear b2)
        | (go_at_call 19; refine (fold_any n _ (by omega)).mono ?_; rintro e w' ⟨rfl, b2⟩; replace bb := below_trans bb b2; clear b2)
        | (go_at_call 20; refine (rfold_any n _ (by omega)).mono ?_; rintro e w' ⟨rfl, b2⟩; replace bb := below_trans bb b2; clear b2)
        | (go_at_call 21; refine (parent_any n _ (by omega)).mono ?_; rintro e w' ⟨rfl, b2⟩; replace bb := below_trans bb b2; clear b2)
        | (go_at_call 22; refine (rparent_any n _ (by omega)).mono ?_; rintro e w' ⟨rfl, b2⟩; replace bb := below_trans bb b2; clear b2)
        | (go_at_call 23; refine (text_any n _ (by omega)).mono ?_; rintro e w' ⟨rfl, b2⟩; replace bb := below_trans bb b2; clear b2)
        | (go_at_call 24; refine (rtext_any n _ (by omega)).mono ?_; rintro e w' ⟨rfl, b2⟩; replace bb := below_trans bb b2; clear b2)
        | (go_at_call 11; refine (awake_any _ (hv1.below bb)).mono ?_; rintro e w' ⟨rfl, b2⟩; replace bb := below_trans bb b2; clear b2))
      all_goals first
        | (exfalso; simp_all [undef]; done)
        | (go_ret; exact ⟨rfl, below_trans b1 bb⟩)
  · have HWL : Hid (∀ L, L = Nm.labsD n → Nm.walkL n (-1) = L ∧ (Nm.labsD n).length = L.length) := Lib.hid (fun L e => by
      subst e
      refine ⟨?_, rfl⟩
      unfold Nm.walkL
      rw [if_neg (by omega)])
    clear hx
    rcases hcase with ⟨rfl, rfl⟩ | ⟨rfl, rfl⟩
    all_goals
      go_enter Tryd.func3, Tryd.ntmps3
      go_wp2_with fail
      refine (rlabels_any n _ (by omega)).mono ?_
      rintro e w1 ⟨v, L, rfl, ho, b1, hL, hl⟩
      rw [HX.out]
      replace hL := hL HX.out
      have bb : Below w1.heap.size w1 w1 := Below.refl _ _
      have hv1 := hv.below b1
      have rd := ownS_read ho
      obtain ⟨ao, cap, rfl, junk⟩ := own_slice ho
      have RD := Lib.hid (fun (W : World) (h : Below w1.heap.size w1 W) => readS_below rd h)
      have HW := Lib.hid (HWL.out L hL).1
      have HC := Lib.hid (HWL.out L hL).2
      have HE : Hid ((L == L) = true) := Lib.hid (by simp)
      clear ho hL junk rd
      go_wp2_with (first
        | (go_at_call 13; refine (parse_any s _ (by omega) (hv1.below bb)).mono ?_; rw [HP.out]; rintro e w' ⟨rfl, b2⟩; replace bb := below_trans bb b2; clear b2)
        | (go_at_call 14; refine (rparse_any s _ (by omega)).mono ?_; rw [HQ.out]; rintro e w' ⟨rfl, b2⟩; replace bb := below_trans bb b2; clear b2)
        | (go_at_call 15; refine (valid_any n _ (by omega)).mono ?_; rw [HX.out]; rintro e w' ⟨rfl, rfl⟩)
        | (go_at_call 17; refine (walk_any n (-1) _ (by omega)).mono ?_; rw [HW.out]; rintro e w' ⟨v2, rfl, ho2, b2⟩; replace bb := below_trans bb b2; clear b2)
        | (go_at_call 16; refine (texts_any L L _ _ _ (ownS_read ho2) (RD.out _ bb) (by omega) (by omega)).mono ?_; rw [HE.out]; rintro e w' ⟨rfl, b2⟩; replace bb := below_trans bb b2.below; clear b2 ho2)
        | (go_at_call 18; refine (count_any n _ (by omega)).mono ?_; rw [HC.out]; rintro e w' ⟨rfl, b2⟩; replace bb := below_trans bb b2; clear b2)
        | (go_at_call 19; refine (fold_any n _ (by omega)).mono ?_; rintro e w' ⟨rfl, b2⟩; replace bb := below_trans bb b2; clear b2)
        | (go_at_call 20; refine (rfold_any n _ (by omega)).mono ?_; rintro e w' ⟨rfl, b2⟩; replace bb := below_trans bb b2; clear b2)
        | (go_at_call 21; refine (parent_any n _ (by omega)).mono ?_; rintro e w' ⟨rfl, b2⟩; replace bb := below_trans bb b2; clear b2)
        | (go_at_call 22; refine (rparent_any n _ (by omega)).mono ?_; rintro e w' ⟨rfl, b2⟩; replace bb := below_trans bb b2; clear b2)
        | (go_at_call 23; refine (text_any n _ (by omega)).mono ?_; rintro e w' ⟨rfl, b2⟩; replace bb := below_trans bb b2; clear b2)
        | (go_at_call 24; refine (rtext_any n _ (by omega)).mono ?_; rintro e w' ⟨rfl, b2⟩; replace bb := below_trans bb b2; clear b2)
        | (go_at_call 11; refine (awake_any _ (hv1.below bb)).mono ?_; rintro e w' ⟨rfl, b2⟩; replace bb := below_trans bb b2; clear b2))
      all_goals first
        | (exfalso; simp_all [undef]; done)
        | (go_ret; exact ⟨rfl, below_trans b1 bb⟩)
end Go.Proofs.YtiodfiegknkceaaDoor
