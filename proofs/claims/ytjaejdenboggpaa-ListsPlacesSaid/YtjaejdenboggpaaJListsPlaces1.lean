/- ListsPlaces of package freshetlaw9 (of those that were used once or not at all the oldest goes first; those that were used go behind them, the one that was used longest ago first; no more than so many are held so) returns true at every two ints and list of ints.
   Conditions: those of the row, none beside. -/
import Derived.LoopTactic
import Derived.Test.YtjaejdenboggpaaJB26
import Derived.Test.YtjaejdenboggpaaJB18
import Derived.Test.YtjaejdenboggpaaJB17
import Derived.Test.YtjaejdenboggpaaJB27
/- The law ListsPlaces, walked. -/
set_option maxRecDepth 100000
namespace Go.Proofs.Ytjaejdenboggpaa
open Go Go.RowKit Go.Shelf Go.Maps
/-- Whom one has used last. -/
def lastOf (n : Int) (L : List Int) (t : Nat) : Option Int := if h : 0 < t ∧ t ≤ L.length then some (roundI (L[t - 1]'(by omega)) n) else none
theorem lastOf_zero (n : Int) (L : List Int) : lastOf n L 0 = none := dif_neg (by omega)
theorem lastOf_succ {n : Int} {L : List Int} {t : Nat} (h : t < L.length) : lastOf n L (t + 1) = some (roundI L[t] n) := dif_pos ⟨by omega, h⟩
set_option maxHeartbeats 32000000 in
theorem places9_any (n most : Int) (v2 : Value) (L2 : List Int) (w : World) (hr2 : RK encZ (fun k => k < w.heap.size) v2 L2 w) (hb2 : ∀ z ∈ L2, -9223372036854775808 ≤ z ∧ z ≤ 9223372036854775807) (hl2 : L2.length ≤ maxLen) :
    Calls Try.prog 6 #[.int .i64 n, .int .i64 most, v2] w fun e w' => e = .returned (.bool true) ∧ Below w.heap.size w w' := by
  unfold maxLen at hl2
  have q1 := qLruE
  obtain ⟨ao, cap, rfl, hcap, _⟩ := hr2.form
  by_cases h1 : n < 1
  · go_enter Try.func6, Try.ntmps6
    go_wp2_with fail
    refine (awake9_any _).mono ?_
    rintro e w1 ⟨rfl, hb⟩
    go_wp2
    go_ret
    exact ⟨rfl, hb⟩
  by_cases h2 : 20 < n
  · go_enter Try.func6, Try.ntmps6
    go_wp2_with fail
    refine (awake9_any _).mono ?_
    rintro e w1 ⟨rfl, hb⟩
    go_wp2
    go_ret
    exact ⟨rfl, hb⟩
  by_cases h3 : most < 1
  · go_enter Try.func6, Try.ntmps6
    go_wp2_with fail
    refine (awake9_any _).mono ?_
    rintro e w1 ⟨rfl, hb⟩
    go_wp2
    go_ret
    exact ⟨rfl, hb⟩
  by_cases h4 : 10 < most
  · go_enter Try.func6, Try.ntmps6
    go_wp2_with fail
    refine (awake9_any _).mono ?_
    rintro e w1 ⟨rfl, hb⟩
    go_wp2
    go_ret
    exact ⟨rfl, hb⟩
  by_cases h5 : 20 < L2.length
  · have h6 : decide ((L2.length : Int) > 20) = true := by simp; omega
    go_enter Try.func6, Try.ntmps6
    go_wp2_with fail
    refine (awake9_any _).mono ?_
    rintro e w1 ⟨rfl, hb⟩
    go_wp2
    go_ret
    exact ⟨rfl, hb⟩
  obtain ⟨M, rfl⟩ : ∃ M : Nat, n = (M : Int) := ⟨n.toNat, by omega⟩
  have hM : M ≤ 20 := by omega
  have hM1 : 1 ≤ M := by omega
  have hmo1 : 1 ≤ most := by omega
  have hmo2 : most ≤ 10 := by omega
  have imo : I64 most := i64_small _ (by omega) (by omega)
  obtain ⟨T, hT⟩ : ∃ T, L2.length = T := ⟨_, rfl⟩
  have HR2 := Lib.hid hr2
  have HB2 := Lib.hid hb2
  have HT := Lib.hid hT
  rw [hT] at hcap hl2 h5
  have hT20 : T ≤ 20 := by omega
  have d1 : decide ((M : Int) < 1) = false := by simp; omega
  have d2 : decide ((M : Int) > 20) = false := by simp; omega
  have d3 : decide ((T : Int) > 20) = false := by simp; omega
  have d1b : decide (most < 1) = false := by simp; omega
  have d2b : decide (most > 10) = false := by simp; omega
  rw [hT]
  clear hr2 hb2 hT h1 h2 h3 h4 h5
  go_enter Try.func6, Try.ntmps6
  go_wp2_with fail
  refine (t_lnew (Two.start w) partN most imo).mono ?_
  rintro e w1 ⟨X, rfl, h1, _⟩
  rw [Int.max_eq_left (by omega : (0 : Int) ≤ most)] at h1
  have H1 := Lib.hid h1
  clear h1
  go_wp2_with fail
  go_loopw [8] (fun i wr => ∃ j : Nat, j ≤ M ∧ i = .int .i64 (j : Int) ∧ Hid (Two (LV X most (rng j) [] (2 * j)) Nobody w (fun _ => False) wr)) (fun i _ => M + 1 - (intOf i).toNat)
  case atStart => exact ⟨0, by omega, rfl, H1⟩
  case round =>
    clear H1
    obtain ⟨j, hj, rfl, HJ⟩ := hrel
    by_cases hlt : j < M
    · have d4 : decide ((j : Int) < (M : Int)) = true := by simpa using hlt
      have ij : I64 (j : Int) := i64_small _ (by omega) (by omega)
      have ij2 : I64 ((j : Int) / 2) := i64_small _ (by omega) (by omega)
      have HM2 := Lib.hid (show (j : Int) / 2 ∈ rng (j + 1) ++ [] by rw [List.append_nil, rng_mem]; omega)
      go_wp2_with fail
      refine (t_add HJ.out partN ij (by omega)).mono ?_
      rintro e w4 ⟨rfl, h4, _⟩
      rw [addP_rng] at h4
      have H4 := Lib.hid h4
      clear h4 HJ
      go_wp2_with fail
      refine (t_add H4.out partN ij2 (by omega)).mono ?_
      rintro e w5 ⟨rfl, h5, _⟩
      rw [addP_old HM2.out] at h5
      have H5 : Hid (Two (LV X most (rng (j + 1)) [] (2 * (j + 1))) Nobody w (fun _ => False) w5) := Lib.hid h5
      clear h5 H4
      go_wp2
      go_roundw
      case rel => exact ⟨j + 1, by omega, by go_num, H5⟩
      case measure => simp [intOf]; omega
    · obtain rfl : j = M := by omega
      have d4 : decide ((j : Int) < (j : Int)) = false := by simp
      go_wp2_with fail
      go_loopw [9] (fun i wr => ∃ t : Nat, ∃ P Q : List Int, t ≤ T ∧ i = .int .i64 (t : Int) ∧ Hid ((P ++ Q).Perm (rng j)) ∧ Hid (Q.getLast? = lastOf (j : Int) L2 t) ∧ Hid (t = 0 → P = rng j) ∧ Hid (Two (LV X most P Q (2 * j)) Nobody w (fun _ => False) wr)) (fun i _ => T + 1 - (intOf i).toNat)
      case atStart => exact ⟨0, rng j, [], by omega, rfl, Lib.hid (by rw [List.append_nil]), Lib.hid (by rw [lastOf_zero]; rfl), Lib.hid (fun _ => rfl), HJ⟩
      case round =>
        clear HJ
        obtain ⟨t, P, Q, ht, rfl, HP, HL, HZ, HJ⟩ := hrel
        by_cases hlt2 : t < T
        · have d5 : decide ((t : Int) < (T : Int)) = true := by simpa using hlt2
          have hsl : t < L2.length := by rw [HT.out]; exact hlt2
          obtain ⟨b, off, rfl, c1⟩ := rk_cell (HR2.out.below HJ.out.bel) hsl
          have hzb := HB2.out _ (List.getElem_mem hsl)
          have HLS := Lib.hid (lastOf_succ (n := (j : Int)) hsl)
          generalize L2[t] = z at c1 hzb HLS
          have hkb := roundI_bounds z (j : Int) (by omega)
          have hrr := fun w => round_any z (j : Int) w (by omega) (by omega) hzb.1 hzb.2
          obtain ⟨k, hk⟩ : ∃ k, roundI z (j : Int) = k := ⟨_, rfl⟩
          rw [hk] at hkb HLS
          have HRR := Lib.hid (fun w => by have := hrr w; rw [hk] at this; exact this)
          have ik : I64 k := i64_small _ (by omega) (by omega)
          have HKR := Lib.hid (HP.out.mem_iff.2 (rng_mem.2 hkb))
          clear hrr hk hzb hsl
          go_wp2_with fail
          refine (HRR.out _).mono ?_
          rintro e w8 ⟨rfl, rfl⟩
          clear c1
          go_wp2_with fail
          refine (t_touch HJ.out partN ik HKR.out (by omega)).mono ?_
          rintro e w9 ⟨rfl, h9, K9⟩
          have HL9 := Lib.hid (touch_last HKR.out hmo1 HJ.out.nodupL.2)
          have HP9 := Lib.hid ((touch_perm (most := most) HKR.out).trans HP.out)
          have H9 := Lib.hid h9
          clear h9 K9 HJ HP HL HZ HKR HRR
          go_wp2
          go_roundw
          case rel => exact ⟨t + 1, _, _, by omega, by go_num, HP9, Lib.hid (by rw [HL9.out, HLS.out]), Lib.hid (fun e => absurd e (Nat.succ_ne_zero t)), H9⟩
          case measure => simp [intOf]; omega
        · obtain rfl : t = T := by omega
          have d5 : decide ((t : Int) < (t : Int)) = false := by simp
          have hPQ := HP.out.length_eq
          rw [List.length_append, rng_len] at hPQ
          have hnd := HJ.out.nodupL
          by_cases ht0 : t = 0
          · subst ht0
            have hQ0 : Q = [] := by
              have h1 := HL.out
              rw [lastOf_zero, List.getLast?_eq_none_iff] at h1
              exact h1
            subst hQ0
            have hP0 := HZ.out rfl
            subst hP0
            clear HL HZ HP hPQ hnd
            go_wp2_with fail
            refine (t_len HJ.out partN (by omega)).mono ?_
            rintro e w8 ⟨rfl, h8, _⟩
            rw [rng_len]
            have H8 := Lib.hid h8
            have hm0 : decide ((0 : Int) > most) = false := by rw [decide_eq_false_iff_not]; omega
            clear h8 HJ
            go_wp2_with fail
            refine (t_order H8.out partN (by omega) (-1)).mono ?_
            rintro e w9 ⟨v, rfl, r9, h9, _⟩
            have HB9 := Lib.hid h9.bel
            have hv := r9
            rw [show cutAt (-1) (rng j ++ []) = rng j by rw [List.append_nil]; rfl] at hv
            obtain ⟨ao3, cp3, rfl, _, _⟩ := hv.form
            have HV := Lib.hid hv
            have HRL := Lib.hid (rng_len j)
            rw [rng_len] at HV
            rw [rng_len]
            clear h9 r9 hv H8
            go_wp2_with fail
            go_loopw [13] (fun i wr => ∃ s : Nat, s ≤ j ∧ i = .int .i64 (s : Int) ∧ wr = w9) (fun i _ => j + 1 - (intOf i).toNat)
            case atStart => exact ⟨0, by omega, rfl, rfl⟩
            case round =>
              obtain ⟨s, hs, rfl, rfl⟩ := hrel
              by_cases hlt3 : s < j
              · have d8 : decide ((s : Int) < (j : Int)) = true := by simpa using hlt3
                have hsl : s < (rng j).length := by rw [HRL.out]; exact hlt3
                obtain ⟨b, off, rfl, c1⟩ := rk_cell HV.out hsl
                rw [rng_get hsl] at c1
                clear hsl
                go_wp2
                go_roundw
                case rel => exact ⟨s + 1, by omega, by go_num, by first | rfl | trivial⟩
                case measure => simp [intOf]; omega
              · obtain rfl : s = j := by omega
                have d8 : decide ((s : Int) < (s : Int)) = false := by simp
                go_wp2_with fail
                refine (awake9_any _).mono ?_
                rintro e w10 ⟨rfl, hb⟩
                go_wp2
                go_ret
                exact ⟨rfl, HB9.out.trans (hb.mono HB9.out.size)⟩
          · -- used
            have hq1 : (Q.length : Int) ≤ most := hnd.2
            obtain ⟨np, hnp⟩ : ∃ np, P.length = np := ⟨_, rfl⟩
            obtain ⟨nq, hnq⟩ : ∃ nq, Q.length = nq := ⟨_, rfl⟩
            obtain ⟨t1, ht1⟩ : ∃ t1, t = t1 + 1 := ⟨t - 1, by omega⟩
            have hsl : t1 < L2.length := by rw [HT.out]; omega
            have hlast := HL.out
            rw [ht1, lastOf_succ hsl] at hlast
            have hQne : Q ≠ [] := fun e => by rw [e] at hlast; simp at hlast
            have hnq1 : 1 ≤ nq := by rw [← hnq]; exact List.length_pos_iff.2 hQne
            rw [hnp, hnq] at hPQ
            rw [hnq] at hq1
            have d6 : (((np : Int) + (nq : Int)) != (j : Int)) = false := by simp; omega
            have d7 : decide ((nq : Int) > most) = false := by rw [decide_eq_false_iff_not]; omega
            have d7b : ((nq : Int) == 0) = false := by rw [beq_eq_false_iff_ne]; omega
            have HNP := Lib.hid hnp
            have HNQ := Lib.hid hnq
            have HPQ := Lib.hid hPQ
            have HLA := Lib.hid hlast
            have HSL := Lib.hid hsl
            have hb1 : np ≤ 20 := by omega
            have hb2 : nq ≤ 20 := by omega
            have ht1l : t1 < t := by omega
            have ht1u : t ≤ t1 + 1 := by omega
            clear hnp hnq hPQ hlast hQne hnd HL HZ HP ht1
            go_wp2_with fail
            refine (t_len HJ.out partN (by omega)).mono ?_
            rintro e w8 ⟨rfl, h8, _⟩
            rw [HNP.out, HNQ.out]
            have H8 := Lib.hid h8
            clear h8 HJ
            go_wp2_with fail
            refine (t_order H8.out partN (by omega) (-1)).mono ?_
            rintro e w9 ⟨v, rfl, r9, h9, _⟩
            have HB9 := Lib.hid h9.bel
            have hv := r9
            rw [show cutAt (-1) (P ++ Q) = P ++ Q from rfl] at hv
            have hPl : (P ++ Q).length = j := by rw [List.length_append, HNP.out, HNQ.out]; exact HPQ.out
            obtain ⟨ao3, cp3, rfl, _, _⟩ := hv.form
            obtain ⟨j1, hj1⟩ : ∃ j1, j = j1 + 1 := ⟨j - 1, by omega⟩
            have hjl : j1 < (P ++ Q).length := by rw [hPl]; omega
            obtain ⟨b3, off3, rfl, c1⟩ := rk_cell hv hjl
            have hlk : (P ++ Q)[j1] = roundI (L2[t1]'HSL.out) (j : Int) := by
              have h1 : (P ++ Q).getLast? = some (roundI (L2[t1]'HSL.out) (j : Int)) := by
                rw [List.getLast?_append, HLA.out]; rfl
              rw [List.getLast?_eq_getElem?, hPl, hj1, Nat.add_sub_cancel, List.getElem?_eq_getElem hjl] at h1
              exact (Option.some.inj h1).trans (by rw [hj1])
            rw [hlk] at c1
            obtain ⟨b, off, rfl, c2⟩ := rk_cell (HR2.out.below h9.bel) HSL.out
            have hzb := HB2.out _ (List.getElem_mem HSL.out)
            have hrr := fun w => round_any (L2[t1]'HSL.out) (j : Int) w (by omega) (by omega) hzb.1 hzb.2
            generalize L2[t1]'HSL.out = z at *
            generalize roundI z (j : Int) = k at *
            rw [hPl]
            have HRR := Lib.hid hrr
            have C1 := Lib.hid c1
            have C2 := Lib.hid c2
            have hj1l : j1 < j := by omega
            have hj1u : j ≤ j1 + 1 := by omega
            clear hrr c1 c2 hlk hjl hPl hv r9 h9 H8 hzb HLA HNP HNQ HPQ HSL hj1 hsl ht0
            go_wp2_with fail
            refine wp_region_slotsTL (by simp) slotLe (slotPhi ((fun v _ => v = ?g114) :: (fun v _ => v = ?g115) :: (fun v _ => v = Value.int .i64 (j1 : Int)) :: (fun v _ => v = ?g117) :: (fun v _ => v = ?g118) :: (fun v _ => v = ?g119) :: (fun v _ => v = ?g120) :: (fun v _ => v = ?g121) :: (fun v _ => v = Value.int .i64 (t1 : Int)) :: (fun v _ => v = ?g123) :: (fun v _ => v = ?g124) :: (fun v _ => v = ?g125) :: (fun v _ => v = ?g126) :: (fun v _ => v = ?g127) :: (fun v _ => v = ?g128) :: (fun v _ => v = ?g129) :: (fun v _ => v = ?g130) :: [])) slotLe_refl slotLe_trans (slotPhi_stable ?stb) (by kernel_rfl) (by kernel_rfl) (by kernel_rfl) (by kernel_rfl) (by kernel_rfl) ?steps ?fin
            case stb =>
              refine ⟨by intro _ _ _ _ h; exact h, ?_⟩
              refine ⟨by intro _ _ _ _ h; exact h, ?_⟩
              refine ⟨by intro _ _ _ _ h; exact h, ?_⟩
              refine ⟨by intro _ _ _ _ h; exact h, ?_⟩
              refine ⟨by intro _ _ _ _ h; exact h, ?_⟩
              refine ⟨by intro _ _ _ _ h; exact h, ?_⟩
              refine ⟨by intro _ _ _ _ h; exact h, ?_⟩
              refine ⟨by intro _ _ _ _ h; exact h, ?_⟩
              refine ⟨by intro _ _ _ _ h; exact h, ?_⟩
              refine ⟨by intro _ _ _ _ h; exact h, ?_⟩
              refine ⟨by intro _ _ _ _ h; exact h, ?_⟩
              refine ⟨by intro _ _ _ _ h; exact h, ?_⟩
              refine ⟨by intro _ _ _ _ h; exact h, ?_⟩
              refine ⟨by intro _ _ _ _ h; exact h, ?_⟩
              refine ⟨by intro _ _ _ _ h; exact h, ?_⟩
              refine ⟨by intro _ _ _ _ h; exact h, ?_⟩
              refine ⟨by intro _ _ _ _ h; exact h, ?_⟩
              exact trivial
            case steps =>
              refine ⟨?_, ?_⟩
              · intro a W K N hK
                have e12 : a.tmps[12]?.getD undef = .slice (some ⟨b3, off3, none⟩) j cp3 := N.was' 12 _ (by kernel_rfl) rfl
                rw [if_pos (wanted_no rfl)]
                go_simp
                refine hK _ _ (slotLe_refl _) ?_
                exact rfl
              refine ⟨?_, ?_⟩
              · intro a W K N hK
                have e0 : a.tmps[0]?.getD undef = .int .i64 (j : Int) := N.was' 0 _ (by kernel_rfl) rfl
                rw [if_pos (wanted_no rfl)]
                go_simp
                refine hK _ _ (slotLe_refl _) ?_
                exact rfl
              refine ⟨?_, ?_⟩
              · intro a W K N hK
                have e115 : a.tmps[115]?.getD undef = _ := N.dep' 1 115 (by kernel_rfl)
                rw [if_pos (wanted_no rfl)]
                go_simp
                refine hK _ _ (slotLe_refl _) ?_
                exact congrArg (Value.int .i64) ((IntWalk.i64_in _ (by omega)).trans (by omega))
              refine ⟨?_, ?_⟩
              · intro a W K N hK
                have e114 : a.tmps[114]?.getD undef = _ := N.dep' 0 114 (by kernel_rfl)
                have e116 := Lib.hid (show (fun v _ => v = Value.int .i64 (j1 : Int)) (a.tmps[116]?.getD undef) W from N.dep' 2 116 (by kernel_rfl))
                rw [if_pos (wanted_no rfl)]
                have e116 : a.tmps[116]?.getD undef = Value.int .i64 (j1 : Int) := e116.out
                go_simp
                refine hK _ _ (slotLe_refl _) ?_
                exact rfl
              refine ⟨?_, ?_⟩
              · intro a W K N hK
                have e117 : a.tmps[117]?.getD undef = _ := N.dep' 3 117 (by kernel_rfl)
                rw [if_pos (wanted_no rfl)]
                have z := keep_cell N.le C1.out
                go_simp
                refine hK _ _ (slotLe_refl _) ?_
                exact rfl
              refine ⟨?_, ?_⟩
              · intro a W K N hK
                have e2 : a.tmps[2]?.getD undef = .slice (some ⟨b, off, none⟩) t cap := N.was' 2 _ (by kernel_rfl) rfl
                rw [if_pos (wanted_no rfl)]
                go_simp
                refine hK _ _ (slotLe_refl _) ?_
                exact rfl
              refine ⟨?_, ?_⟩
              · intro a W K N hK
                have e2 : a.tmps[2]?.getD undef = .slice (some ⟨b, off, none⟩) t cap := N.was' 2 _ (by kernel_rfl) rfl
                rw [if_pos (wanted_no rfl)]
                go_simp
                refine hK _ _ (slotLe_refl _) ?_
                exact rfl
              refine ⟨?_, ?_⟩
              · intro a W K N hK
                have e120 : a.tmps[120]?.getD undef = _ := N.dep' 6 120 (by kernel_rfl)
                rw [if_pos (wanted_no rfl)]
                go_simp
                refine hK _ _ (slotLe_refl _) ?_
                exact rfl
              refine ⟨?_, ?_⟩
              · intro a W K N hK
                have e121 : a.tmps[121]?.getD undef = _ := N.dep' 7 121 (by kernel_rfl)
                rw [if_pos (wanted_no rfl)]
                go_simp
                refine hK _ _ (slotLe_refl _) ?_
                exact congrArg (Value.int .i64) ((IntWalk.i64_in _ (by omega)).trans (by omega))
              refine ⟨?_, ?_⟩
              · intro a W K N hK
                have e119 : a.tmps[119]?.getD undef = _ := N.dep' 5 119 (by kernel_rfl)
                have e122 := Lib.hid (show (fun v _ => v = Value.int .i64 (t1 : Int)) (a.tmps[122]?.getD undef) W from N.dep' 8 122 (by kernel_rfl))
                rw [if_pos (wanted_no rfl)]
                have e122 : a.tmps[122]?.getD undef = Value.int .i64 (t1 : Int) := e122.out
                go_simp
                refine hK _ _ (slotLe_refl _) ?_
                exact rfl
              refine ⟨?_, ?_⟩
              · intro a W K N hK
                have e123 : a.tmps[123]?.getD undef = _ := N.dep' 9 123 (by kernel_rfl)
                rw [if_pos (wanted_no rfl)]
                have z := keep_cell N.le C2.out
                go_simp
                refine hK _ _ (slotLe_refl _) ?_
                exact rfl
              refine ⟨?_, ?_⟩
              · intro a W K N hK
                have e0 : a.tmps[0]?.getD undef = .int .i64 (j : Int) := N.was' 0 _ (by kernel_rfl) rfl
                rw [if_pos (wanted_no rfl)]
                go_simp
                refine hK _ _ (slotLe_refl _) ?_
                exact rfl
              refine ⟨?_, ?_⟩
              · intro a W K N hK
                have e124 : a.tmps[124]?.getD undef = _ := N.dep' 10 124 (by kernel_rfl)
                have e125 : a.tmps[125]?.getD undef = _ := N.dep' 11 125 (by kernel_rfl)
                rw [if_pos (wanted_no rfl)]
                go_simp
                go_at_call 22
                refine (HRR.out _).mono ?_
                rintro e w2 ⟨rfl, rfl⟩
                go_simp
                refine hK _ _ (slotLe_refl _) ?_
                exact rfl
              refine ⟨?_, ?_⟩
              · intro a W K N hK
                have e118 : a.tmps[118]?.getD undef = _ := N.dep' 4 118 (by kernel_rfl)
                have e126 : a.tmps[126]?.getD undef = _ := N.dep' 12 126 (by kernel_rfl)
                rw [if_pos (wanted_no rfl)]
                go_simp
                refine hK _ _ (slotLe_refl _) ?_
                exact rfl
              refine ⟨?_, ?_⟩
              · intro a W K N hK
                have e127 : a.tmps[127]?.getD undef = _ := N.dep' 13 127 (by kernel_rfl)
                rw [if_pos (wanted_no rfl)]
                go_simp
                refine hK _ _ (slotLe_refl _) ?_
                exact rfl
              refine ⟨?_, ?_⟩
              · intro a W K N hK
                have eg : a.tmps[128]?.getD undef = .bool true := N.dep' 14 128 (by kernel_rfl)
                rw [if_pos (by rw [wanted_get (g := 14) (d := 128) rfl rfl eg]; decide)]
                clear eg
                go_simp
                go_at_call 10
                refine (awake9_any _).mono ?_
                rintro e w2 ⟨rfl, hb⟩
                go_simp
                refine hK _ _ hb ?_
                exact rfl
              refine ⟨?_, ?_⟩
              · intro a W K N hK
                have e128 : a.tmps[128]?.getD undef = _ := N.dep' 14 128 (by kernel_rfl)
                have e129 : a.tmps[129]?.getD undef = _ := N.dep' 15 129 (by kernel_rfl)
                rw [if_pos (wanted_no rfl)]
                go_simp
                refine hK _ _ (slotLe_refl _) ?_
                exact rfl
              exact trivial
            case fin =>
              intro V hV
              simp only [FinAll, slotPhi, List.dropLast, List.getLast_cons_cons, List.getLast_singleton, List.getD_cons_zero, List.getD_cons_succ, forall_eq, Act.put, List.setIfInBounds_toArray, List.set_cons_zero, List.set_cons_succ]
              go_wp2
              go_ret
              exact ⟨rfl, HB9.out.trans (Below.mono (show Below w9.heap.size w9 V from ((Below.refl _ w9).drew).trans hV) HB9.out.size)⟩
end Go.Proofs.Ytjaejdenboggpaa

/- ListsPlaces of package freshetlaw9 (of those that were used once or not at all the oldest goes first; those that were used go behind them, the one that was used longest ago first; no more than so many are held so) returns true at every two ints and list of ints.
   Conditions: those of the row, none beside. -/
namespace Go.Proofs.Ytjaejdenboggpaa.listsPlaces
open Go.ChangeShapes Go.WideShapes Go.ChangeAt Go.RowKit

set_option maxRecDepth 100000 in
theorem contract (H : Type) (enc : TypeId × Value → H) (W : World) (base : Nat) (args : Array Value) (ds gs : List (DataW H)) (before : List MemPlace)
    (hval : ∀ (j : Nat) t v, Try.f6.params[j]? = some t → args[j]? = some v → Value.okWide Try.prog W .any base t v)
    (hW : DataW.Whole enc Try.prog Try.f6.params.toList Rows.listsPlacesSpec.vars false W args.toList ds gs before) (_hL : laidMetH Try.prog laidList W) :
    Calls Try.prog 6 args W fun e W' => ∃ v, e = .returned v ∧ Rows.listsPlacesSpec.post enc Try.prog Try.f6 false true false false W args v W' := by
  have hW' := hW
  obtain ⟨p, q, hA0, hV, rfl, _, _⟩ := hW
  have hA : DataW.TrodAll enc Try.prog W 0 (fun _ => true) true Try.f6.params.toList args.toList ds p := hA0
  clear hA0
  rw [Try.params6] at hA hval
  obtain ⟨v0, vs0, d0, ds0, p0, q0, hargs0, rfl, rfl, h0, r0⟩ := trodAll_cons hA
  obtain ⟨v1, vs1, d1, ds1, p1, q1, hargs1, rfl, rfl, h1, r1⟩ := trodAll_cons r0
  subst hargs1
  obtain ⟨v2, vs2, d2, ds2, p2, q2, hargs2, rfl, rfl, h2, r2⟩ := trodAll_cons r1
  subst hargs2
  obtain ⟨rfl, rfl, rfl⟩ := trodAll_nil r2
  obtain rfl : args = #[v0, v1, v2] := by cases args; simp_all
  obtain ⟨rfl, rfl⟩ := trodVars_none hV
  obtain ⟨z0, rfl, hz0⟩ := arg_int (hval 0 _ _ rfl rfl) h0
  obtain ⟨z1, rfl, hz1⟩ := arg_int (hval 1 _ _ rfl rfl) h1
  obtain ⟨L2, hr2, hb2, hl2⟩ := arg_ints (hval 2 _ v2 rfl rfl) h2
  refine (places9_any z0 z1 v2 L2 W hr2 hb2 hl2).mono fun e W' ⟨he, hbl⟩ => ?_
  exact ⟨_, he, law_post hW' rfl hbl rfl rfl (fun t ht => readT9 t (by rw [Try.params6] at ht; exact (show ∀ t ∈ (#[3, 3, 27] : Array TypeId).toList, t ∈ [3, 27, 22] by decide) t ht))⟩

set_option maxRecDepth 100000 in
theorem reads (os : Os) {H : Type} (enc : TypeId × Value → H) : ∃ places, DataW.whole enc Try.prog ((laidWorld os).forCall (fun _ _ => 0) ⟨#[], #[.int .i64 0, .int .i64 0, .slice none 0 0], []⟩).memory Try.f6.params.toList Rows.listsPlacesSpec.vars false (#[.int .i64 0, .int .i64 0, .slice none 0 0] : Array Value).toList 8 = some ([.lit (.int .i64 0), .lit (.int .i64 0), .nil], [], places) :=
  ⟨[], by kernel_rfl⟩

set_option maxRecDepth 100000 in
theorem lifted (os : Os) (started : os.Started) (H : Type) (enc : TypeId × Value → H) (F : Stop.Interp) :
    ReturnsInHanded {} Try.checked os 6 .any ((OpenSpec.ofChange Rows.listsPlacesSpec).preRow enc Try.prog Try.f6 Rows.listsPlacesRow.domain false Rows.listsPlacesRow.laid) (((OpenSpec.ofChange Rows.listsPlacesSpec).at F).post enc Try.prog Try.f6 false true false false) := by
  obtain ⟨places, hx⟩ := reads os enc
  refine returnsInHanded_of_row (C := Try.checked) (s := OpenSpec.ofChange Rows.listsPlacesSpec) own started (by kernel_rfl) Try.func6
    (witness_row_atRef (enc := enc) (C := Try.checked) false (laidWorld os) #[.int .i64 0, .int .i64 0, .slice none 0 0] rfl (by kernel_rfl) (by kernel_rfl) (by kernel_rfl)
      (OpenSpec.preRow_of_cond 8 hx (by kernel_rfl) (fun k hk => by cases hk) (by kernel_rfl) (laid_met os _))) ?_
  intro W base args ds gs before hval hW _ _ _ hL _ _
  exact contract H enc W base args ds gs before hval hW hL

theorem said : Rows.ListsPlacesSaid :=
  OpenClaim.holds_of_cond 6 Try.f6 rfl rfl rfl rfl rfl rfl rfl ⟨rfl, rfl, rfl, rfl, rfl⟩ rfl rfl rfl rfl rfl (by kernel_rfl) Try.func6 (by kernel_rfl)
    (of_decide_eq_true (by kernel_rfl)) (by unfold Func.isWrapper; first | (rw [if_pos (by decide +kernel)]; kernel_rfl) | (rw [if_neg (by decide +kernel)]; exact ⟨rfl, rfl⟩))
    (fun os started H enc _ F => by rw [OpenClaim.pre_eq_preRow]; exact lifted os started H enc F)
end Go.Proofs.Ytjaejdenboggpaa.listsPlaces
