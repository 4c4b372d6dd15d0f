/- ListsTimes of package freshetlaw9 (set again, one is behind all others of its new time; dropped, it is nowhere; who is by a time are all whose time that is, or less) returns true at every int, list of ints and int.
   Conditions: those of the row, none beside. -/
import Derived.LoopTactic
import Derived.Test.YtjaejdenboggpaaJB26
import Derived.Test.YtjaejdenboggpaaJB27
/- The law ListsTimes, walked. -/
set_option maxRecDepth 100000
namespace Go.Proofs.Ytjaejdenboggpaa
open Go Go.RowKit Go.Shelf Go.Maps
/-- All of one time. -/
def en (l : List Int) : List (Int × Int) := l.map (fun i => (i, 5))
theorem en_app (l m : List Int) : en (l ++ m) = en l ++ en m := List.map_append
theorem en_filter (k : Int) (l : List Int) : (en l).filter (fun e => e.1 != k) = en (l.filter (fun i => i != k)) := by
  unfold en
  rw [List.filter_map]
  rfl
theorem rng_filter (j : Nat) : (rng j).filter (fun i => i != (j : Int)) = rng j := List.filter_eq_self.2 fun i hi => by
  have := (rng_mem.1 hi).2
  rw [bne_iff_ne]; omega
theorem insE_same (i : Int) : ∀ l, Du.insE (i, 5) (en l) = en (l ++ [i])
  | [] => rfl
  | y :: l => by
    show (if (5 : Int) < 5 then _ else (y, (5 : Int)) :: Du.insE (i, 5) (en l)) = _
    rw [if_neg (by omega), insE_same i l]
    rfl
theorem uptoE_same (at_ : Int) (h : 5 ≤ at_) : ∀ l acc, Du.uptoE at_ (en l) (en acc) = en (acc ++ l)
  | [], acc => by rw [List.append_nil]; rfl
  | x :: l, acc => by
    show Du.uptoE at_ (en l) (if (5 : Int) ≤ at_ then Du.insE (x, 5) (en acc) else en acc) = _
    rw [if_pos h, insE_same, uptoE_same at_ h l, List.append_assoc]
    rfl
theorem uptoE_none (at_ : Int) (h : ¬ 5 ≤ at_) : ∀ l acc, Du.uptoE at_ (en l) acc = acc
  | [], acc => rfl
  | x :: l, acc => by
    show Du.uptoE at_ (en l) (if (5 : Int) ≤ at_ then Du.insE (x, 5) acc else acc) = _
    rw [if_neg h, uptoE_none at_ h l]
/-- An order that one goes behind. -/
theorem perm_behind {O : List Int} {M : Nat} {k : Int} (h : O.Perm (rng M)) (hk : k ∈ rng M) : (O.filter (fun i => i != k) ++ [k]).Perm (rng M) := by
  have hn : O.Nodup := h.nodup_iff.2 (rng_nodup M)
  have hm : k ∈ O := h.mem_iff.2 hk
  rw [← hn.erase_eq_filter]
  exact (List.perm_append_comm.trans (List.perm_cons_erase hm).symm).trans h
theorem take_filter_ne {O : List Int} {j : Nat} {k : Int} (h : j < O.length) (hne : O[j] ≠ k) : (O.take (j + 1)).filter (fun i => i != k) = (O.take j).filter (fun i => i != k) ++ [O[j]] := by
  rw [List.take_succ_eq_append_getElem h, List.filter_append]
  congr 1
  rw [List.filter_cons_of_pos (by simpa using hne)]
  rfl
theorem take_filter_eq {O : List Int} {j : Nat} {k : Int} (h : j < O.length) (he : O[j] = k) : (O.take (j + 1)).filter (fun i => i != k) = (O.take j).filter (fun i => i != k) := by
  rw [List.take_succ_eq_append_getElem h, List.filter_append, List.filter_cons_of_neg (by simp [he])]
  simp
set_option maxHeartbeats 32000000 in
theorem times9_any (n at_ : Int) (v1 : Value) (L1 : List Int) (w : World) (hat : -9223372036854775808 ≤ at_ ∧ at_ ≤ 9223372036854775807) (hr1 : RK encZ (fun k => k < w.heap.size) v1 L1 w) (hb1 : ∀ z ∈ L1, -9223372036854775808 ≤ z ∧ z ≤ 9223372036854775807) (hl1 : L1.length ≤ maxLen) :
    Calls Try.prog 7 #[.int .i64 n, v1, .int .i64 at_] w fun e w' => e = .returned (.bool true) ∧ Below w.heap.size w w' := by
  unfold maxLen at hl1
  have q2 := qDue
  obtain ⟨ao, cap, rfl, hcap, _⟩ := hr1.form
  by_cases hn1 : n < 1
  · go_enter Try.func7, Try.ntmps7
    go_wp2_with fail
    refine (awake9_any _).mono ?_
    rintro e w1 ⟨rfl, hb⟩
    go_wp2
    go_ret
    exact ⟨rfl, hb⟩
  by_cases hn2 : 20 < n
  · go_enter Try.func7, Try.ntmps7
    go_wp2_with fail
    refine (awake9_any _).mono ?_
    rintro e w1 ⟨rfl, hb⟩
    go_wp2
    go_ret
    exact ⟨rfl, hb⟩
  by_cases hn3 : 20 < L1.length
  · have d0 : decide ((L1.length : Int) > 20) = true := by simp; omega
    go_enter Try.func7, Try.ntmps7
    go_wp2_with fail
    refine (awake9_any _).mono ?_
    rintro e w1 ⟨rfl, hb⟩
    go_wp2
    go_ret
    exact ⟨rfl, hb⟩
  obtain ⟨M, rfl⟩ : ∃ M : Nat, n = (M : Int) := ⟨n.toNat, by omega⟩
  have hM : M ≤ 20 := by omega
  have hM1 : 1 ≤ M := by omega
  obtain ⟨T, hT⟩ : ∃ T, L1.length = T := ⟨_, rfl⟩
  have HR1 := Lib.hid hr1
  have HB1 := Lib.hid hb1
  have HT := Lib.hid hT
  rw [hT] at hcap hl1 hn3
  have d1 : decide ((M : Int) < 1) = false := by simp; omega
  have d2 : decide ((M : Int) > 20) = false := by simp; omega
  have d3 : decide ((T : Int) > 20) = false := by simp; omega
  have hT20 : T ≤ 20 := by omega
  have i5 : I64 5 := i64_small _ (by decide) (by decide)
  have HAT := Lib.hid (i64_of hat.1 hat.2)
  rw [hT]
  clear hr1 hb1 hT hn1 hn2 hn3 hat
  go_enter Try.func7, Try.ntmps7
  go_wp2_with fail
  refine (t_dnew (Two.start w) partN).mono ?_
  rintro e w1 ⟨Y, rfl, h1, _⟩
  have H1 := Lib.hid h1
  clear h1
  go_wp2_with fail
  go_loopw [8] (fun i wr => ∃ j : Nat, j ≤ M ∧ i = .int .i64 (j : Int) ∧ Hid (Two (DV Y (en (rng j)) j) Nobody w (fun _ => False) wr)) (fun i _ => M + 1 - (intOf i).toNat)
  case atStart => exact ⟨0, by omega, rfl, H1⟩
  case round =>
    clear H1
    obtain ⟨j, hj, rfl, HJ⟩ := hrel
    by_cases hlt : j < M
    · have d4 : decide ((j : Int) < (M : Int)) = true := by simpa using hlt
      have ij : I64 (j : Int) := i64_small _ (by omega) (by omega)
      go_wp2_with fail
      refine (t_set HJ.out partN ij i5 (by omega)).mono ?_
      rintro e w4 ⟨rfl, h4, _⟩
      rw [en_filter, rng_filter, show en (rng j) ++ [((j : Int), 5)] = en (rng (j + 1)) by rw [rng_succ, en_app]; rfl] at h4
      have H4 := Lib.hid h4
      clear h4 HJ
      go_wp2
      go_roundw
      case rel => exact ⟨j + 1, by omega, by go_num, H4⟩
      case measure => simp [intOf]; omega
    · obtain rfl : j = M := by omega
      have d4 : decide ((j : Int) < (j : Int)) = false := by simp
      go_wp2_with fail
      go_loopw [9, 10] (fun va i wr => ∃ t : Nat, t ≤ j ∧ i = .int .i64 (t : Int) ∧ Hid (Two (DV Y (en (rng j)) j) Nobody w (fun b => va.ownBlock = some b) wr) ∧ Hid (OwnK encZ 1 3 w.heap.size va (rng t) wr)) (fun _ i _ => j + 1 - (intOf i).toNat)
      case atStart => exact ⟨0, by omega, rfl, Lib.hid (HJ.out.fewer fun b e => by cases e), Lib.hid (ownK_nil _ _ _ _ _)⟩
      case round =>
        clear HJ
        obtain ⟨t, ht, rfl, HT2, OA⟩ := hrel
        by_cases hlt2 : t < j
        · have d5 : decide ((t : Int) < (j : Int)) = true := by simpa using hlt2
          go_wp2_with (at_builtin; (
            refine wpList_push encZ_len (by decide) encZ_one z_under infoInt rfl (by decide) (by first | rfl | kernel_rfl) _ _ rfl u9 rfl OA.out [(t : Int)] (by simp) 1 rfl _ rfl rfl HT2.out partD partN (fun b e => e) (by rw [rng_len]; omega) ?_
            intro g cp w8 ho1 T8 K8 N8
            rw [← rng_succ, rng_len] at ho1
            rw [rng_len]
            have OA8 := Lib.hid ho1
            have HT8 := Lib.hid (T8.fewer (x' := fun b => b = g) fun b e => .inr e)
            clear ho1 T8 K8 N8 HT2 OA))
          exact ⟨⟨t + 1, by omega, by go_num, Lib.hid (HT8.out.fewer fun b e => by cases e; rfl), OA8⟩, by simp [intOf]; omega⟩
        · obtain rfl : t = j := by omega
          have d5 : decide ((t : Int) < (t : Int)) = false := by simp
          go_wp2_with fail
          go_loopw [9, 11] (fun va i wr => ∃ s : Nat, ∃ O : List Int, s ≤ T ∧ i = .int .i64 (s : Int) ∧ Hid (O.Perm (rng t)) ∧ Hid (Two (DV Y (en O) (t + s)) Nobody w (fun b => va.ownBlock = some b) wr) ∧ Hid (OwnK encZ 1 3 w.heap.size va O wr)) (fun _ i _ => T + 1 - (intOf i).toNat)
          case atStart => exact ⟨0, _, by omega, rfl, Lib.hid (List.Perm.refl _), HT2, OA⟩
          case round =>
            clear HT2 OA
            obtain ⟨s, O, hs, rfl, HP, HT3, OA⟩ := hrel
            have hOl : O.length = t := HP.out.length_eq.trans (rng_len t)
            have HOL := Lib.hid hOl
            clear hOl
            by_cases hlt3 : s < T
            · have d6 : decide ((s : Int) < (T : Int)) = true := by simpa using hlt3
              have hsl : s < L1.length := by rw [HT.out]; exact hlt3
              obtain ⟨b, off, rfl, c1⟩ := rk_cell (HR1.out.below HT3.out.bel) hsl
              have hzb := HB1.out _ (List.getElem_mem hsl)
              generalize L1[s] = z at c1 hzb
              have hkb := roundI_bounds z (t : Int) (by omega)
              have hrr := fun w => round_any z (t : Int) w (by omega) (by omega) hzb.1 hzb.2
              obtain ⟨k, hk⟩ : ∃ k, roundI z (t : Int) = k := ⟨_, rfl⟩
              rw [hk] at hkb
              have HRR := Lib.hid (fun w => by have := hrr w; rw [hk] at this; exact this)
              have ik : I64 k := i64_small _ (by omega) (by omega)
              have HKR := Lib.hid (rng_mem.2 hkb)
              clear hrr hk hzb hsl
              go_wp2_with fail
              refine (HRR.out _).mono ?_
              rintro e w8 ⟨rfl, rfl⟩
              clear c1
              go_wp2_with fail
              refine (t_set HT3.out partN ik i5 (by omega)).mono ?_
              rintro e w9 ⟨rfl, h9, K9⟩
              rw [en_filter, show en (O.filter (fun i => i != k)) ++ [(k, 5)] = en (O.filter (fun i => i != k) ++ [k]) by rw [en_app]; rfl] at h9
              have H9 := Lib.hid h9
              have OA9 := Lib.hid (K9.own OA.out (fun b e => e))
              clear h9 K9 HT3 OA
              generalize hZ : DV Y (en (O.filter (fun i => i != k) ++ [k])) (t + s + 1) = ZD at *
              have HZ := Lib.hid hZ
              have PZ : Part ZD := hZ ▸ partD
              clear hZ
              obtain ⟨g0, c9, e9⟩ : ∃ g0 c9, u9 = .slice (some ⟨g0, 0, none⟩) t c9 := by
                obtain ⟨a, c, e, f⟩ := ownK_form OA9.out
                obtain ⟨g, rfl⟩ := f (by intro e2; have := HOL.out; rw [e2] at this; simp at this; omega)
                rw [HOL.out] at e
                exact ⟨g, c, e⟩
              subst e9
              go_wp2_with fail
              go_loopw [13, 14] (fun vo i wr => ∃ r : Nat, r ≤ t ∧ i = .int .i64 (r : Int) ∧ Hid (Two ZD Nobody w (fun b => b = g0 ∨ vo.ownBlock = some b) wr) ∧ Hid (OwnK encZ 1 3 w.heap.size (.slice (some ⟨g0, 0, none⟩) t c9) O wr) ∧ Hid (OwnK encZ 1 3 w.heap.size vo ((O.take r).filter (fun i => i != k)) wr) ∧ Hid (vo.ownBlock ≠ some g0)) (fun _ i _ => t + 1 - (intOf i).toNat)
              case atStart => exact ⟨0, by omega, rfl, Lib.hid (H9.out.fewer fun b e => e.elim (fun e => by cases e; rfl) (fun e => by cases e)), OA9, Lib.hid (ownK_nil _ _ _ _ _), Lib.hid (fun e => by cases e)⟩
              case round =>
                clear H9 OA9
                obtain ⟨r, hr, rfl, H4, O4, V4, D4⟩ := hrel
                by_cases hlt4 : r < t
                · have d7 : decide ((r : Int) < (t : Int)) = true := by simpa using hlt4
                  have hrl : r < O.length := by rw [HOL.out]; exact hlt4
                  have c2 : wr.cell? ⟨g0, r, none⟩ = some (.int .i64 O[r]) := by
                    obtain ⟨b2, off2, e, c2⟩ := rk_cell (n := t) (cap := c9) (ao := some ⟨g0, 0, none⟩) (RK.own O4.out (x := fun _ => True) (fun _ _ => trivial)) hrl
                    cases e
                    rw [Nat.zero_add] at c2
                    exact c2
                  have hfl : ((O.take r).filter (fun i => i != k)).length ≤ 20 := Nat.le_trans (List.length_filter_le _ _) (by rw [List.length_take]; omega)
                  by_cases hk : O[r] = k
                  · have he := take_filter_eq hrl hk
                    have V5 := V4.out
                    rw [← he] at V5
                    have V6 := Lib.hid V5
                    have d8 : (O[r] != k) = false := by simp [hk]
                    generalize O[r] = y at *
                    clear he V5 V4 hk hfl hrl
                    go_wp2
                    go_roundw
                    case rel => exact ⟨r + 1, by omega, by go_num, H4, O4, V6, D4⟩
                    case measure => simp [intOf]; omega
                  · have he := take_filter_ne hrl hk
                    have d8 : (O[r] != k) = true := by simp [hk]
                    have HE := Lib.hid he
                    have HFL := Lib.hid hfl
                    generalize O[r] = y at *
                    clear he hk hfl hrl
                    go_wp2_with (at_builtin; (
                      refine wpList_push encZ_len (by decide) encZ_one z_under infoInt rfl (by decide) (by first | rfl | kernel_rfl) _ _ rfl u13 rfl V4.out [y] (by simp) 1 rfl _ rfl rfl H4.out PZ partN (fun b e => .inr e) (by have := HFL.out; omega) ?_
                      intro g cp w10 ho1 T8 K8 N8
                      have hg0 := own_blk O4.out
                      have O5 := Lib.hid (own_kept O4.out fun b e => by
                        cases e
                        obtain ⟨c, hc⟩ := hg0
                        exact K8 _ hc.lt D4.out)
                      have D5 : Hid (g ≠ g0) := Lib.hid fun e => by
                        rcases N8 with e2 | e2
                        · exact D4.out (e ▸ e2)
                        · obtain ⟨c, hc⟩ := hg0
                          have := hc.lt
                          omega
                      rw [← HE.out] at ho1
                      have V5 := Lib.hid ho1
                      have H5 := Lib.hid (T8.fewer (x' := fun b => b = g0 ∨ b = g) fun b e => e.elim (fun e => .inl (.inl e)) (fun e => .inr e))
                      clear ho1 T8 K8 N8 H4 O4 V4 D4 hg0 HE))
                    exact ⟨⟨r + 1, by omega, by go_num, Lib.hid (H5.out.fewer fun b e => e.imp id (fun e => by cases e; rfl)), O5, V5, Lib.hid (fun e => by cases e; exact D5.out rfl)⟩, by simp [intOf]; omega⟩
                · obtain rfl : r = t := by omega
                  have d7 : decide ((r : Int) < (r : Int)) = false := by simp
                  have V5 := V4.out
                  rw [List.take_of_length_le (Nat.le_of_eq HOL.out)] at V5
                  have hfl : (O.filter (fun i => i != k)).length ≤ 20 := Nat.le_trans (List.length_filter_le _ _) (by rw [HOL.out]; omega)
                  have HFL := Lib.hid hfl
                  have V6 := Lib.hid V5
                  clear V5 V4 hfl
                  go_wp2_with (at_builtin; (
                    refine wpList_push encZ_len (by decide) encZ_one z_under infoInt rfl (by decide) (by first | rfl | kernel_rfl) _ _ rfl u13 rfl V6.out [k] (by simp) 1 rfl _ rfl rfl H4.out PZ partN (fun b e => .inr e) (by have := HFL.out; omega) ?_
                    intro g cp w10 ho1 T8 K8 N8
                    have V7 := Lib.hid ho1
                    have H5 := Lib.hid (T8.fewer (x' := fun b => b = g) fun b e => .inr e)
                    clear ho1 T8 K8 N8 H4 O4 V6 D4))
                  have hz := HZ.out
                  subst hz
                  exact ⟨⟨s + 1, O.filter (fun i => i != k) ++ [k], by omega, by go_num, Lib.hid (perm_behind HP.out HKR.out), Lib.hid (H5.out.fewer fun b e => by cases e; rfl), V7⟩, by simp [intOf]; omega⟩
            · obtain rfl : s = T := by omega
              have d6 : decide ((s : Int) < (s : Int)) = false := by simp
              obtain ⟨g0, c9, e9⟩ : ∃ g0 c9, u9 = .slice (some ⟨g0, 0, none⟩) t c9 := by
                obtain ⟨a, c, e, f⟩ := ownK_form OA.out
                obtain ⟨g, rfl⟩ := f (by intro e2; have := HOL.out; rw [e2] at this; simp at this; omega)
                rw [HOL.out] at e
                exact ⟨g, c, e⟩
              subst e9
              generalize hZ : DV Y (en O) (t + s) = ZD at *
              have HZ := Lib.hid hZ
              have PZ : Part ZD := hZ ▸ partD
              clear hZ
              have HC := Lib.hid (Decidable.em (5 ≤ at_))
              obtain ⟨bb, hbb⟩ : ∃ bb, decide (at_ ≥ 5) = bb := ⟨_, rfl⟩
              have HBB := Lib.hid hbb
              go_wp2_with fail
              go_loopw [15, 16] (fun vo i wr => ∃ r : Nat, r ≤ t ∧ i = .int .i64 (r : Int) ∧ Hid (0 < r → bb = true) ∧ Hid (Two ZD Nobody w (fun b => b = g0 ∨ vo.ownBlock = some b) wr) ∧ Hid (OwnK encZ 1 3 w.heap.size (.slice (some ⟨g0, 0, none⟩) t c9) O wr) ∧ Hid (OwnK encQ 2 56 w.heap.size vo (en (O.take r)) wr) ∧ Hid (vo.ownBlock ≠ some g0)) (fun _ i _ => t + 1 - (intOf i).toNat)
              case atStart => exact ⟨0, by omega, rfl, Lib.hid (fun e => absurd e (Nat.lt_irrefl 0)), Lib.hid (HT3.out.fewer fun b e => e.elim (fun e => by cases e; rfl) (fun e => by cases e)), OA, Lib.hid (ownK_nil _ _ _ _ _), Lib.hid (fun e => by cases e)⟩
              case round =>
                clear HT3 OA
                obtain ⟨r, hr, rfl, HB, H4, O4, V4, D4⟩ := hrel
                by_cases hlt4 : r < t ∧ bb = true
                · obtain ⟨hlt4, rfl⟩ := hlt4
                  have d7 : decide ((r : Int) < (t : Int)) = true := by simpa using hlt4
                  have hrl : r < O.length := by rw [HOL.out]; exact hlt4
                  have c2 : wr.cell? ⟨g0, r, none⟩ = some (.int .i64 O[r]) := by
                    obtain ⟨b2, off2, e, c2⟩ := rk_cell (n := t) (cap := c9) (ao := some ⟨g0, 0, none⟩) (RK.own O4.out (x := fun _ => True) (fun _ _ => trivial)) hrl
                    cases e
                    rw [Nat.zero_add] at c2
                    exact c2
                  have he : en (O.take (r + 1)) = en (O.take r) ++ [(O[r], 5)] := by rw [List.take_succ_eq_append_getElem hrl, en_app]; rfl
                  have HE := Lib.hid he
                  have HFL := Lib.hid (show (en (O.take r)).length = r by unfold en; rw [List.length_map, List.length_take]; omega)
                  generalize O[r] = y at *
                  clear he hrl
                  go_wp2_with (at_builtin; (
                    refine wpList_push encQ_len (by decide) encQ_one q_under infoQ rfl (by decide) (by first | rfl | kernel_rfl) _ _ rfl u15 rfl V4.out [(y, 5)] (by simp) 1 rfl _ rfl rfl H4.out PZ partN (fun b e => .inr e) (by have := HFL.out; omega) ?_
                    intro g cp w10 ho1 T8 K8 N8
                    have hg0 := own_blk O4.out
                    have O5 := Lib.hid (own_kept O4.out fun b e => by
                      cases e
                      obtain ⟨c, hc⟩ := hg0
                      exact K8 _ hc.lt D4.out)
                    have D5 : Hid (g ≠ g0) := Lib.hid fun e => by
                      rcases N8 with e2 | e2
                      · exact D4.out (e ▸ e2)
                      · obtain ⟨c, hc⟩ := hg0
                        have := hc.lt
                        omega
                    rw [← HE.out] at ho1
                    have V5 := Lib.hid ho1
                    have H5 := Lib.hid (T8.fewer (x' := fun b => b = g0 ∨ b = g) fun b e => e.elim (fun e => .inl (.inl e)) (fun e => .inr e))
                    clear ho1 T8 K8 N8 H4 O4 V4 D4 hg0 HE))
                  exact ⟨⟨r + 1, by omega, by go_num, Lib.hid (fun _ => by first | rfl | trivial), Lib.hid (H5.out.fewer fun b e => e.imp id (fun e => by cases e; rfl)), O5, V5, Lib.hid (fun e => by cases e; exact D5.out rfl)⟩, by simp [intOf]; omega⟩
                · have hwant : en (O.take r) = Du.uptoE at_ (en O) [] := by
                    by_cases hb : bb = true
                    · have h5 : 5 ≤ at_ := by have := HBB.out; rw [hb] at this; simpa using this
                      rw [List.take_of_length_le (by have := HOL.out; have : ¬ r < t := fun e => hlt4 ⟨e, hb⟩; omega)]
                      exact (uptoE_same at_ h5 O []).symm
                    · have h5 : ¬ 5 ≤ at_ := by have := HBB.out; intro e; exact hb (by rw [← this]; simpa using e)
                      obtain rfl : r = 0 := Nat.eq_zero_of_not_pos fun e => hb (HB.out e)
                      exact (uptoE_none at_ h5 O []).symm
                  have HW := Lib.hid hwant
                  have HNL := Lib.hid hlt4
                  clear hwant hlt4
                  have VR := Lib.hid (RK.own V4.out (x := fun b => u15.ownBlock = some b ∧ b < wr.heap.size) (fun b e => ⟨e, by obtain ⟨c, hc⟩ := own_blk' V4.out e; exact hc.lt⟩))
                  have EL : Hid (((en O).length : Int) = (t : Int)) := Lib.hid (by unfold en; rw [List.length_map, HOL.out])
                  have hz := HZ.out
                  subst hz
                  have tail : ∀ W : World, W = wr → Calls Try.prog 33 #[.pointer (some ⟨Y, 0, none⟩), .int .i64 at_, .int .i64 (-1)] W fun e W' => ∃ v, e = .returned v ∧ RK encQ (fun k => wr.heap.size ≤ k ∧ k < W'.heap.size) v (en (O.take r)) W' ∧ RK encQ (fun b => u15.ownBlock = some b ∧ b < wr.heap.size) u15 (en (O.take r)) W' ∧ Two (DV Y (en O) (t + s)) Nobody w (fun b => b = g0 ∨ u15.ownBlock = some b) W' := by
                    rintro W rfl
                    refine (t_upto H4.out partN (by omega) at_ (-1) HAT.out).mono ?_
                    rintro e W' ⟨v, rfl, r1, h1, k1⟩
                    refine ⟨v, rfl, ?_, k1.rk VR.out (fun b e => .inr e.1) (fun b e => e.2), h1⟩
                    have := r1
                    rw [show cutAt (-1) (Du.uptoE at_ (en O) []) = en (O.take r) by rw [← HW.out]; rfl] at this
                    exact this
                  have HLN := Lib.hid (show (en (O.take r)).length < 100000 by unfold en; rw [List.length_map, List.length_take]; omega)
                  have TL := Lib.hid tail
                  clear tail VR V4 O4 D4 H4 HZ HW PZ HB HC
                  by_cases hrt : r < t
                  · have hb : bb = false := by cases bb; rfl; exact absurd ⟨hrt, rfl⟩ HNL.out
                    subst hb
                    have d8 := HBB.out
                    clear HNL HBB hbb
                    go_wp2_with fail
                    refine (TL.out _ rfl).mono ?_
                    rintro e W1 ⟨v, rfl, r1, r2, h1⟩
                    have HR := Lib.hid (And.intro r1 (And.intro r2 h1))
                    clear r1 r2 h1
                    go_wp2_with fail
                    refine (pairs_same HR.out.1 HR.out.2.1 HLN.out).mono ?_
                    rintro e W2 ⟨rfl, n, rfl⟩
                    have H2 := Lib.hid (HR.out.2.2.drew partD partN n)
                    clear HR
                    generalize W1.drewN n = W2 at *
                    go_wp2_with fail
                    refine (t_dlen H2.out).mono ?_
                    rintro e W3 ⟨rfl, rfl⟩
                    rw [EL.out]
                    have HB2 := Lib.hid H2.out.bel
                    clear H2
                    go_wp2_with fail
                    refine (awake9_any _).mono ?_
                    rintro e W4 ⟨rfl, hb⟩
                    go_wp2
                    go_ret
                    exact ⟨rfl, HB2.out.trans (hb.mono HB2.out.size)⟩
                  · clear HNL
                    go_wp2_with fail
                    refine (TL.out _ rfl).mono ?_
                    rintro e W1 ⟨v, rfl, r1, r2, h1⟩
                    have HR := Lib.hid (And.intro r1 (And.intro r2 h1))
                    clear r1 r2 h1
                    go_wp2_with fail
                    refine (pairs_same HR.out.1 HR.out.2.1 HLN.out).mono ?_
                    rintro e W2 ⟨rfl, n, rfl⟩
                    have H2 := Lib.hid (HR.out.2.2.drew partD partN n)
                    clear HR
                    generalize W1.drewN n = W2 at *
                    go_wp2_with fail
                    refine (t_dlen H2.out).mono ?_
                    rintro e W3 ⟨rfl, rfl⟩
                    rw [EL.out]
                    have HB2 := Lib.hid H2.out.bel
                    clear H2
                    go_wp2_with fail
                    refine (awake9_any _).mono ?_
                    rintro e W4 ⟨rfl, hb⟩
                    go_wp2
                    go_ret
                    exact ⟨rfl, HB2.out.trans (hb.mono HB2.out.size)⟩
end Go.Proofs.Ytjaejdenboggpaa

/- ListsTimes of package freshetlaw9 (set again, one is behind all others of its new time; dropped, it is nowhere; who is by a time are all whose time that is, or less) returns true at every int, list of ints and int.
   Conditions: those of the row, none beside. -/
namespace Go.Proofs.Ytjaejdenboggpaa.listsTimes
open Go.ChangeShapes Go.WideShapes Go.ChangeAt Go.RowKit

set_option maxRecDepth 100000 in
theorem contract (H : Type) (enc : TypeId × Value → H) (W : World) (base : Nat) (args : Array Value) (ds gs : List (DataW H)) (before : List MemPlace)
    (hval : ∀ (j : Nat) t v, Try.f7.params[j]? = some t → args[j]? = some v → Value.okWide Try.prog W .any base t v)
    (hW : DataW.Whole enc Try.prog Try.f7.params.toList Rows.listsTimesSpec.vars false W args.toList ds gs before) (_hL : laidMetH Try.prog laidList W) :
    Calls Try.prog 7 args W fun e W' => ∃ v, e = .returned v ∧ Rows.listsTimesSpec.post enc Try.prog Try.f7 false true false false W args v W' := by
  have hW' := hW
  obtain ⟨p, q, hA0, hV, rfl, _, _⟩ := hW
  have hA : DataW.TrodAll enc Try.prog W 0 (fun _ => true) true Try.f7.params.toList args.toList ds p := hA0
  clear hA0
  rw [Try.params7] at hA hval
  obtain ⟨v0, vs0, d0, ds0, p0, q0, hargs0, rfl, rfl, h0, r0⟩ := trodAll_cons hA
  obtain ⟨v1, vs1, d1, ds1, p1, q1, hargs1, rfl, rfl, h1, r1⟩ := trodAll_cons r0
  subst hargs1
  obtain ⟨v2, vs2, d2, ds2, p2, q2, hargs2, rfl, rfl, h2, r2⟩ := trodAll_cons r1
  subst hargs2
  obtain ⟨rfl, rfl, rfl⟩ := trodAll_nil r2
  obtain rfl : args = #[v0, v1, v2] := by cases args; simp_all
  obtain ⟨rfl, rfl⟩ := trodVars_none hV
  obtain ⟨z0, rfl, hz0⟩ := arg_int (hval 0 _ _ rfl rfl) h0
  obtain ⟨L1, hr1, hb1, hl1⟩ := arg_ints (hval 1 _ v1 rfl rfl) h1
  obtain ⟨z2, rfl, hz2⟩ := arg_int (hval 2 _ _ rfl rfl) h2
  refine (times9_any z0 z2 v1 L1 W hz2 hr1 hb1 hl1).mono fun e W' ⟨he, hbl⟩ => ?_
  exact ⟨_, he, law_post hW' rfl hbl rfl rfl (fun t ht => readT9 t (by rw [Try.params7] at ht; exact (show ∀ t ∈ (#[3, 27, 3] : Array TypeId).toList, t ∈ [3, 27, 22] by decide) t ht))⟩

set_option maxRecDepth 100000 in
theorem reads (os : Os) {H : Type} (enc : TypeId × Value → H) : ∃ places, DataW.whole enc Try.prog ((laidWorld os).forCall (fun _ _ => 0) ⟨#[], #[.int .i64 0, .slice none 0 0, .int .i64 0], []⟩).memory Try.f7.params.toList Rows.listsTimesSpec.vars false (#[.int .i64 0, .slice none 0 0, .int .i64 0] : Array Value).toList 8 = some ([.lit (.int .i64 0), .nil, .lit (.int .i64 0)], [], places) :=
  ⟨[], by kernel_rfl⟩

set_option maxRecDepth 100000 in
theorem lifted (os : Os) (started : os.Started) (H : Type) (enc : TypeId × Value → H) (F : Stop.Interp) :
    ReturnsInHanded {} Try.checked os 7 .any ((OpenSpec.ofChange Rows.listsTimesSpec).preRow enc Try.prog Try.f7 Rows.listsTimesRow.domain false Rows.listsTimesRow.laid) (((OpenSpec.ofChange Rows.listsTimesSpec).at F).post enc Try.prog Try.f7 false true false false) := by
  obtain ⟨places, hx⟩ := reads os enc
  refine returnsInHanded_of_row (C := Try.checked) (s := OpenSpec.ofChange Rows.listsTimesSpec) own started (by kernel_rfl) Try.func7
    (witness_row_atRef (enc := enc) (C := Try.checked) false (laidWorld os) #[.int .i64 0, .slice none 0 0, .int .i64 0] rfl (by kernel_rfl) (by kernel_rfl) (by kernel_rfl)
      (OpenSpec.preRow_of_cond 8 hx (by kernel_rfl) (fun k hk => by cases hk) (by kernel_rfl) (laid_met os _))) ?_
  intro W base args ds gs before hval hW _ _ _ hL _ _
  exact contract H enc W base args ds gs before hval hW hL

theorem said : Rows.ListsTimesSaid :=
  OpenClaim.holds_of_cond 7 Try.f7 rfl rfl rfl rfl rfl rfl rfl ⟨rfl, rfl, rfl, rfl, rfl⟩ rfl rfl rfl rfl rfl (by kernel_rfl) Try.func7 (by kernel_rfl)
    (of_decide_eq_true (by kernel_rfl)) (by unfold Func.isWrapper; first | (rw [if_pos (by decide +kernel)]; kernel_rfl) | (rw [if_neg (by decide +kernel)]; exact ⟨rfl, rfl⟩))
    (fun os started H enc _ F => by rw [OpenClaim.pre_eq_preRow]; exact lifted os started H enc F)
end Go.Proofs.Ytjaejdenboggpaa.listsTimes
