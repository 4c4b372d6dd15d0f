/- ListsNew of package freshetlaw9 (who is new goes ahead of all who were used, and behind all who are as new and came ahead; with nobody protected, use makes one the newest) returns true at every two ints.
   Conditions: those of the row, none beside. -/
import Derived.LoopTactic
import Derived.Test.YtjaejdenboggpaaJB26
import Derived.Test.YtjaejdenboggpaaJB27
/- The law ListsNew, walked. -/
set_option maxRecDepth 100000
namespace Go.Proofs.Ytjaejdenboggpaa
open Go Go.RowKit Go.Shelf Go.Maps
theorem touch_new {n : Nat} {most : Int} {k : Int} (hk : k ∈ rng n) (h : 1 ≤ most) : touch most (rng n) [] k = ((rng n).erase k, [k]) := by
  unfold touch
  rw [if_neg (by simp), if_pos hk, if_pos (by simpa using h)]
  rfl
theorem touch_zero {n : Nat} {k : Int} (hk : k ∈ rng n) : touch 0 (rng n) [] k = ((rng n).erase k ++ [k], []) := by
  unfold touch
  rw [if_neg (by simp), if_pos hk, if_neg (by simp)]
  rfl
set_option maxHeartbeats 16000000 in
theorem new9_any (n used : Int) (w : World) (hu : -9223372036854775808 ≤ used ∧ used ≤ 9223372036854775807) : Calls Try.prog 8 #[.int .i64 n, .int .i64 used] w fun e w' => e = .returned (.bool true) ∧ Below w.heap.size w w' := by
  have q1 := qLruE
  by_cases hn1 : n < 1
  · go_enter Try.func8, Try.ntmps8
    go_wp2_with fail
    refine (awake9_any _).mono ?_
    rintro e w1 ⟨rfl, hb⟩
    go_wp2
    go_ret
    exact ⟨rfl, hb⟩
  by_cases hn2 : 20 < n
  · go_enter Try.func8, Try.ntmps8
    go_wp2_with fail
    refine (awake9_any _).mono ?_
    rintro e w1 ⟨rfl, hb⟩
    go_wp2
    go_ret
    exact ⟨rfl, hb⟩
  obtain ⟨M, rfl⟩ : ∃ M : Nat, n = (M : Int) := ⟨n.toNat, by omega⟩
  have hM : M ≤ 20 := by omega
  have hM1 : 1 ≤ M := by omega
  have iM : I64 (M : Int) := i64_small _ (by omega) (by omega)
  have hkb := roundI_bounds used (M : Int) (by omega)
  have hr := fun w => round_any used (M : Int) w (by omega) (by omega) hu.1 hu.2
  obtain ⟨k, hk⟩ : ∃ k, roundI used (M : Int) = k := ⟨_, rfl⟩
  rw [hk] at hkb
  have HR := Lib.hid (fun w => by have := hr w; rw [hk] at this; exact this)
  have ik : I64 k := i64_small _ (by omega) (by omega)
  have hkr : k ∈ rng M := rng_mem.2 hkb
  have HKR := Lib.hid hkr
  have HKB := Lib.hid hkb
  have d1 : decide ((M : Int) < 1) = false := by simp; omega
  have d2 : decide ((M : Int) > 20) = false := by simp; omega
  clear hr hk hkr hu hn1 hn2
  go_enter Try.func8, Try.ntmps8
  go_wp2_with fail
  refine (t_lnew (Two.start w) partN (M : Int) iM).mono ?_
  rintro e w1 ⟨X, rfl, h1, _⟩
  rw [Int.max_eq_left (by omega : (0 : Int) ≤ (M : Int))] at h1
  go_wp2_with fail
  refine (t_lnew h1.swap partL 0 (i64_small _ (by decide) (by decide))).mono ?_
  rintro e w2 ⟨Y, rfl, h2, _⟩
  have H2 : Hid (Two (LV X (M : Int) [] [] 0) (LV Y 0 [] [] 0) w (fun _ => False) w2) := Lib.hid h2.swap
  clear h1 h2
  go_wp2_with fail
  refine (HR.out _).mono ?_
  rintro e w3 ⟨rfl, rfl⟩
  go_wp2_with fail
  go_loopw [8] (fun i wr => ∃ j : Nat, j ≤ M ∧ i = .int .i64 (j : Int) ∧ Hid (Two (LV X (M : Int) (rng j) [] j) (LV Y 0 (rng j) [] j) w (fun _ => False) wr)) (fun i _ => M + 1 - (intOf i).toNat)
  case atStart => exact ⟨0, by omega, rfl, H2⟩
  case round =>
    clear H2
    obtain ⟨j, hj, rfl, HJ⟩ := hrel
    by_cases hlt : j < M
    · have d3 : decide ((j : Int) < (M : Int)) = true := by simpa using hlt
      have ij : I64 (j : Int) := i64_small _ (by omega) (by omega)
      go_wp2_with fail
      refine (t_add HJ.out partL ij (by omega)).mono ?_
      rintro e w4 ⟨rfl, h4, _⟩
      rw [addP_rng] at h4
      have H4 := Lib.hid h4.swap
      clear h4 HJ
      go_wp2_with fail
      refine (t_add H4.out partL ij (by omega)).mono ?_
      rintro e w5 ⟨rfl, h5, _⟩
      rw [addP_rng] at h5
      have H5 := Lib.hid h5.swap
      clear h5 H4
      go_wp2
      go_roundw
      case rel => exact ⟨j + 1, by omega, by go_num, H5⟩
      case measure => simp [intOf]; omega
    · obtain rfl : j = M := by omega
      have d3 : decide ((j : Int) < (j : Int)) = false := by simp
      have hmem : k ∈ rng j ++ [] := by rw [List.append_nil]; exact HKR.out
      go_wp2_with fail
      refine (t_touch HJ.out partL ik hmem (by omega)).mono ?_
      rintro e w4 ⟨rfl, h4, _⟩
      rw [touch_new HKR.out (by omega)] at h4
      have H4 := Lib.hid h4.swap
      clear h4 HJ
      go_wp2_with fail
      refine (t_touch H4.out partL ik hmem (by omega)).mono ?_
      rintro e w5 ⟨rfl, h5, _⟩
      rw [touch_zero HKR.out] at h5
      have H5 := Lib.hid h5.swap
      clear h5 H4 hmem
      have i100 : I64 100 := i64_small _ (by decide) (by decide)
      have n100 : (100 : Int) ∉ (rng j).erase k := fun e => by have := rng_mem.1 (List.mem_of_mem_erase e); omega
      have hk100 : (100 : Int) ≠ k := by omega
      have m1 : (100 : Int) ∉ (rng j).erase k ++ [k] := by
        rw [List.mem_append, List.mem_singleton]
        rintro (e | e)
        · exact n100 e
        · exact hk100 e
      go_wp2_with fail
      refine (t_add H5.out partL i100 (by omega)).mono ?_
      rintro e w6 ⟨rfl, h6, _⟩
      rw [addP_new m1] at h6
      have H6 := Lib.hid h6.swap
      clear h6 H5
      go_wp2_with fail
      refine (t_add H6.out partL i100 (by omega)).mono ?_
      rintro e w7 ⟨rfl, h7, _⟩
      rw [addP_new (by rw [List.append_nil]; exact m1)] at h7
      have H7 := Lib.hid h7.swap
      clear h7 H6 m1 n100 hk100
      generalize hZ : LV X (j : Int) ((rng j).erase k ++ [100]) [k] (j + 1) = ZX at *
      generalize hZ2 : LV Y 0 ((rng j).erase k ++ [k] ++ [100]) [] (j + 1) = ZY at *
      have HZ := Lib.hid hZ
      have HZ2 := Lib.hid hZ2
      have PX : Part ZX := hZ ▸ partL
      have PY : Part ZY := hZ2 ▸ partL
      clear hZ hZ2
      go_wp2_with fail
      go_loopw [9, 10, 11] (fun va vb i wr => ∃ t : Nat, t ≤ j ∧ i = .int .i64 (t : Int) ∧ Hid (Two ZX ZY w (fun b => va.ownBlock = some b ∨ vb.ownBlock = some b) wr) ∧ Hid (OwnK encZ 1 3 w.heap.size va ((rng t).erase k) wr) ∧ Hid (OwnK encZ 1 3 w.heap.size vb ((rng t).erase k) wr) ∧ Hid (∀ g, va.ownBlock = some g → vb.ownBlock ≠ some g)) (fun _ _ i _ => j + 1 - (intOf i).toNat)
      case atStart => exact ⟨0, by omega, rfl, Lib.hid (H7.out.fewer fun b e => e.elim (fun e => by cases e) (fun e => by cases e)), Lib.hid (ownK_nil _ _ _ _ _), Lib.hid (ownK_nil _ _ _ _ _), Lib.hid fun g e => by cases e⟩
      case round =>
        clear H7
        obtain ⟨t, ht, rfl, HT, OA, OB, HD⟩ := hrel
        by_cases hlt2 : t < j
        · have d4 : decide ((t : Int) < (j : Int)) = true := by simpa using hlt2
          by_cases hne : (t : Int) = k
          · have d5 : ((t : Int) != k) = false := by simp [hne]
            have he := rng_erase_eq hne
            have OA2 : Hid (OwnK encZ 1 3 w.heap.size _ ((rng (t + 1)).erase k) wr) := Lib.hid (he ▸ OA.out)
            have OB2 : Hid (OwnK encZ 1 3 w.heap.size _ ((rng (t + 1)).erase k) wr) := Lib.hid (he ▸ OB.out)
            clear he hne
            go_wp2
            go_roundw
            case rel => exact ⟨t + 1, by omega, by go_num, HT, OA2, OB2, HD⟩
            case measure => simp [intOf]; omega
          · have d5 : ((t : Int) != k) = true := by simp [hne]
            have he := rng_erase_ne hne
            have hl : ((rng t).erase k).length ≤ 20 := Nat.le_trans (List.length_erase_le) (by rw [rng_len]; omega)
            have HE := Lib.hid he
            have HL := Lib.hid hl
            clear he hne hl
            obtain ⟨L, hL⟩ : ∃ L, (rng t).erase k = L := ⟨_, rfl⟩
            rw [hL] at OA OB HE HL
            clear hL
            have hbw := HT.out.bel.size
            have HBW := Lib.hid hbw
            clear hbw
            go_wp2_with (first
              | (at_builtin; (
              refine wpList_apK encZ_len (by decide) encZ_one (x := fun _ => True) z_under infoInt rfl (by decide) rfl _ _ rfl w.heap.size u9 L rfl (ownK_alloc OA.out _) (.slice (some ⟨wr.heap.size, 0, none⟩) 1 1) [(t : Int)] (by simp) rfl (RK.oneN (enc := encZ) (t : Int) 3 _ _ (by simp) _ rfl) (by have := HL.out; simp; omega) (by rw [World.size_alloc]; have := HBW.out; omega) ?_
              intro g cp w8 ho1 hg1 hl1
              obtain ⟨T8, K8, N8⟩ := Two.push HT.out PX PY OA.out (fun b e => .inl e) ho1 hg1 hl1
              have OB8 : Hid (OwnK encZ 1 3 w.heap.size u10 L w8) := Lib.hid (own_kept OB.out fun b e => by
                obtain ⟨c, hc⟩ := own_blk' OB.out e
                exact K8 b hc.lt fun e2 => HD.out b e2 e)
              have OA8 := Lib.hid ho1
              have HD8 : Hid (u10.ownBlock ≠ some g) := Lib.hid fun e => by
                obtain ⟨c, hc⟩ := own_blk' OB.out e
                have := hc.lt
                rcases N8 with e2 | e2
                · exact HD.out g e2 e
                · omega
              have HT8 : Hid (Two ZX ZY w (fun b => b = g ∨ u10.ownBlock = some b) w8) := Lib.hid (T8.fewer fun b e => e.elim (fun e => .inr e) (fun e => .inl (.inr e)))
              have HB8 := Lib.hid HT8.out.bel.size
              clear T8 K8 N8 ho1 hg1 hl1 HT OA OB HD HBW))
              | (at_builtin; (
              refine wpList_apK encZ_len (by decide) encZ_one (x := fun _ => True) z_under infoInt rfl (by decide) rfl _ _ rfl w.heap.size u10 L rfl (ownK_alloc OB8.out _) (.slice (some ⟨w8.heap.size, 0, none⟩) 1 1) [(t : Int)] (by simp) rfl (RK.oneN (enc := encZ) (t : Int) 3 _ _ (by simp) _ rfl) (by have := HL.out; simp; omega) (by rw [World.size_alloc]; have := HB8.out; omega) ?_
              intro g2 cp2 w9 ho1 hg1 hl1
              obtain ⟨T9, K9, N9⟩ := Two.push HT8.out PX PY OB8.out (fun b e => .inr e) ho1 hg1 hl1
              have hglt : g < w8.heap.size := by obtain ⟨c, hc⟩ := own_blk OA8.out; exact hc.lt
              have OA9 := Lib.hid (own_kept OA8.out fun b e => by cases e; exact K9 g hglt fun e2 => HD8.out e2)
              have OB9 := Lib.hid ho1
              have HD9 : Hid (g ≠ g2) := Lib.hid fun e => by
                rcases N9 with e2 | e2
                · exact HD8.out (e ▸ e2)
                · omega
              have HT9 : Hid (Two ZX ZY w (fun b => b = g ∨ b = g2) w9) := Lib.hid (T9.fewer fun b e => e.elim (fun e => .inl (.inl e)) (fun e => .inr e))
              clear T9 K9 N9 ho1 hg1 hl1 OA8 OB8 HD8 HT8 HB8 hglt)))
            have hLn : (L ++ [(t : Int)]).length = L.length + 1 := by simp
            have OA10 := OA9.out
            have OB10 := OB9.out
            rw [hLn, ← HE.out] at OA10 OB10
            exact ⟨⟨t + 1, by omega, by go_num, Lib.hid (HT9.out.fewer fun b e => e.elim (fun e => by cases e; exact .inl rfl) (fun e => by cases e; exact .inr rfl)), Lib.hid OA10, Lib.hid OB10, Lib.hid (fun b e e2 => by cases e; cases e2; exact HD9.out rfl)⟩, by simp [intOf]; omega⟩
        · obtain rfl : t = j := by omega
          have d4 : decide ((t : Int) < (t : Int)) = false := by simp
          have hz := HZ.out
          have hz2 := HZ2.out
          subst hz hz2
          have hl1 : ((rng t).erase k).length + 1 = t := by rw [List.length_erase_of_mem HKR.out, rng_len]; omega
          obtain ⟨L, hL⟩ : ∃ L, (rng t).erase k = L := ⟨_, rfl⟩
          rw [hL] at OA OB HT hl1
          have HLL := Lib.hid hl1
          clear hL hl1 HZ HZ2 PX PY
          have e1 : (((L ++ [100]).length : Nat) : Int) = (t : Int) := by rw [List.length_append, List.length_singleton, HLL.out]
          have e2 : (((L ++ [k] ++ [100]).length : Nat) : Int) = (t : Int) + 1 := by rw [List.length_append, List.length_append, List.length_singleton, List.length_singleton]; have := HLL.out; omega
          have E1 := Lib.hid e1
          have E2 := Lib.hid e2
          clear e1 e2
          go_wp2_with fail
          refine (t_len HT.out partL (by omega)).mono ?_
          rintro e w8 ⟨rfl, h8, K8⟩
          rw [E1.out]
          have H8 := Lib.hid h8.swap
          have OA8 := Lib.hid (K8.own OA.out (fun b e => .inl e))
          have OB8 := Lib.hid (K8.own OB.out (fun b e => .inr e))
          clear h8 K8 HT OA OB
          go_wp2_with fail
          refine (t_len H8.out partL (by omega)).mono ?_
          rintro e w9 ⟨rfl, h9, K9⟩
          rw [E2.out]
          have H9 := Lib.hid h9.swap
          have OA9 := Lib.hid (K9.own OA8.out (fun b e => .inl e))
          have OB9 := Lib.hid (K9.own OB8.out (fun b e => .inr e))
          clear h9 K9 H8 OA8 OB8
          go_wp2_with fail
          refine (t_order H9.out partL (by omega) (-1)).mono ?_
          rintro e w10 ⟨v, rfl, r, h10, K10⟩
          have H10 := Lib.hid h10
          have OA10 := Lib.hid (K10.own OA9.out (fun b e => .inl e))
          have OB10 := Lib.hid (K10.own OB9.out (fun b e => .inr e))
          have LA9 : Hid (∀ g, u9.ownBlock = some g → g < w9.heap.size) := Lib.hid fun g e => by
            obtain ⟨c, hc⟩ := own_blk' OA9.out e
            exact hc.lt
          have R10 : Hid (RK encZ (fun b => w9.heap.size ≤ b ∧ b < w10.heap.size) v (L ++ [100, k]) w10) := Lib.hid (by
            have := r
            rw [show cutAt (-1) (L ++ [100] ++ [k]) = L ++ [100, k] by simp [cutAt]] at this
            exact this)
          have HB10 := Lib.hid h10.bel.size
          clear h10 K10 r H9 OA9 OB9
          go_wp2_with (at_builtin; (
            refine wpList_apK encZ_len (by decide) encZ_one (x := fun b => b = w10.heap.size) z_under infoInt rfl (by decide) rfl _ _ rfl w.heap.size u9 L rfl (ownK_alloc OA10.out _) (.slice (some ⟨w10.heap.size, 0, none⟩) 2 2) [100, k] (by simp) rfl (RK.lit (enc := encZ) [100, k] 3 _ _ rfl _ rfl _ rfl) (by have := HLL.out; simp; omega) (by rw [World.size_alloc]; have := HB10.out; omega) ?_
            intro g cp w11 ho1 hg1 hl1
            obtain ⟨T11, K11, N11⟩ := Two.push H10.out partL partL OA10.out (fun b e => .inl e) ho1 hg1 hl1
            have OB11 := Lib.hid (own_kept OB10.out fun b e => by
              obtain ⟨c, hc⟩ := own_blk' OB10.out e
              exact K11 b hc.lt fun e2 => HD.out b e2 e)
            have OA11 := Lib.hid ho1
            have R11 := Lib.hid (R10.out.same fun b hb => K11 b hb.2 fun e => by have := LA9.out b e; omega)
            have H11 := Lib.hid (T11.fewer (x' := fun b => u10.ownBlock = some b) fun b e => .inl (.inr e))
            clear T11 K11 N11 ho1 hg1 hl1 OA10 OB10 R10 H10 HB10 LA9 HD))
          have RA11 := RK.own OA11.out (x := fun b => b = g) (fun b e => by cases e; rfl)
          have hL2 : (L ++ [100, k]).length = L.length + 2 := by simp
          rw [hL2] at RA11
          refine (ints_same R11.out RA11 (by rw [hL2]; have := HLL.out; omega)).mono ?_
          rintro e w12 ⟨rfl, n, rfl⟩
          have H12 := Lib.hid (H11.out.drew partL partL n).swap
          have OB12 := Lib.hid (own_kept (W' := w11.drewN n) OB11.out fun b e => rfl)
          clear RA11 hL2 R11 H11 OB11 OA11
          generalize w11.drewN n = w12 at *
          go_wp2_with fail
          refine (t_order H12.out partL (by omega) (-1)).mono ?_
          rintro e w13 ⟨v2, rfl, r, h13, K13⟩
          have H13 := Lib.hid h13
          have OB13 := Lib.hid (K13.own OB12.out (fun b e => e))
          have LB : Hid (∀ g, u10.ownBlock = some g → g < w12.heap.size) := Lib.hid fun g e => by
            obtain ⟨c, hc⟩ := own_blk' OB12.out e
            exact hc.lt
          have R13 : Hid (RK encZ (fun b => w12.heap.size ≤ b ∧ b < w13.heap.size) v2 (L ++ [k, 100]) w13) := Lib.hid (by
            have := r
            rw [show cutAt (-1) (L ++ [k] ++ [100] ++ []) = L ++ [k, 100] by simp [cutAt]] at this
            exact this)
          have HB13 := Lib.hid h13.bel.size
          clear h13 K13 r H12 OB12
          go_wp2_with (at_builtin; (
            refine wpList_apKg encZ_len (by decide) encZ_one (x := fun b => b = w13.heap.size) z_under infoInt rfl (by decide) (by first | rfl | kernel_rfl | simp [Region.wanted, yielded]) _ _ rfl w.heap.size u10 L rfl (ownK_alloc OB13.out _) (.slice (some ⟨w13.heap.size, 0, none⟩) 2 2) [k, 100] (by simp) rfl (RK.lit (enc := encZ) [k, 100] 3 _ _ rfl _ rfl _ rfl) (by have := HLL.out; simp; omega) (by rw [World.size_alloc]; have := HB13.out; omega) ?_
            intro g cp w14 ho1 hg1 hl1
            obtain ⟨T14, K14, N14⟩ := Two.push H13.out partL partL OB13.out (fun b e => e) ho1 hg1 hl1
            have OB14 := Lib.hid ho1
            have R14 := Lib.hid (R13.out.same fun b hb => K14 b hb.2 fun e => by have := LB.out b e; omega)
            have H14 := Lib.hid T14.bel
            clear T14 K14 N14 ho1 hg1 hl1 OB13 R13 H13 HB13 LB))
          have RB14 := RK.own OB14.out (x := fun b => b = g) (fun b e => by cases e; rfl)
          have hL2 : (L ++ [k, 100]).length = L.length + 2 := by simp
          rw [hL2] at RB14
          refine (ints_same R14.out RB14 (by rw [hL2]; have := HLL.out; omega)).mono ?_
          rintro e w15 ⟨rfl, n, rfl⟩
          have H15 := Lib.hid (H14.out.trans ((Below.refl w.heap.size w14).trans (show Below w.heap.size w14 (w14.drewN n) from ⟨rfl, rfl, rfl, Nat.le_refl _, fun _ _ => rfl⟩)))
          clear RB14 hL2 R14 H14 OB14
          generalize w14.drewN n = w15 at *
          go_wp2_with fail
          refine (awake9_any _).mono ?_
          rintro e w16 ⟨rfl, hb⟩
          go_wp2
          go_ret
          exact ⟨rfl, H15.out.trans (hb.mono H15.out.size)⟩
end Go.Proofs.Ytjaejdenboggpaa

/- ListsNew of package freshetlaw9 (who is new goes ahead of all who were used, and behind all who are as new and came ahead; with nobody protected, use makes one the newest) returns true at every two ints.
   Conditions: those of the row, none beside. -/
namespace Go.Proofs.Ytjaejdenboggpaa.listsNew
open Go.ChangeShapes Go.WideShapes Go.ChangeAt Go.RowKit

set_option maxRecDepth 100000 in
theorem contract (H : Type) (enc : TypeId × Value → H) (W : World) (base : Nat) (args : Array Value) (ds gs : List (DataW H)) (before : List MemPlace)
    (hval : ∀ (j : Nat) t v, Try.f8.params[j]? = some t → args[j]? = some v → Value.okWide Try.prog W .any base t v)
    (hW : DataW.Whole enc Try.prog Try.f8.params.toList Rows.listsNewSpec.vars false W args.toList ds gs before) (_hL : laidMetH Try.prog laidList W) :
    Calls Try.prog 8 args W fun e W' => ∃ v, e = .returned v ∧ Rows.listsNewSpec.post enc Try.prog Try.f8 false true false false W args v W' := by
  have hW' := hW
  obtain ⟨p, q, hA0, hV, rfl, _, _⟩ := hW
  have hA : DataW.TrodAll enc Try.prog W 0 (fun _ => true) true Try.f8.params.toList args.toList ds p := hA0
  clear hA0
  rw [Try.params8] at hA hval
  obtain ⟨v0, vs0, d0, ds0, p0, q0, hargs0, rfl, rfl, h0, r0⟩ := trodAll_cons hA
  obtain ⟨v1, vs1, d1, ds1, p1, q1, hargs1, rfl, rfl, h1, r1⟩ := trodAll_cons r0
  subst hargs1
  obtain ⟨rfl, rfl, rfl⟩ := trodAll_nil r1
  obtain rfl : args = #[v0, v1] := by cases args; simp_all
  obtain ⟨rfl, rfl⟩ := trodVars_none hV
  obtain ⟨z0, rfl, hz0⟩ := arg_int (hval 0 _ _ rfl rfl) h0
  obtain ⟨z1, rfl, hz1⟩ := arg_int (hval 1 _ _ rfl rfl) h1
  refine (new9_any z0 z1 W hz1).mono fun e W' ⟨he, hbl⟩ => ?_
  exact ⟨_, he, law_post hW' rfl hbl rfl rfl (fun t ht => readT9 t (by rw [Try.params8] at ht; exact (show ∀ t ∈ (#[3, 3] : Array TypeId).toList, t ∈ [3, 27, 22] by decide) t ht))⟩

set_option maxRecDepth 100000 in
theorem reads (os : Os) {H : Type} (enc : TypeId × Value → H) : ∃ places, DataW.whole enc Try.prog ((laidWorld os).forCall (fun _ _ => 0) ⟨#[], #[.int .i64 0, .int .i64 0], []⟩).memory Try.f8.params.toList Rows.listsNewSpec.vars false (#[.int .i64 0, .int .i64 0] : Array Value).toList 8 = some ([.lit (.int .i64 0), .lit (.int .i64 0)], [], places) :=
  ⟨[], by kernel_rfl⟩

set_option maxRecDepth 100000 in
theorem lifted (os : Os) (started : os.Started) (H : Type) (enc : TypeId × Value → H) (F : Stop.Interp) :
    ReturnsInHanded {} Try.checked os 8 .any ((OpenSpec.ofChange Rows.listsNewSpec).preRow enc Try.prog Try.f8 Rows.listsNewRow.domain false Rows.listsNewRow.laid) (((OpenSpec.ofChange Rows.listsNewSpec).at F).post enc Try.prog Try.f8 false true false false) := by
  obtain ⟨places, hx⟩ := reads os enc
  refine returnsInHanded_of_row (C := Try.checked) (s := OpenSpec.ofChange Rows.listsNewSpec) own started (by kernel_rfl) Try.func8
    (witness_row_atRef (enc := enc) (C := Try.checked) false (laidWorld os) #[.int .i64 0, .int .i64 0] rfl (by kernel_rfl) (by kernel_rfl) (by kernel_rfl)
      (OpenSpec.preRow_of_cond 8 hx (by kernel_rfl) (fun k hk => by cases hk) (by kernel_rfl) (laid_met os _))) ?_
  intro W base args ds gs before hval hW _ _ _ hL _ _
  exact contract H enc W base args ds gs before hval hW hL

theorem said : Rows.ListsNewSaid :=
  OpenClaim.holds_of_cond 8 Try.f8 rfl rfl rfl rfl rfl rfl rfl ⟨rfl, rfl, rfl, rfl, rfl⟩ rfl rfl rfl rfl rfl (by kernel_rfl) Try.func8 (by kernel_rfl)
    (of_decide_eq_true (by kernel_rfl)) (by unfold Func.isWrapper; first | (rw [if_pos (by decide +kernel)]; kernel_rfl) | (rw [if_neg (by decide +kernel)]; exact ⟨rfl, rfl⟩))
    (fun os started H enc _ F => by rw [OpenClaim.pre_eq_preRow]; exact lifted os started H enc F)
end Go.Proofs.Ytjaejdenboggpaa.listsNew
