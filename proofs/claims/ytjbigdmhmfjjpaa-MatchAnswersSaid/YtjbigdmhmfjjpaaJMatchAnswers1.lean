/- MatchAnswers of package freshetlaw5 (a reply answers what was asked, in whatever letters; with another number, name, type or class, or two questions, it does not) returns true at every int, name, type, class and int.
   Conditions: those of the row, none beside. -/
import Derived.Laws.OwnMore
import Derived.Test.YtjbigdmhmfjjpaaJB26
import Derived.Test.YtjbigdmhmfjjpaaJB27
/- MatchAnswers of freshetlaw5. -/
set_option maxRecDepth 100000
namespace Go.Proofs.Ytjbigdmhmfjjpaa
open Go.RowKit Go.Shelf Go.Maps
attribute [local go_sem] Oper.semAt_some

theorem rp7c {z t c : Int} {n : List UInt8} (h : Nm.valid n = true) : Mt.answers (Mt.ask z ⟨n, t, c⟩) (Mt.rp (bits .and .i64 z 65535) true [⟨1 :: 113 :: Nm.fold n, t, c⟩]) = false := Mt.rp7 h

set_option maxHeartbeats 16000000 in
theorem manswers_any (z : Int) (n : List UInt8) (t c k : Int) (w : World) (hn : n.length ≤ 9223372036854775807) (hk : -9223372036854775808 ≤ k ∧ k ≤ 9223372036854775807) :
    Calls Try.prog 5 #[.int .i64 z, .string ⟨n.toArray⟩, .int .i64 t, .int .i64 c, .int .i64 k] w fun e w' => e = .returned (.bool true) ∧ Below w.heap.size w w' := by
  have HAW := Lib.hid mawake_any
  by_cases h300 : n.length ≤ 300
  case neg =>
    have hgt : decide ((300 : Int) < (n.length : Int)) = true := decide_eq_true (by omega)
    clear h300
    go_enter Try.func5, Try.ntmps5
    go_wp2_with fail
    refine (HAW.out _).mono ?_
    rintro e w1 ⟨rfl, b1⟩
    go_wp2_with fail
    go_ret
    exact ⟨rfl, b1⟩
  have HV := Lib.hid (rvalid_any n w (by omega))
  obtain ⟨v, hv⟩ : ∃ v, Nm.valid n = v := ⟨_, rfl⟩
  rw [hv] at HV
  have HVV := Lib.hid hv
  clear hv
  go_enter Try.func5, Try.ntmps5
  have hgt : decide ((300 : Int) < (n.length : Int)) = false := decide_eq_false (by omega)
  go_wp2_with fail
  refine HV.out.mono ?_
  rintro e w1 ⟨rfl, b1⟩
  have HB1 := Lib.hid b1
  clear HV b1
  by_cases hgood : v = true ∧ (0 ≤ t ∧ t ≤ 60000) ∧ 0 ≤ c ∧ c ≤ 60000
  case neg =>
    cases v with
    | false =>
      go_wp2_with fail
      refine (HAW.out _).mono ?_
      rintro e w2 ⟨rfl, b2⟩
      go_wp2_with fail
      go_ret
      exact ⟨rfl, below_trans HB1.out b2⟩
    | true =>
      simp only [true_and] at hgood
      by_cases h1 : t < 0
      · go_wp2_with fail
        refine (HAW.out _).mono ?_
        rintro e w2 ⟨rfl, b2⟩
        go_wp2_with fail
        go_ret
        exact ⟨rfl, below_trans HB1.out b2⟩
      by_cases h2 : 60000 < t
      · go_wp2_with fail
        refine (HAW.out _).mono ?_
        rintro e w2 ⟨rfl, b2⟩
        go_wp2_with fail
        go_ret
        exact ⟨rfl, below_trans HB1.out b2⟩
      by_cases h3 : c < 0
      · go_wp2_with fail
        refine (HAW.out _).mono ?_
        rintro e w2 ⟨rfl, b2⟩
        go_wp2_with fail
        go_ret
        exact ⟨rfl, below_trans HB1.out b2⟩
      have h4 : 60000 < c := by omega
      go_wp2_with fail
      refine (HAW.out _).mono ?_
      rintro e w2 ⟨rfl, b2⟩
      go_wp2_with fail
      go_ret
      exact ⟨rfl, below_trans HB1.out b2⟩
  obtain ⟨rfl, ⟨ht0, ht1⟩, hc0, hc1⟩ := hgood
  have g1 : ¬ t < 0 := by omega
  have g2 : ¬ 60000 < t := by omega
  have g3 : ¬ c < 0 := by omega
  have g4 : ¬ 60000 < c := by omega
  have HASK := Lib.hid (ask_any z ⟨n, t, c⟩ w1 (by show n.length ≤ 100000; omega))
  unfold qV at HASK
  simp only at HASK
  go_wp2_with fail
  refine HASK.out.mono ?_
  rintro e w2 ⟨uq, ua, un, ud, rfl, hO, b2⟩
  obtain ⟨oq1, kq1, rfl, _⟩ := ownK_form hO.qs
  obtain ⟨oa1, ka1, rfl, _⟩ := ownK_form hO.an
  obtain ⟨on1, kn1, rfl, _⟩ := ownK_form hO.ns
  obtain ⟨od1, kd1, rfl, _⟩ := ownK_form hO.ad
  have hOL := hO
  obtain ⟨LO, hLO⟩ : ∃ x, bits .and .i64 z 65535 = x := ⟨_, rfl⟩
  simp only [msgV, Mt.ask, List.length_nil, List.length_singleton] at hOL ⊢
  rw [hLO] at hOL ⊢
  have HLO := Lib.hid hLO
  have HO1 := Lib.hid hOL
  have bA := (Below.refl w2.heap.size w2).alloc (Nat.le_refl _) (.cells #[.int .i64 LO, .bool false, .int .i64 0, .bool false, .bool false, .bool false, .bool false, .int .i64 0, .slice oq1 1 kq1, .slice oa1 0 ka1, .slice on1 0 kn1, .slice od1 0 kd1, .bool true, .int .i64 1232] 27)
  have HB2 : Hid (Below w.heap.size w w2) := Lib.hid (below_trans HB1.out b2)
  have HQL := Lib.hid (fun g (e : (Value.slice oq1 1 kq1).ownBlock = some g) => (World.ownsRow.lt HO1.out.qs g e).2)
  have KA := Lib.hid (Block.new w2 #[.int .i64 LO, .bool false, .int .i64 0, .bool false, .bool false, .bool false, .bool false, .int .i64 0, .slice oq1 1 kq1, .slice oa1 0 ka1, .slice on1 0 kn1, .slice od1 0 kd1, .bool true, .int .i64 1232] 27)
  have HRP := Lib.hid (reply_any ⟨LO, false, 0, false, false, false, false, 0, [⟨n, t, c⟩], [], [], [], true, 1232⟩ (.slice oq1 1 kq1) (.slice oa1 0 ka1) (.slice on1 0 kn1) (.slice od1 0 kd1) 0 [] [] (.slice none 0 0) (.slice none 0 0) _ (HO1.out.below bA).lists (by show 1 ≤ 100000; omega) (by simp; omega) (readR_nil _) (readR_nil _) (by show 0 ≤ 100000; omega) (by show 0 ≤ 100000; omega) (by simp) (by simp))
  unfold msgV at HRP
  simp only at HRP
  have HBA := Lib.hid bA
  clear hLO hO hOL bA b2 HB1 HASK
  go_wp2_with fail
  refine HRP.out.mono ?_
  rintro e w3 ⟨uq, ua, un, ud, rfl, hO, b3⟩
  obtain ⟨oq2, kq2, rfl, _⟩ := ownK_form hO.qs
  obtain ⟨oa2, ka2, rfl, _⟩ := ownK_form hO.an
  obtain ⟨on2, kn2, rfl, _⟩ := ownK_form hO.ns
  obtain ⟨od2, kd2, rfl, _⟩ := ownK_form hO.ad
  simp only [msgV, Mt.reply, List.length_nil, List.length_singleton, if_true]
  have b23 := below_trans HBA.out b3
  have hs23 := b23.size
  have hsA := HBA.out.size
  have hs3 := b3.size
  have KA3 := Lib.hid (KA.out.below b3)
  have HO3 := Lib.hid (HO1.out.below b23)
  have HB3 : Hid (Below w.heap.size w w3) := Lib.hid (HB2.out.trans (b23.mono HB2.out.size))
  obtain ⟨B1, hB1⟩ : ∃ B, w2.heap.size = B := ⟨_, rfl⟩
  have hlt13 : B1 < w3.heap.size := by have := KA3.out.lt; rw [hB1] at this; exact this
  rw [hB1] at KA3 HQL ⊢
  clear hO b3 b23 hs23 hsA hs3 HBA KA HRP HB2 HO1 hB1
  have HFO := Lib.hid (fun W => rfold_any n W (by omega))
  go_wp2_with fail
  refine (HFO.out _).mono ?_
  rintro e w4 ⟨rfl, b4⟩
  obtain ⟨F, hF⟩ : ∃ F, Nm.fold n = F := ⟨_, rfl⟩
  rw [hF]
  have HFF := Lib.hid hF
  have hfl : F.length ≤ 300 := by rw [← hF]; rw [Rd.fold_len]; exact h300
  have b34 := below_trans ((Below.refl w3.heap.size w3).alloc (Nat.le_refl _) (.cells #[.int .i64 LO, .bool true, .int .i64 0, .bool false, .bool false, .bool false, .bool true, .int .i64 0, .slice oq2 1 kq2, .slice oa2 0 ka2, .slice on2 0 kn2, .slice od2 0 kd2, .bool true, .int .i64 1232] 27)) b4
  have hs4 := b34.size
  have KA4 := Lib.hid (KA3.out.below b34)
  have KR4 := Lib.hid ((Block.new w3 #[.int .i64 LO, .bool true, .int .i64 0, .bool false, .bool false, .bool false, .bool true, .int .i64 0, .slice oq2 1 kq2, .slice oa2 0 ka2, .slice on2 0 kn2, .slice od2 0 kd2, .bool true, .int .i64 1232] 27).below b4)
  have HO4 := Lib.hid (HO3.out.below b34)
  have HB4 : Hid (Below w.heap.size w w4) := Lib.hid (HB3.out.trans (b34.mono HB3.out.size))
  have hlt34 := KR4.out.lt
  obtain ⟨B2, hB2⟩ : ∃ B, w3.heap.size = B := ⟨_, rfl⟩
  have hw0 : w.heap.size ≤ B2 := by rw [← hB2]; exact HB3.out.size
  rw [hB2] at KR4 hlt13 hlt34 ⊢
  have y8 := KR4.out.cell (i := 8) rfl
  have f8 := KR4.out.frozen 8
  clear hF b4 b34 hs4 KA3 HO3 HB3 hB2 HFO
  have HRN := Lib.hid (fun W => round_any k 8 W (by omega) (by omega) hk.1 hk.2)
  obtain ⟨q, hq⟩ : ∃ q, roundI k 8 = q := ⟨_, rfl⟩
  have hqb := roundI_bounds k 8 (by omega)
  rw [hq] at HRN hqb
  clear hq
  go_wp2_with fail
  refine (HRN.out _).mono ?_
  rintro e w5 ⟨rfl, rfl⟩
  have gS := grown_set w4 B2 8 (.slice (some ⟨w4.heap.size, 0, none⟩) 1 1)
  have bL : Below (w4.setCell ⟨B2, 8, none⟩ (.slice (some ⟨w4.heap.size, 0, none⟩) 1 1)).heap.size (w4.setCell ⟨B2, 8, none⟩ (.slice (some ⟨w4.heap.size, 0, none⟩) 1 1)) ((w4.setCell ⟨B2, 8, none⟩ (.slice (some ⟨w4.heap.size, 0, none⟩) 1 1)).alloc (.cells #[.string ⟨F.toArray⟩, .int .i64 t, .int .i64 c] 36)) := (Below.refl _ _).alloc (Nat.le_refl _) _
  have KA5 := Lib.hid ((KA4.out.other (Nat.ne_of_lt hlt13) 8 (.slice (some ⟨w4.heap.size, 0, none⟩) 1 1)).below bL)
  have KR5 := Lib.hid ((KR4.out.setL 8 (.slice (some ⟨w4.heap.size, 0, none⟩) 1 1)).below bL)
  simp only [List.set_cons_zero, List.set_cons_succ] at KR5
  have KQ5 : Hid (Block ((w4.setCell ⟨B2, 8, none⟩ (.slice (some ⟨w4.heap.size, 0, none⟩) 1 1)).alloc (.cells #[.string ⟨F.toArray⟩, .int .i64 t, .int .i64 c] 36)) w4.heap.size #[.string ⟨F.toArray⟩, .int .i64 t, .int .i64 c] 36) := Lib.hid (by
    have := Block.new (w4.setCell ⟨B2, 8, none⟩ (.slice (some ⟨w4.heap.size, 0, none⟩) 1 1)) #[.string ⟨F.toArray⟩, .int .i64 t, .int .i64 c] 36
    rwa [World.size_setCell] at this)
  have HOW : Hid (OwnK encQ 3 36 w4.heap.size (.slice (some ⟨w4.heap.size, 0, none⟩) 1 1) [⟨F, t, c⟩] ((w4.setCell ⟨B2, 8, none⟩ (.slice (some ⟨w4.heap.size, 0, none⟩) 1 1)).alloc (.cells #[.string ⟨F.toArray⟩, .int .i64 t, .int .i64 c] 36))) := Lib.hid (by
    have := World.ownsRow_lit (base := w4.heap.size) (e := 36) (size := 3) (w4.setCell ⟨B2, 8, none⟩ (.slice (some ⟨w4.heap.size, 0, none⟩) 1 1)) #[.string ⟨F.toArray⟩, .int .i64 t, .int .i64 c] 1 (by simp) (by unfold maxLen; omega) rfl
    simp only [World.size_setCell] at this
    exact this)
  have HQO := Lib.hid ((HO4.out.box KR4.out gS).below bL).qs
  have HB5 : Hid (Below w.heap.size w ((w4.setCell ⟨B2, 8, none⟩ (.slice (some ⟨w4.heap.size, 0, none⟩) 1 1)).alloc (.cells #[.string ⟨F.toArray⟩, .int .i64 t, .int .i64 c] 36))) := Lib.hid ((HB4.out.grown gS (by omega) (fun j e => by cases e; omega)).alloc (by simp; omega) _)
  obtain ⟨W5, hW5⟩ : ∃ W, ((w4.setCell ⟨B2, 8, none⟩ (.slice (some ⟨w4.heap.size, 0, none⟩) 1 1)).alloc (.cells #[.string ⟨F.toArray⟩, .int .i64 t, .int .i64 c] 36)) = W := ⟨_, rfl⟩
  have hs5 : w4.heap.size < W5.heap.size := by rw [← hW5]; simp
  simp only [hW5] at KA5 KR5 KQ5 HQO HB5 HOW ⊢
  obtain ⟨B3, hB3⟩ : ∃ B, w4.heap.size = B := ⟨_, rfl⟩
  simp only [hB3] at KR5 KQ5 HOW hlt34 hs5 ⊢
  clear hW5 hB3 gS bL KA4 KR4 HO4 HB4 y8 f8
  have n12 : B1 ≠ B2 := Nat.ne_of_lt hlt13
  have n21 : B2 ≠ B1 := fun e => n12 e.symm
  have n23 : B2 ≠ B3 := Nat.ne_of_lt hlt34
  have n32 : B3 ≠ B2 := fun e => n23 e.symm
  have n13 : B1 ≠ B3 := by omega
  have n31 : B3 ≠ B1 := fun e => n13 e.symm
  have a0 := KA5.out.cell (i := 0) rfl
  have a1 := KA5.out.cell (i := 1) rfl
  have a2 := KA5.out.cell (i := 2) rfl
  have a3 := KA5.out.cell (i := 3) rfl
  have a4 := KA5.out.cell (i := 4) rfl
  have a5 := KA5.out.cell (i := 5) rfl
  have a6 := KA5.out.cell (i := 6) rfl
  have a7 := KA5.out.cell (i := 7) rfl
  have a8 := KA5.out.cell (i := 8) rfl
  have a9 := KA5.out.cell (i := 9) rfl
  have a10 := KA5.out.cell (i := 10) rfl
  have a11 := KA5.out.cell (i := 11) rfl
  have a12 := KA5.out.cell (i := 12) rfl
  have a13 := KA5.out.cell (i := 13) rfl
  have r0 := KR5.out.cell (i := 0) rfl
  have r1 := KR5.out.cell (i := 1) rfl
  have r2 := KR5.out.cell (i := 2) rfl
  have r3 := KR5.out.cell (i := 3) rfl
  have r4 := KR5.out.cell (i := 4) rfl
  have r5 := KR5.out.cell (i := 5) rfl
  have r6 := KR5.out.cell (i := 6) rfl
  have r7 := KR5.out.cell (i := 7) rfl
  have r8 := KR5.out.cell (i := 8) rfl
  have r9 := KR5.out.cell (i := 9) rfl
  have r10 := KR5.out.cell (i := 10) rfl
  have r11 := KR5.out.cell (i := 11) rfl
  have r12 := KR5.out.cell (i := 12) rfl
  have r13 := KR5.out.cell (i := 13) rfl
  have s0 := KQ5.out.cell (i := 0) rfl
  have s1 := KQ5.out.cell (i := 1) rfl
  have s2 := KQ5.out.cell (i := 2) rfl
  have fr0 := KR5.out.frozen 0
  have fr1 := KR5.out.frozen 1
  have fr8 := KR5.out.frozen 8
  have fs0 := KQ5.out.frozen 0
  have fs1 := KQ5.out.frozen 1
  have fs2 := KQ5.out.frozen 2
  have HQ5 := Lib.hid (readQ_own HQO.out)
  have hLOb : 0 ≤ LO ∧ LO < 65536 := by have h := HLO.out; rw [bits_low] at h; omega
  have hwr : wrap64 (LO + 1) = LO + 1 := by unfold wrap64; omega
  have HRQ5 := Lib.hid (readQ_blk1 (q := ⟨F, t, c⟩) KQ5.out)
  have HANS := Lib.hid (fun (i : Int) (rb : Bool) (qs : List Ms.Q) (ao : Option Addr) (cap : Nat) (W : World) (h1 : ReadQ (.slice oq1 1 kq1) [⟨n, t, c⟩] W) (h2 : ReadQ (.slice ao qs.length cap) qs W) (h3 : qs.length ≤ 2) (h4 : ∀ q ∈ qs, q.name.length ≤ 302) => answers_any (Mt.ask z ⟨n, t, c⟩) (Mt.rp i rb qs) (.slice oq1 1 kq1) (.slice oa1 0 ka1) (.slice on1 0 kn1) (.slice od1 0 kd1) (.slice ao qs.length cap) (.slice oa2 0 ka2) (.slice on2 0 kn2) (.slice od2 0 kd2) W h1 h2 (by show 1 ≤ 100000; omega) (by show qs.length ≤ 100000; omega) (by simp [Mt.ask]; omega) (fun q h => by have := h4 q h; omega))
  simp only [msgV, Mt.rp] at HANS
  have HASKM := Lib.hid (show Mt.ask z ⟨n, t, c⟩ = ⟨LO, false, 0, false, false, false, false, 0, [⟨n, t, c⟩], [], [], [], true, 1232⟩ by unfold Mt.ask; rw [HLO.out])
  have hq8 : q = 0 ∨ q = 1 ∨ q = 2 ∨ q = 3 ∨ q = 4 ∨ q = 5 ∨ q = 6 ∨ q = 7 := by omega
  clear hqb HRN hk
  rcases hq8 with rfl | rfl | rfl | rfl | rfl | rfl | rfl | rfl
  · as_aux_lemma =>
    go_wp2_with fail
    simp only [HASKM.out] at HANS
    refine (HANS.out LO true [⟨F, t, c⟩] (some ⟨B3, 0, none⟩) 1 W5 HQ5.out HRQ5.out (by simp) (by simp; omega)).mono ?_
    rintro e w7 ⟨he, b7⟩
    have hAE := Mt.rp0 (z := z) (t := t) (c := c) HVV.out
    simp only [Mt.ask, Mt.rp, HLO.out, HFF.out] at hAE
    rw [hAE] at he
    subst he
    go_wp2_with fail
    refine (HAW.out _).mono ?_
    rintro e w8 ⟨rfl, b8⟩
    go_wp2_with fail
    go_ret
    exact ⟨rfl, HB5.out.trans ((below_trans b7 b8).mono HB5.out.size)⟩
  · as_aux_lemma =>
    go_wp2_with fail
    simp only [HASKM.out] at HANS
    have gX := grown_set W5 B2 0 (.int .i64 (bits .and .i64 (LO + 1) 65535))
    have hb7 := HB5.out.grown gX (by omega) (fun j e => by cases e; omega)
    have hqq := readQ_own (ownK_grown HQO.out gX (fun g e1 e2 => by cases e2; have := HQL.out _ e1; omega))
    refine (HANS.out (bits .and .i64 (LO + 1) 65535) true [⟨F, t, c⟩] (some ⟨B3, 0, none⟩) 1 _ hqq (readQ_own (ownK_grown HOW.out gX (fun g e1 e2 => by cases e2; cases e1; exact n23 rfl))) (by simp) (by simp; try omega)).mono ?_
    rintro e w7 ⟨he, b7⟩
    have hAE := Mt.rp1 (z := z) (t := t) (c := c) (n := n)
    simp only [Mt.ask, Mt.rp, HLO.out, HFF.out] at hAE
    rw [hAE] at he
    subst he
    go_wp2_with fail
    refine (HAW.out _).mono ?_
    rintro e w8 ⟨rfl, b8⟩
    go_wp2_with fail
    go_ret
    exact ⟨rfl, hb7.trans ((below_trans b7 b8).mono hb7.size)⟩
  · as_aux_lemma =>
    go_wp2_with fail
    simp only [HASKM.out] at HANS
    have gX := grown_set W5 B3 1 (.int .i64 (t + 1))
    have hb7 := HB5.out.grown gX (by omega) (fun j e => by cases e; omega)
    have hqq := readQ_own (ownK_grown HQO.out gX (fun g e1 e2 => by cases e2; have := HQL.out _ e1; omega))
    refine (HANS.out LO true [⟨F, t + 1, c⟩] (some ⟨B3, 0, none⟩) 1 _ hqq (readQ_blk1 (q := ⟨F, t + 1, c⟩) (KQ5.out.setL 1 (.int .i64 (t + 1)))) (by simp) (by simp; try omega)).mono ?_
    rintro e w7 ⟨he, b7⟩
    have hAE := Mt.rp2 (z := z) (t := t) (c := c) (n := n)
    simp only [Mt.ask, Mt.rp, HLO.out, HFF.out] at hAE
    rw [hAE] at he
    subst he
    go_wp2_with fail
    refine (HAW.out _).mono ?_
    rintro e w8 ⟨rfl, b8⟩
    go_wp2_with fail
    go_ret
    exact ⟨rfl, hb7.trans ((below_trans b7 b8).mono hb7.size)⟩
  · as_aux_lemma =>
    go_wp2_with fail
    simp only [HASKM.out] at HANS
    have gX := grown_set W5 B3 2 (.int .i64 (c + 1))
    have hb7 := HB5.out.grown gX (by omega) (fun j e => by cases e; omega)
    have hqq := readQ_own (ownK_grown HQO.out gX (fun g e1 e2 => by cases e2; have := HQL.out _ e1; omega))
    refine (HANS.out LO true [⟨F, t, c + 1⟩] (some ⟨B3, 0, none⟩) 1 _ hqq (readQ_blk1 (q := ⟨F, t, c + 1⟩) (KQ5.out.setL 2 (.int .i64 (c + 1)))) (by simp) (by simp; try omega)).mono ?_
    rintro e w7 ⟨he, b7⟩
    have hAE := Mt.rp3 (z := z) (t := t) (c := c) (n := n)
    simp only [Mt.ask, Mt.rp, HLO.out, HFF.out] at hAE
    rw [hAE] at he
    subst he
    go_wp2_with fail
    refine (HAW.out _).mono ?_
    rintro e w8 ⟨rfl, b8⟩
    go_wp2_with fail
    go_ret
    exact ⟨rfl, hb7.trans ((below_trans b7 b8).mono hb7.size)⟩
  · as_aux_lemma =>
    go_wp2_with fail
    simp only [HASKM.out] at HANS
    have bD := (Below.refl W5.heap.size W5).drew.alloc (Nat.le_refl _) (.cells #[.string ⟨F.toArray⟩, .int .i64 t, .int .i64 c] 36)
    have HOD := Lib.hid (ownK_alloc (show OwnK encQ 3 36 B3 (.slice (some ⟨B3, 0, none⟩) 1 1) [⟨F, t, c⟩] W5.drew from HOW.out) (.cells #[.string ⟨F.toArray⟩, .int .i64 t, .int .i64 c] 36))
    have HBD := Lib.hid bD
    have r8D := keep_cell bD r8
    have r8E := keep_cell ((Below.refl W5.heap.size W5).alloc (Nat.le_refl _) (.cells #[.string ⟨F.toArray⟩, .int .i64 t, .int .i64 c] 36)) r8
    clear bD
    go_region_law (refine step_apG encQ 3 encQ_len (by omega) encQ_one 24 36 _ 32 Try.underlying24 infoQ' rfl (by omega) (by rfl) (.tmp 92) (.tmp 97) (by rfl) B3 (.slice (some ⟨B3, 0, none⟩) 1 1) [⟨F, t, c⟩] (by rfl) (by exact HOD.out) W5.heap.size ⟨F, t, c⟩ (by rfl) (by exact Block.new _ _ _) (by simp) (by simp; omega) ?_; intro v6 w6 ho6 hg6 hv6; have KA6 := Lib.hid (block_grown (KA5.out.below HBD.out) hg6 (fun e => by cases e; exact n31 rfl)); have KR6 := Lib.hid (block_grown (KR5.out.below HBD.out) hg6 (fun e => by cases e; exact n32 rfl)); have v8 := KR6.out.cell (i := 8) rfl; have vf8 := KR6.out.frozen 8; obtain ⟨ao6, cp6, rfl, _⟩ := ownK_form ho6)
    all_goals
      simp only [List.length_append, List.length_singleton] at ho6
      have hq6 := ownK_grown (ownK_below HQO.out HBD.out) hg6 (fun g e1 e2 => by have h1 := HQL.out g e1; have h2 : B3 = g := Option.some.inj e2; omega)
      have hb6 := ((HB5.out.trans (HBD.out.mono HB5.out.size)).grown hg6 (by simp; omega) (fun j e => by have h2 : B3 = j := Option.some.inj e; omega))
      have hs6 := hg6.size
      simp at hs6
      have gX := grown_set w6 B2 8 (.slice ao6 2 cp6)
      have HQ7 := Lib.hid (readQ_own (ownK_grown hq6 gX (fun g e1 e2 => by cases e2; have := HQL.out _ e1; omega)))
      have HR7 := Lib.hid (readQ_own (ownK_grown ho6 gX (fun g e1 e2 => by cases e2; exact own_blk ho6 KR6.out (by decide) e1)))
      have HB7 := Lib.hid (hb6.grown gX (by have := hb6.size; omega) (fun j e => by cases e; omega))
      clear hq6 hb6 hg6 ho6 gX hv6
      have a0 := KA6.out.cell (i := 0) rfl
      have a1 := KA6.out.cell (i := 1) rfl
      have a2 := KA6.out.cell (i := 2) rfl
      have a3 := KA6.out.cell (i := 3) rfl
      have a4 := KA6.out.cell (i := 4) rfl
      have a5 := KA6.out.cell (i := 5) rfl
      have a6 := KA6.out.cell (i := 6) rfl
      have a7 := KA6.out.cell (i := 7) rfl
      have a8 := KA6.out.cell (i := 8) rfl
      have a9 := KA6.out.cell (i := 9) rfl
      have a10 := KA6.out.cell (i := 10) rfl
      have a11 := KA6.out.cell (i := 11) rfl
      have a12 := KA6.out.cell (i := 12) rfl
      have a13 := KA6.out.cell (i := 13) rfl
      have r0 := KR6.out.cell (i := 0) rfl
      have r1 := KR6.out.cell (i := 1) rfl
      have r2 := KR6.out.cell (i := 2) rfl
      have r3 := KR6.out.cell (i := 3) rfl
      have r4 := KR6.out.cell (i := 4) rfl
      have r5 := KR6.out.cell (i := 5) rfl
      have r6 := KR6.out.cell (i := 6) rfl
      have r7 := KR6.out.cell (i := 7) rfl
      have r8 := KR6.out.cell (i := 8) rfl
      have r9 := KR6.out.cell (i := 9) rfl
      have r10 := KR6.out.cell (i := 10) rfl
      have r11 := KR6.out.cell (i := 11) rfl
      have r12 := KR6.out.cell (i := 12) rfl
      have r13 := KR6.out.cell (i := 13) rfl
      try simp only [List.length_append, List.length_singleton]
      go_wp2_with fail
      refine (HANS.out LO true [⟨F, t, c⟩, ⟨F, t, c⟩] ao6 cp6 _ HQ7.out HR7.out (by simp) (by simp; omega)).mono ?_
      rintro e w7 ⟨he, b7⟩
      have hAE := Mt.rp4 (z := z) (t := t) (c := c) (n := n)
      simp only [Mt.ask, Mt.rp, HLO.out, HFF.out] at hAE
      rw [hAE] at he
      subst he
      go_wp2_with fail
      refine (HAW.out _).mono ?_
      rintro e w8 ⟨rfl, b8⟩
      go_wp2_with fail
      go_ret
      exact ⟨rfl, HB7.out.trans ((below_trans b7 b8).mono HB7.out.size)⟩
  · as_aux_lemma =>
    go_wp2_with fail
    simp only [HASKM.out] at HANS
    have gX := grown_set W5 B2 8 (.slice none 0 0)
    have hb7 := HB5.out.grown gX (by omega) (fun j e => by cases e; omega)
    have hqq := readQ_own (ownK_grown HQO.out gX (fun g e1 e2 => by cases e2; have := HQL.out _ e1; omega))
    refine (HANS.out LO true [] none 0 _ hqq (readQ_nil _) (by simp) (by simp; try omega)).mono ?_
    rintro e w7 ⟨he, b7⟩
    have hAE := Mt.rp5 (z := z) (t := t) (c := c) (n := n)
    simp only [Mt.ask, Mt.rp, HLO.out, HFF.out] at hAE
    rw [hAE] at he
    subst he
    go_wp2_with fail
    refine (HAW.out _).mono ?_
    rintro e w8 ⟨rfl, b8⟩
    go_wp2_with fail
    go_ret
    exact ⟨rfl, hb7.trans ((below_trans b7 b8).mono hb7.size)⟩
  · as_aux_lemma =>
    go_wp2_with fail
    simp only [HASKM.out] at HANS
    have gX := grown_set W5 B2 1 (.bool false)
    have hb7 := HB5.out.grown gX (by omega) (fun j e => by cases e; omega)
    have hqq := readQ_own (ownK_grown HQO.out gX (fun g e1 e2 => by cases e2; have := HQL.out _ e1; omega))
    refine (HANS.out LO false [⟨F, t, c⟩] (some ⟨B3, 0, none⟩) 1 _ hqq (readQ_own (ownK_grown HOW.out gX (fun g e1 e2 => by cases e2; cases e1; exact n23 rfl))) (by simp) (by simp; try omega)).mono ?_
    rintro e w7 ⟨he, b7⟩
    have hAE := Mt.rp6 (z := z) (t := t) (c := c) (n := n)
    simp only [Mt.ask, Mt.rp, HLO.out, HFF.out] at hAE
    rw [hAE] at he
    subst he
    go_wp2_with fail
    refine (HAW.out _).mono ?_
    rintro e w8 ⟨rfl, b8⟩
    go_wp2_with fail
    go_ret
    exact ⟨rfl, hb7.trans ((below_trans b7 b8).mono hb7.size)⟩
  · as_aux_lemma =>
    have hcat : ¬ 9223372036854775807 < 2 + F.length := by omega
    go_wp2_with fail
    go_region_law (fail)
    all_goals
      go_wp2_with fail
      simp only [HASKM.out] at HANS
      have gX := grown_set W5.drew B3 0 (.string ⟨(1 :: 113 :: F).toArray⟩)
      have hb7 := HB5.out.drew.grown gX (by show w.heap.size ≤ W5.heap.size; omega) (fun j e => by cases e; omega)
      have hqq := readQ_own (ownK_grown (W := W5.drew) HQO.out gX (fun g e1 e2 => by cases e2; have := HQL.out _ e1; omega))
      have kq7 := Block.setL (W := W5.drew) KQ5.out 0 (.string ⟨(1 :: 113 :: F).toArray⟩)
      refine (HANS.out LO true [⟨1 :: 113 :: F, t, c⟩] (some ⟨B3, 0, none⟩) 1 _ hqq (readQ_blk1 (q := ⟨1 :: 113 :: F, t, c⟩) kq7) (by simp) (by simp; omega)).mono ?_
      rintro e w7 ⟨he, b7⟩
      have hAE := rp7c (z := z) (t := t) (c := c) HVV.out
      simp only [Mt.ask, Mt.rp, HLO.out, HFF.out] at hAE
      rw [hAE] at he
      subst he
      go_wp2_with fail
      refine (HAW.out _).mono ?_
      rintro e w8 ⟨rfl, b8⟩
      go_wp2_with fail
      go_ret
      exact ⟨rfl, hb7.trans ((below_trans b7 b8).mono hb7.size)⟩
end Go.Proofs.Ytjbigdmhmfjjpaa

/- MatchAnswers of package freshetlaw5 (a reply answers what was asked, in whatever letters; with another number, name, type or class, or two questions, it does not) returns true at every int, name, type, class and int.
   Conditions: those of the row, none beside. -/
namespace Go.Proofs.Ytjbigdmhmfjjpaa.matchAnswers
open Go.ChangeShapes Go.WideShapes Go.ChangeAt Go.RowKit

set_option maxRecDepth 100000 in
theorem contract (H : Type) (enc : TypeId × Value → H) (W : World) (base : Nat) (args : Array Value) (ds gs : List (DataW H)) (before : List MemPlace)
    (hval : ∀ (j : Nat) t v, Try.f5.params[j]? = some t → args[j]? = some v → Value.okWide Try.prog W .any base t v)
    (hW : DataW.Whole enc Try.prog Try.f5.params.toList Rows.matchAnswersSpec.vars false W args.toList ds gs before) (_hL : laidMetH Try.prog laidList W) :
    Calls Try.prog 5 args W fun e W' => ∃ v, e = .returned v ∧ Rows.matchAnswersSpec.post enc Try.prog Try.f5 false true false false W args v W' := by
  have hW' := hW
  obtain ⟨p, q, hA0, hV, rfl, _, _⟩ := hW
  have hA : DataW.TrodAll enc Try.prog W 0 (fun _ => true) true Try.f5.params.toList args.toList ds p := hA0
  clear hA0
  rw [Try.params5] at hA hval
  obtain ⟨v0, vs0, d0, ds0, p0, q0, hargs0, rfl, rfl, h0, r0⟩ := trodAll_cons hA
  obtain ⟨v1, vs1, d1, ds1, p1, q1, hargs1, rfl, rfl, h1, r1⟩ := trodAll_cons r0
  subst hargs1
  obtain ⟨v2, vs2, d2, ds2, p2, q2, hargs2, rfl, rfl, h2, r2⟩ := trodAll_cons r1
  subst hargs2
  obtain ⟨v3, vs3, d3, ds3, p3, q3, hargs3, rfl, rfl, h3, r3⟩ := trodAll_cons r2
  subst hargs3
  obtain ⟨v4, vs4, d4, ds4, p4, q4, hargs4, rfl, rfl, h4, r4⟩ := trodAll_cons r3
  subst hargs4
  obtain ⟨rfl, rfl, rfl⟩ := trodAll_nil r4
  obtain rfl : args = #[v0, v1, v2, v3, v4] := by cases args; simp_all
  obtain ⟨rfl, rfl⟩ := trodVars_none hV
  obtain ⟨z0, rfl, hz0⟩ := arg_int (hval 0 _ _ rfl rfl) h0
  obtain ⟨l1, rfl, hl1⟩ := arg_string (hval 1 _ _ rfl rfl) h1
  obtain ⟨z2, rfl, hz2⟩ := arg_int (hval 2 _ _ rfl rfl) h2
  obtain ⟨z3, rfl, hz3⟩ := arg_int (hval 3 _ _ rfl rfl) h3
  obtain ⟨z4, rfl, hz4⟩ := arg_int (hval 4 _ _ rfl rfl) h4
  refine (manswers_any z0 l1 z2 z3 z4 W hl1 hz4).mono fun e W' ⟨he, hbl⟩ => ?_
  exact ⟨_, he, law_post hW' rfl hbl rfl rfl (fun t ht => readT5 t (by rw [Try.params5] at ht; exact (show ∀ t ∈ (#[3, 9, 3, 3, 3] : Array TypeId).toList, t ∈ [9, 3, 27, 25, 36, 60] by decide) t ht))⟩

set_option maxRecDepth 100000 in
theorem reads (os : Os) {H : Type} (enc : TypeId × Value → H) : ∃ places, DataW.whole enc Try.prog ((laidWorld os).forCall (fun _ _ => 0) ⟨#[], #[.int .i64 0, .string ⟨#[]⟩, .int .i64 0, .int .i64 0, .int .i64 0], []⟩).memory Try.f5.params.toList Rows.matchAnswersSpec.vars false (#[.int .i64 0, .string ⟨#[]⟩, .int .i64 0, .int .i64 0, .int .i64 0] : Array Value).toList 8 = some ([.lit (.int .i64 0), .lit (.string []), .lit (.int .i64 0), .lit (.int .i64 0), .lit (.int .i64 0)], [], places) :=
  ⟨[], by kernel_rfl⟩

set_option maxRecDepth 100000 in
theorem lifted (os : Os) (started : os.Started) (H : Type) (enc : TypeId × Value → H) (F : Stop.Interp) :
    ReturnsInHanded {} Try.checked os 5 .any ((OpenSpec.ofChange Rows.matchAnswersSpec).preRow enc Try.prog Try.f5 Rows.matchAnswersRow.domain false Rows.matchAnswersRow.laid) (((OpenSpec.ofChange Rows.matchAnswersSpec).at F).post enc Try.prog Try.f5 false true false false) := by
  obtain ⟨places, hx⟩ := reads os enc
  refine returnsInHanded_of_row (C := Try.checked) (s := OpenSpec.ofChange Rows.matchAnswersSpec) own started (by kernel_rfl) Try.func5
    (witness_row_atRef (enc := enc) (C := Try.checked) false (laidWorld os) #[.int .i64 0, .string ⟨#[]⟩, .int .i64 0, .int .i64 0, .int .i64 0] rfl (by kernel_rfl) (by kernel_rfl) (by kernel_rfl)
      (OpenSpec.preRow_of_cond 8 hx (by kernel_rfl) (fun k hk => by cases hk) (by kernel_rfl) (laid_met os _))) ?_
  intro W base args ds gs before hval hW _ _ _ hL _ _
  exact contract H enc W base args ds gs before hval hW hL

theorem said : Rows.MatchAnswersSaid :=
  OpenClaim.holds_of_cond 5 Try.f5 rfl rfl rfl rfl rfl rfl rfl ⟨rfl, rfl, rfl, rfl, rfl⟩ rfl rfl rfl rfl rfl (by kernel_rfl) Try.func5 (by kernel_rfl)
    (of_decide_eq_true (by kernel_rfl)) (by unfold Func.isWrapper; first | (rw [if_pos (by decide +kernel)]; kernel_rfl) | (rw [if_neg (by decide +kernel)]; exact ⟨rfl, rfl⟩))
    (fun os started H enc _ F => by rw [OpenClaim.pre_eq_preRow]; exact lifted os started H enc F)
end Go.Proofs.Ytjbigdmhmfjjpaa.matchAnswers
