/- whatever is taken, given back, read, written and moved, each act tells, and all blocks and what is used and left are as the document says
   Conditions: those of the row and of its card, none beside. -/
import Derived.Deep.RegionHeld3
import Derived.Deep.Slices
import Derived.Deep.Fields
import Derived.Test.YtdbaocphglijbaaDoorJB15
import Derived.Test.YtdbaocphglijbaaDoorJB18
import Derived.Test.YtdbaocphglijbaaDoorJArenaActs1
/- ArenaActs: its walk. -/
set_option maxRecDepth 100000
namespace Go.Proofs.YtdbaocphglijbaaDoor
open Go Go.RowKit Go.Shelf
attribute [local go_sem] Oper.semAt_some
/-- The start: the document's own arena, just made. -/
theorem aa_start (A B n0 : Nat) (w w3 : World) (hT : HX (fun _ => False) A B [] n0 w3) (hb : Below w.heap.size w w3) :
    AaM (fun _ => False) A w3.heap.size B n0 [] [] w (w3.alloc (.cells #[.int .i64 (B : Int), .slice none 0 0] 33)) := by
  have hB2 : Below w3.heap.size w3 (w3.alloc (.cells #[.int .i64 (B : Int), .slice none 0 0] 33)) := (Below.refl _ _).alloc (Nat.le_refl _) _
  exact ⟨⟨_, fun k => k = w3.heap.size, [], hT.mine _, ⟨⟨_, Blk.new w3 _ _, RK.nil _ _ _⟩, rfl, fun p hp => by cases hp⟩, rfl, fun b hb => .inr hb, fun b hb => hb.elim⟩, hb.trans (hB2.mono hb.size)⟩
/-- The rows of the document's own arena. -/
theorem aa_row {K : Nat → Prop} {A m B n0 : Nat} {L L' : List Bl} {w W : World} (h : AaM K A m B n0 L' L w W) : ∃ ao cap, W.cell? ⟨m, 1, none⟩ = some (.slice ao L.length cap) ∧ L.length ≤ cap ∧ ∀ i (hi : i < L.length), ∃ b off va c, ao = some ⟨b, off, none⟩ ∧ W.cell? ⟨b, off + i * 2, none⟩ = some (.int .i64 (L[i].1 : Int)) ∧ W.cell? ⟨b, off + i * 2 + 1, none⟩ = some (.slice va L[i].2.length c) ∧ RK encC (fun _ => True) (.slice va L[i].2.length c) L[i].2 W := by
  obtain ⟨⟨x, y, P, h1, h2, rfl, h4, h5⟩, hbel⟩ := h
  obtain ⟨ao, cap, _, c1, hcap, _, hrow⟩ := h2.box
  refine ⟨ao, cap, by rw [lsP_len]; exact c1, by rw [lsP_len]; exact hcap, fun i hi => ?_⟩
  have hi2 : i < P.length := by rw [lsP_len] at hi; exact hi
  obtain ⟨b, off, e, _, d0, d1⟩ := hrow i hi2
  have hr := (h2.each P[i] (List.getElem_mem hi2)).2
  obtain ⟨va, c, hv⟩ := Rp.form hr
  rw [hv] at d1 hr
  refine ⟨b, off, va, c, e, ?_, ?_, ?_⟩
  · rw [lsP_at hi2]; exact d0
  · rw [lsP_at hi2]; exact d1
  · rw [lsP_at hi2]; exact hr.mono fun _ _ => trivial
theorem aa_read_full (K : Nat → Prop) (A m B n0 : Nat) (L L' : List Bl) (i : Nat) (hi : i < L.length) (hh nn : Nat) (bb : List UInt8) (w W : World) (h : AaM K A m B n0 L L' w W) (h1 : L[i].1 = hh) (h2 : L[i].2 = bb) (h3 : bb.length = nn) :
    Calls Tryd.prog 21 #[.pointer (some ⟨A, 0, none⟩), .int .i64 (hh : Int), .int .i64 0, .int .i64 (nn : Int)] W fun e w' => ∃ (v : Value), e = .returned (.tuple #[v, .int .i64 0]) ∧ RK encC (fun _ => True) v bb w' ∧ Below W.heap.size W w' := by
  have hf := h.facts
  have hle := hf.2.2.1 _ (List.getElem_mem hi)
  subst h1 h2 h3
  refine (aa_read1 K A m B n0 L L' _ 0 _ w W h (by omega) (by omega) (by omega) (by omega)).mono fun e w' ⟨v, l, er, he, ha, hr, hb⟩ => ?_
  cases ha with
  | none c => exact absurd rfl (c _ (List.getElem_mem hi))
  | bad b hbm c c2 =>
    have e := srt_mem hf.2.2.2.2 hbm (List.getElem_mem hi) (by omega)
    subst e
    exact absurd ⟨by omega, by omega, by omega, by omega⟩ c2
  | ok b hbm c c2 =>
    have e := srt_mem hf.2.2.2.2 hbm (List.getElem_mem hi) (by omega)
    subst e
    have e2 : (L[i].2.drop (0 : Int).toNat).take ((L[i].2.length : Int)).toNat = L[i].2 := by simp
    rw [e2] at hr
    exact ⟨v, he, hr, hb⟩
set_option maxHeartbeats 64000000 in
theorem aacts_in (B : Nat) (l : List Axc) (lv : Value) (w : World) (hT : TabOk w) (h1 : 1024 ≤ B) (h2 : B ≤ 65536) (hr : RK encAx (fun _ => True) lv l w) (hfew : Calls Tryd.prog 13 #[lv] w fun e w' => e = .returned (.bool true) ∧ w = w') (hl : l.length ≤ 60)
    (hb : ∀ a ∈ l, a.b.length ≤ 200 ∧ RK encC (fun _ => True) (.slice a.ao a.b.length a.c) a.b w) (hn : ∀ a ∈ l, (-9223372036854775808 ≤ a.at_ ∧ a.at_ ≤ 9223372036854775807) ∧ -9223372036854775808 ≤ a.n ∧ a.n ≤ 9223372036854775807) :
    Calls Tryd.prog 3 #[.int .i64 (B : Int), lv] w fun e w' => e = .returned (.bool true) ∧ Below w.heap.size w w' := by
  have hg : 0 < w.heap.size := cell_lt (hT 0 (by decide))
  obtain ⟨ao, cap, rfl, hcap, _⟩ := hr.form
  have HFEW := Lib.hid hfew
  have HAT := Lib.hid (fun (i f : Nat) (hi : i < l.length) (hf : f < 5) => hr.at_ encAx_len (i := i) (f := f) hi hf)
  have HBB := Lib.hid hb
  have HNN := Lib.hid hn
  have HT := Lib.hid hT
  have HG := Lib.hid hg
  have HMAY := Lib.hid (fun W => (by have k := mayArena_any (B : Int) W; rw [decide_eq_true (show (1024 : Int) ≤ (B : Int) by omega), decide_eq_true (show (B : Int) ≤ 1048576 by omega)] at k; exact k : Calls Tryd.prog 16 #[.int .i64 (B : Int)] W fun e w' => e = .returned (.bool true) ∧ W = w'))
  clear hT hg hfew hr hb hn
  go_enter Tryd.func3, Tryd.ntmps3
  go_wp2_with fail
  refine HFEW.out.mono ?_
  rintro e w' ⟨rfl, rfl⟩
  clear HFEW
  go_wp2_with fail
  refine (new_x B w (by omega) (by omega) HT.out).mono ?_
  rintro e w2 ⟨A, rfl, hx, b2⟩
  obtain ⟨n0, HN, HS0⟩ : ∃ n0, Hid (w.heap.size ≤ n0) ∧ Hid (AaM (fun _ => False) A w2.heap.size B n0 [] [] w (w2.alloc (.cells #[.int .i64 (B : Int), .slice none 0 0] 33))) := ⟨_, Lib.hid (Nat.le_refl _), Lib.hid (aa_start A B _ w w2 hx b2)⟩
  clear hx b2
  go_wp2_with fail
  refine (HMAY.out w2).mono ?_
  rintro e w' ⟨rfl, rfl⟩
  go_wp2
  generalize (w2.alloc (.cells #[.int .i64 (B : Int), .slice none 0 0] 33)) = W4 at HS0 ⊢
  generalize w2.heap.size = m at HS0 ⊢
  go_loopw [8] (fun i wr => ∃ (k : Nat) (L : List Bl), i = .int .i64 (k : Int) ∧ k ≤ l.length ∧ Hid (AaM (fun _ => False) A m B n0 L L w wr)) (fun i _ => l.length + 1 - (intOf i).toNat)
  case atStart => exact ⟨0, [], rfl, Nat.zero_le _, HS0⟩
  case round =>
    obtain ⟨k, L, rfl, hk, HF⟩ := hrel
    clear HS0
    by_cases hlt : k < l.length
    · obtain ⟨b, off, rfl, _, d0⟩ := HAT.out k 0 hlt (by omega)
      obtain ⟨b1, off1, e1, _, d1⟩ := HAT.out k 1 hlt (by omega)
      obtain ⟨b2, off2, e2, _, d2⟩ := HAT.out k 2 hlt (by omega)
      obtain ⟨b3, off3, e3, _, d3⟩ := HAT.out k 3 hlt (by omega)
      obtain ⟨b4, off4, e4, _, d4⟩ := HAT.out k 4 hlt (by omega)
      cases e1
      cases e2
      cases e3
      cases e4
      have hbl := HBB.out _ (List.getElem_mem hlt)
      have hnl := HNN.out _ (List.getElem_mem hlt)
      obtain ⟨kd, hkd⟩ : ∃ q, l[k].kind = q := ⟨_, rfl⟩
      obtain ⟨hh, hhe⟩ : ∃ q, l[k].h = q := ⟨_, rfl⟩
      obtain ⟨at_, hat⟩ : ∃ q, l[k].at_ = q := ⟨_, rfl⟩
      obtain ⟨nz, hnz⟩ : ∃ q, l[k].n = q := ⟨_, rfl⟩
      obtain ⟨bb, hbb⟩ : ∃ q, l[k].b = q := ⟨_, rfl⟩
      obtain ⟨ba, hba⟩ : ∃ q, l[k].ao = q := ⟨_, rfl⟩
      obtain ⟨bc, hbc⟩ : ∃ q, l[k].c = q := ⟨_, rfl⟩
      simp only [encAx, List.getElem?_cons_succ, List.getElem?_cons_zero, hkd, hhe, hat, hnz, hbb, hba, hbc] at d0 d1 d2 d3 d4
      rw [hbb, hba, hbc] at hbl
      rw [hat, hnz] at hnl
      obtain ⟨bn, hbn⟩ : ∃ q, bb.length = q := ⟨_, rfl⟩
      rw [hbn] at d4
      rw [Nat.add_zero] at d0
      rw [← Nat.add_assoc] at d1 d2 d3 d4
      have g0 := (HF.out.bel.cell (cell_lt d0)).trans d0
      have g1 := (HF.out.bel.cell (cell_lt d1)).trans d1
      have g2 := (HF.out.bel.cell (cell_lt d2)).trans d2
      have g3 := (HF.out.bel.cell (cell_lt d3)).trans d3
      have g4 := (HF.out.bel.cell (cell_lt d4)).trans d4
      have HBX := Lib.hid (HF.out.box (.cells #[.int .i64 kd, .int .i64 hh, .int .i64 at_, .int .i64 nz, .slice ba bn bc] 36))
      have HBK : Hid (Blk (wr.alloc (.cells #[.int .i64 kd, .int .i64 hh, .int .i64 at_, .int .i64 nz, .slice ba bn bc] 36)) wr.heap.size [.int .i64 kd, .int .i64 hh, .int .i64 at_, .int .i64 nz, .slice ba bn bc] 36) := Lib.hid (Blk.new wr _ _)
      obtain ⟨f1, f2, f3, f4, f5⟩ := HF.out.facts
      have HFC := Lib.hid (And.intro f1 (And.intro f2 (And.intro f3 (And.intro f4 f5))))
      have hbn200 : bn ≤ 200 := by rw [← hbn]; exact hbl.1
      have HBL := Lib.hid (hbn ▸ hbl.2)
      have HBN := Lib.hid hbn
      have HNL := Lib.hid hnl
      clear d0 d1 d2 d3 d4 hkd hhe hat hnz hbb hba hbc hbn hbl hnl f1 f2 f3 f4 f5
      by_cases hk1 : kd = 1
      · subst hk1
        have x3 := HBK.out.cell (i := 3) rfl
        go_wp2_with fail
        refine (aa_alloc1 (fun b => b = wr.heap.size) A m B n0 L nz w _ HN.out HBX.out).mono ?_
        rintro e w5 ⟨L2, r, er, rfl, hact, h5, hkeep5⟩
        have H5 := Lib.hid h5
        have HBK5 := Lib.hid (HBK.out.kept (hkeep5 _ rfl))
        have HACT := Lib.hid hact
        have x3 := HBK5.out.cell (i := 3) rfl
        clear h5 hkeep5 hact
        go_wp2_with fail
        refine (aa_alloc2 (fun b => b = wr.heap.size) A m B n0 L L2 nz r er w _ HN.out HNL.out.2 HFC.out.1 HFC.out.2.1 HFC.out.2.2.1 HFC.out.2.2.2.1 H5.out HACT.out).mono ?_
        rintro e w6 ⟨rfl, h6, _⟩
        have H6 := Lib.hid h6
        clear h6
        go_wp2_with (go_at_call 27; refine (aa_shows _ A m B n0 L2 w _ H6.out.facts.2.2.2.1 H6.out).mono ?_; rintro e w8 ⟨rfl, b8⟩; have H8 := Lib.hid (H6.out.after b8).bare; clear b8)
        go_roundw
        case rel => exact ⟨k + 1, L2, by go_num, by omega, H8⟩
        case measure => simp [intOf]; omega
      · have hkk1 : (kd == 1) = false := by rw [beq_eq_false_iff_ne]; exact hk1
        by_cases hk2 : kd = 2
        · subst hk2
          clear hk1 hkk1
          have x0 := HBK.out.cell (i := 0) rfl
          have x1 := HBK.out.cell (i := 1) rfl
          go_wp2
          go_region_held3 (fun w' => w'.cell? ⟨wr.heap.size, 1, none⟩ = some (.int .i64 hh)) ((first | assumption | go_keep)) (first
            | (go_at_call 19; refine (aa_free1 (fun b => b = wr.heap.size) A m B n0 L hh w _ HN.out (by first | exact HBX.out | exact HBX.out.after ((Below.refl _ _).drew))).mono ?_; rintro e w5 ⟨L2, er, rfl, hact, h5, hkeep5⟩; have H5 := Lib.hid h5; have HACT := Lib.hid hact; have x1 := (HBK.out.kept (hkeep5 _ rfl)).cell (i := 1) rfl; clear h5 hkeep5 hact)
            | (go_at_call 20; refine (aa_free2 (fun b => b = wr.heap.size) A m B n0 L _ hh _ w _ HN.out HFC.out.2.2.2.1 HFC.out.2.2.2.2 H5.out HACT.out).mono ?_; rintro e w6 ⟨rfl, h6, hkeep6⟩; have H6 := Lib.hid h6; have x1 := (cell_same (hkeep6 wr.heap.size rfl) 1).trans x1; clear h6 hkeep6))
          all_goals
            go_wp2_with (go_at_call 27; refine (aa_shows _ A m B n0 L2 w _ H6.out.facts.2.2.2.1 H6.out).mono ?_; rintro e w8 ⟨rfl, b8⟩; have H8 := Lib.hid (H6.out.after b8).bare; clear b8)
            go_roundw
            case rel => exact ⟨k + 1, L2, by go_num, by omega, H8⟩
            case measure => simp [intOf]; omega
        · have hkk2 : (kd == 2) = false := by rw [beq_eq_false_iff_ne]; exact hk2
          by_cases hk3 : kd = 3
          · subst hk3
            clear hk1 hkk1 hk2 hkk2
            have x0 := HBK.out.cell (i := 0) rfl
            have x1 := HBK.out.cell (i := 1) rfl
            have x2 := HBK.out.cell (i := 2) rfl
            have x3 := HBK.out.cell (i := 3) rfl
            go_wp2_with fail
            refine (aa_read1 (fun b => b = wr.heap.size) A m B n0 L L hh at_ nz w _ HBX.out HNL.out.1.1 HNL.out.1.2 HNL.out.2.1 HNL.out.2.2).mono ?_
            rintro e w5 ⟨v5, s5, er, rfl, hact, hr5, hb5⟩
            have H5 := Lib.hid (HBX.out.after hb5)
            have HACT := Lib.hid hact
            have HR5 := Lib.hid hr5
            have hk5 := HBK.out.kept (hb5.block _ HBK.out.lt)
            have x1 := hk5.cell (i := 1) rfl
            have x2 := hk5.cell (i := 2) rfl
            have x3 := hk5.cell (i := 3) rfl
            clear hact hr5 hb5 hk5
            go_wp2_with fail
            refine (aa_read2 (fun b => b = wr.heap.size) A m B n0 L L hh at_ nz s5 er w _ HFC.out.2.2.2.1 HFC.out.2.2.1 HFC.out.2.2.2.2 H5.out HACT.out HNL.out.1.1 HNL.out.1.2 HNL.out.2.1 HNL.out.2.2).mono ?_
            rintro e w6 ⟨v6, rfl, hr6, hb6⟩
            have H6 := Lib.hid (H5.out.after hb6)
            have cv5 := run_rd_any (rk_rdB (HR5.out.below hb6))
            have cv6 := run_rd_any (rk_rdB hr6)
            clear hr6 hb6 HR5 x1 x2 x3
            go_wp2_with (go_at_call 27; refine (aa_shows _ A m B n0 L w _ HFC.out.2.2.2.1 H6.out).mono ?_; rintro e w8 ⟨rfl, b8⟩; have H8 := Lib.hid (H6.out.after b8).bare; clear b8)
            go_roundw
            case rel => exact ⟨k + 1, L, by go_num, by omega, H8⟩
            case measure => simp [intOf]; omega
          · have hkk3 : (kd == 3) = false := by rw [beq_eq_false_iff_ne]; exact hk3
            by_cases hk4 : kd = 4
            · subst hk4
              clear hk1 hkk1 hk2 hkk2 hk3 hkk3
              have x0 := HBK.out.cell (i := 0) rfl
              have x1 := HBK.out.cell (i := 1) rfl
              have x2 := HBK.out.cell (i := 2) rfl
              have x4 := HBK.out.cell (i := 4) rfl
              have hbn1 : bb.length ≤ 1000 := by rw [HBN.out]; omega
              have HBN1 := Lib.hid hbn1
              have HRB := Lib.hid (fun W (hb : Below w.heap.size w W) => HBL.out.below hb)
              clear hbn1
              go_wp2
              go_region_held3 (fun w' => w'.cell? ⟨wr.heap.size, 1, none⟩ = some (.int .i64 hh) ∧ w'.cell? ⟨wr.heap.size, 2, none⟩ = some (.int .i64 at_) ∧ w'.cell? ⟨wr.heap.size, 4, none⟩ = some (.slice ba bn bc)) ((go_split_ands; refine ⟨?_, ?_, ?_⟩ <;> first | assumption | go_keep)) (first
                | (go_at_call 23; refine (aa_write1 (fun b => b = wr.heap.size) A m B n0 L L hh at_ _ bb w _ HN.out (by first | exact HBX.out | exact HBX.out.after ((Below.refl _ _).drew)) (by first | exact HRB.out _ HBX.out.bel | exact HRB.out _ (HBX.out.after ((Below.refl _ _).drew)).bel) HBN1.out HNL.out.1.1 HNL.out.1.2).mono ?_; rintro e w5 ⟨L2, er, rfl, hact, h5, hkeep5⟩; have H5 := Lib.hid h5; have HACT := Lib.hid hact; have hk5 := HBK.out.kept (hkeep5 _ rfl); have x1 := hk5.cell (i := 1) rfl; have x2 := hk5.cell (i := 2) rfl; have x4 := hk5.cell (i := 4) rfl; clear h5 hkeep5 hact hk5)
                | (go_at_call 24; refine (aa_write2 (fun b => b = wr.heap.size) A m B n0 L _ hh at_ _ bb _ w _ HN.out HFC.out.2.2.2.1 HFC.out.2.2.1 HFC.out.2.2.2.2 H5.out (HRB.out _ H5.out.bel) HBN1.out HACT.out HNL.out.1.1 HNL.out.1.2).mono ?_; rintro e w6 ⟨rfl, h6, hkeep6⟩; have H6 := Lib.hid h6; have x1 := (cell_same (hkeep6 wr.heap.size rfl) 1).trans x1; have x2 := (cell_same (hkeep6 wr.heap.size rfl) 2).trans x2; have x4 := (cell_same (hkeep6 wr.heap.size rfl) 4).trans x4; clear h6 hkeep6))
              all_goals
                go_wp2_with (go_at_call 27; refine (aa_shows _ A m B n0 L2 w _ H6.out.facts.2.2.2.1 H6.out).mono ?_; rintro e w8 ⟨rfl, b8⟩; have H8 := Lib.hid (H6.out.after b8).bare; clear b8)
                go_roundw
                case rel => exact ⟨k + 1, L2, by go_num, by omega, H8⟩
                case measure => simp [intOf]; omega
            · have hkk4 : (kd == 4) = false := by rw [beq_eq_false_iff_ne]; exact hk4
              by_cases hk5 : kd = 5
              · subst hk5
                clear hk1 hk2 hk3 hk4 hkk1 hkk2 hkk3 hkk4
                have x0 := HBK.out.cell (i := 0) rfl
                go_wp2_with (first
                  | (go_at_call 25; refine (aa_left1 (fun b => b = wr.heap.size) A m B n0 L L w _ HN.out HBX.out).mono ?_; rintro e w5 ⟨rfl, h5, _⟩; have H5 := Lib.hid h5; clear h5)
                  | (go_at_call 26; refine (aa_left2 (fun b => b = wr.heap.size) A m B n0 L L w _ HFC.out.1 HFC.out.2.1 HFC.out.2.2.2.1 HFC.out.2.2.1 H5.out).mono ?_; rintro e w6 ⟨rfl, b6⟩; have H6 := Lib.hid (H5.out.after b6); clear b6)
                  | (go_at_call 27; refine (aa_shows _ A m B n0 L w _ HFC.out.2.2.2.1 H6.out).mono ?_; rintro e w8 ⟨rfl, b8⟩; have H8 := Lib.hid (H6.out.after b8).bare; clear b8))
                go_roundw
                case rel => exact ⟨k + 1, L, by go_num, by omega, H8⟩
                case measure => simp [intOf]; omega
              · have hkk5 : (kd == 5) = false := by rw [beq_eq_false_iff_ne]; exact hk5
                have x0 := HBK.out.cell (i := 0) rfl
                clear hk1 hk2 hk3 hk4 hk5
                go_wp2_with (go_at_call 27; refine (aa_shows _ A m B n0 L w _ HFC.out.2.2.2.1 HBX.out).mono ?_; rintro e w8 ⟨rfl, b8⟩; have H8 := Lib.hid (HBX.out.after b8).bare; clear b8)
                go_roundw
                case rel => exact ⟨k + 1, L, by go_num, by omega, H8⟩
                case measure => simp [intOf]; omega
    · obtain rfl : k = l.length := by omega
      clear HAT HBB HNN HMAY
      go_wp2
      go_loopw [18] (fun i wr => ∃ (q : Nat), i = .int .i64 (q : Int) ∧ q ≤ L.length ∧ Hid (AaM (fun _ => False) A m B n0 L L w wr)) (fun i _ => L.length + 1 - (intOf i).toNat)
      case atStart => exact ⟨0, rfl, Nat.zero_le _, HF⟩
      case round =>
        clear HF
        obtain ⟨q, rfl, hq, HF⟩ := hrel
        obtain ⟨ao2, cap2, k1, hcap2, hrow⟩ := aa_row HF.out
        have hLl := HF.out.facts.2.2.2.1
        by_cases hlt : q < L.length
        · obtain ⟨b2, off2, va, c2, rfl, d0, d1, hrk⟩ := hrow q hlt
          obtain ⟨hh, hhe⟩ : ∃ hh, L[q].1 = hh := ⟨_, rfl⟩
          obtain ⟨bb, hbe⟩ : ∃ bb, L[q].2 = bb := ⟨_, rfl⟩
          obtain ⟨nn, hne⟩ : ∃ nn, bb.length = nn := ⟨_, rfl⟩
          have hle := HF.out.facts.2.2.1 _ (List.getElem_mem hlt)
          rw [hbe, hne] at hle
          rw [hhe] at d0
          rw [hbe, hne] at d1 hrk
          have HRD := Lib.hid (fun W (h : AaM (fun _ => False) A m B n0 L L w W) => aa_read_full (fun _ => False) A m B n0 L L q hlt hh nn bb w W h hhe hbe hne)
          have HRW := Lib.hid (fun W (hb : Below wr.heap.size wr W) => (show W.cell? ⟨m, 1, none⟩ = some (.slice (some ⟨b2, off2, none⟩) L.length cap2) ∧ W.cell? ⟨b2, off2 + q * 2, none⟩ = some (.int .i64 (hh : Int)) ∧ W.cell? ⟨b2, off2 + q * 2 + 1, none⟩ = some (.slice va nn c2) from ⟨(hb.cell (cell_lt k1)).trans k1, (hb.cell (cell_lt d0)).trans d0, (hb.cell (cell_lt d1)).trans d1⟩))
          have HRK := Lib.hid hrk
          have HNE := Lib.hid hne
          clear hrow hrk hhe hbe hne
          go_wp2
          go_region_held3 (fun w' => w'.cell? ⟨m, 1, none⟩ = some (.slice (some ⟨b2, off2, none⟩) L.length cap2) ∧ w'.cell? ⟨b2, off2 + q * 2, none⟩ = some (.int .i64 (hh : Int)) ∧ w'.cell? ⟨b2, off2 + q * 2 + 1, none⟩ = some (.slice va nn c2)) ((go_split_ands; refine ⟨?_, ?_, ?_⟩ <;> first | assumption | go_keep)) (first
            | (go_at_call 21; refine (HRD.out _ (by first | exact HF.out | exact HF.out.after ((Below.refl _ _).drew))).mono ?_; rintro e w5 ⟨v5, rfl, hr5, hb5⟩; have HB5 := Lib.hid (show Below wr.heap.size wr w5 by first | exact hb5 | exact ((Below.refl _ _).drew).trans hb5); have HR5 := Lib.hid hr5; obtain ⟨k1, d0, d1⟩ := HRW.out _ HB5.out; clear hr5 hb5))
          have H5 := Lib.hid (HF.out.after HB5.out)
          have cv5 : ∀ n, (convert 34 9 v5).run Tryd.prog (w5.drewN n) = .ok (.string ⟨bb.toArray⟩) (w5.drewN n) := fun n => run_rd_any (rk_rdB (HR5.out.below (below_drewN _ _ n)))
          have cv6 : ∀ n, (convert 34 9 (.slice va nn c2)).run Tryd.prog (w5.drewN n) = .ok (.string ⟨bb.toArray⟩) (w5.drewN n) := fun n => run_rd_any (rk_rdB ((HRK.out.below HB5.out).below (below_drewN _ _ n)))
          go_wp2
          go_quiet (fail)
          have H6 := Lib.hid (H5.out.after (below_drewN _ _ nq))
          clear cv5 cv6
          go_wp2
          go_roundw
          case rel => exact ⟨q + 1, by go_num, by omega, H6⟩
          case measure => simp [intOf]; omega
        · obtain rfl : q = L.length := by omega
          clear hrow
          have HAW := Lib.hid (fun W (hb : Below wr.heap.size wr W) => awake_any W ((HT.out.below HG.out HF.out.bel).below (Nat.lt_of_lt_of_le HG.out HF.out.bel.size) hb))
          go_wp2_with (go_at_call 14; refine (HAW.out _ (Below.refl _ _)).mono ?_; rintro e wa ⟨rfl, hb⟩; have HB9 := Lib.hid (HF.out.bel.trans (hb.mono HF.out.bel.size)); clear hb)
          go_ret
          exact ⟨rfl, HB9.out⟩
end Go.Proofs.YtdbaocphglijbaaDoor

/- ArenaActs: for any budget, any list of acts. -/
set_option maxRecDepth 100000
namespace Go.Proofs.YtdbaocphglijbaaDoor
open Go Go.RowKit Go.Shelf
attribute [local go_sem] Oper.semAt_some
set_option maxHeartbeats 8000000 in
theorem aacts_any (z : Int) (l : List Axc) (lv : Value) (w : World) (hT : TabOk w) (hz : -9223372036854775808 ≤ z ∧ z ≤ 9223372036854775807) (hr : RK encAx (fun _ => True) lv l w)
    (hs : ∀ a ∈ l, a.b.length ≤ 9223372036854775807 ∧ RK encC (fun _ => True) (.slice a.ao a.b.length a.c) a.b w) (hn : ∀ a ∈ l, (-9223372036854775808 ≤ a.at_ ∧ a.at_ ≤ 9223372036854775807) ∧ -9223372036854775808 ≤ a.n ∧ a.n ≤ 9223372036854775807) (hl : l.length ≤ 9223372036854775807) :
    Calls Tryd.prog 3 #[.int .i64 z, lv] w fun e w' => e = .returned (.bool true) ∧ Below w.heap.size w w' := by
  have hg : 0 < w.heap.size := cell_lt (hT 0 (by decide))
  have HT := Lib.hid hT
  have HG := Lib.hid hg
  clear hT hg
  have hf := Lib.hid (few6_any l lv w hr hl fun a ha => (hs a ha).1)
  cases hb : fewB6 l with
  | false =>
    have HF := Lib.hid (show Calls Tryd.prog 13 #[lv] w fun e w' => e = .returned (.bool false) ∧ w = w' from hf.out.mono fun e w' h => ⟨by rw [← hb]; exact h.1, h.2⟩)
    clear hr hs hn hf hb
    go_enter Tryd.func3, Tryd.ntmps3
    go_wp2_with fail
    refine HF.out.mono ?_
    rintro e w' ⟨rfl, rfl⟩
    go_wp2_with (go_at_call 14; refine (awake_any _ HT.out).mono ?_; rintro e w' ⟨rfl, hb⟩)
    go_ret
    exact ⟨rfl, hb⟩
  | true =>
    have HF := Lib.hid (show Calls Tryd.prog 13 #[lv] w fun e w' => e = .returned (.bool true) ∧ w = w' from hf.out.mono fun e w' h => ⟨by rw [← hb]; exact h.1, h.2⟩)
    have hfw := of_decide_eq_true hb
    clear hf hb
    by_cases hin : 1024 ≤ z ∧ z ≤ 1048576
    · obtain ⟨B, rfl⟩ : ∃ B : Nat, z = (B : Int) := ⟨z.toNat, by omega⟩
      by_cases h64 : B ≤ 65536
      · exact aacts_in B l lv w HT.out (by omega) h64 hr HF.out hfw.1 (fun a ha => ⟨hfw.2 a ha, (hs a ha).2⟩) hn
      · have h65 : 65536 < (B : Int) := by omega
        have HMAY := Lib.hid (fun W => (by have k := mayArena_any (B : Int) W; rw [decide_eq_true (show (1024 : Int) ≤ (B : Int) by omega), decide_eq_true (show (B : Int) ≤ 1048576 by omega)] at k; exact k : Calls Tryd.prog 16 #[.int .i64 (B : Int)] W fun e w' => e = .returned (.bool true) ∧ W = w'))
        have HNW := Lib.hid (new_x B w (by omega) (by omega) HT.out)
        clear hr hs hn hfw hin
        go_enter Tryd.func3, Tryd.ntmps3
        go_wp2_with fail
        refine HF.out.mono ?_
        rintro e w' ⟨rfl, rfl⟩
        go_wp2_with fail
        refine HNW.out.mono ?_
        rintro e w2 ⟨A, rfl, hx, b2⟩
        have HB2 := Lib.hid b2
        clear hx b2
        go_wp2_with fail
        refine (HMAY.out w2).mono ?_
        rintro e w' ⟨rfl, rfl⟩
        go_wp2_with (go_at_call 14; refine (awake_any _ (HT.out.below HG.out HB2.out)).mono ?_; rintro e w3 ⟨rfl, hb⟩; have HB3 := Lib.hid (HB2.out.trans (hb.mono HB2.out.size)); clear hb)
        go_ret
        exact ⟨rfl, HB3.out⟩
    · have HMAY := Lib.hid (fun W => (by
        have k := mayArena_any z W
        have e : (decide (1024 ≤ z) && decide (z ≤ 1048576)) = false := by
          rw [Bool.and_eq_false_iff, decide_eq_false_iff_not, decide_eq_false_iff_not]; omega
        rw [e] at k; exact k : Calls Tryd.prog 16 #[.int .i64 z] W fun e w' => e = .returned (.bool false) ∧ W = w'))
      have HNW := Lib.hid (new_none z w (by omega))
      clear hr hs hn hfw hin
      go_enter Tryd.func3, Tryd.ntmps3
      go_wp2_with fail
      refine HF.out.mono ?_
      rintro e w' ⟨rfl, rfl⟩
      go_wp2_with fail
      refine HNW.out.mono ?_
      rintro e w' ⟨rfl, rfl⟩
      go_wp2_with fail
      refine (HMAY.out w).mono ?_
      rintro e w' ⟨rfl, rfl⟩
      go_wp2_with (go_at_call 14; refine (awake_any _ HT.out).mono ?_; rintro e w3 ⟨rfl, hb⟩)
      go_ret
      exact ⟨rfl, hb⟩
end Go.Proofs.YtdbaocphglijbaaDoor

/- The frame of ArenaActs: an argument that is a list of acts. -/
set_option maxRecDepth 100000
namespace Go.Proofs.YtdbaocphglijbaaDoor
open Go.ChangeShapes Go.WideShapes Go.ChangeAt Go.RowKit
theorem flatAx_len : ∀ l : List Axc, (l.flatMap encAx).length = l.length * 5
  | [] => rfl
  | a :: l => by rw [List.flatMap_cons, List.length_append, flatAx_len l, encAx_len, List.length_cons]; omega
theorem RK.ofActs6 {l : List Axc} {W : World} {b off cap : Nat} (hcap : l.length ≤ cap) (hc : ∀ (i : Nat) (h : i < l.length) (f : Nat), f < 5 → W.cell? ⟨b, off + (i * 5 + f), none⟩ = (encAx l[i])[f]?) :
    RK encAx (fun _ => True) (.slice (some ⟨b, off, none⟩) l.length cap) l W :=
  ⟨some ⟨b, off, none⟩, cap, rfl, hcap, fun j u hu => ⟨b, off, rfl, trivial, by
    have hj : j < (l.flatMap encAx).length := (List.getElem?_eq_some_iff.1 hu).1
    have hl5 := flatAx_len l
    have hi : j / 5 < l.length := by omega
    have hf : j % 5 < 5 := by omega
    have e : j = j / 5 * 5 + j % 5 := by omega
    have h1 := flat_get encAx 5 encAx_len l (j / 5) (j % 5) hi hf
    rw [← e] at h1
    have h2 := hc (j / 5) hi (j % 5) hf
    rw [← e] at h2
    rw [h2, ← h1, hu]⟩⟩
section
variable {H : Type} {enc : TypeId × Value → H} {W : World}
theorem bytes_in6 {fuel : Nat} {c : Value} {x : DataW H × List MemPlace} (hf : DataW.trod enc Tryd.prog W 0 (fun _ => true) true fuel 34 [c] = some x) : ∃ (ao : Option Addr) (cap : Nat) (l : List UInt8), c = .slice ao l.length cap ∧ RK encC (fun _ => True) (.slice ao l.length cap) l W ∧ l.length ≤ maxLen := by
  rcases open_ints Tryd.underlying34 Tryd.underlying5 (by kernel_rfl) hf with ⟨hcs, _⟩ | ⟨a, len, cap, zs, hcs, _, hle, hmax, hall, _, hc, hw⟩
  · obtain rfl : c = .slice none 0 0 := by simpa using hcs
    exact ⟨none, 0, [], rfl, RK.nil _ _ _, zero_maxLen⟩
  · obtain rfl : c = .slice (some a) len cap := by simpa using hcs
    simp only [if_true] at hall
    have hlen : ((zs.take len).map (fun z => UInt8.ofNat z.toNat)).length = len := by rw [List.length_map, List.length_take]; omega
    refine ⟨some a, cap, (zs.take len).map (fun z => UInt8.ofNat z.toNat), by rw [hlen], ?_, by rw [hlen]; omega⟩
    rw [hlen]
    refine ⟨some a, cap, by rw [hlen], by rw [hlen]; exact hle, fun j u hu => ?_⟩
    rw [flatC] at hu
    have hj : j < len := by
      have := (List.getElem?_eq_some_iff.1 hu).1
      rw [List.length_map, hlen] at this
      exact this
    obtain ⟨b, off, rfl, hcc⟩ := ints_at hc (by omega)
    refine ⟨b, off, rfl, trivial, ?_⟩
    have hjz : j < zs.length := by omega
    have hb := bounds_u8 (hw zs[j] (List.getElem_mem hjz))
    have e1 : (UInt8.ofNat zs[j].toNat).toNat = zs[j].toNat := by simp; omega
    rw [hcc j (by omega), getD_at (l := zs) (i := j) hjz, ← hu, List.getElem?_map, List.getElem?_map, List.getElem?_take, if_pos hj, List.getElem?_eq_getElem hjz]
    show some (Value.int .u8 zs[j]) = some (encB (UInt8.ofNat zs[j].toNat))
    rw [encB, e1, Int.toNat_of_nonneg hb.1]
theorem act_in6 {fuel : Nat} {cs : List Value} {x : DataW H × List MemPlace} (hf : DataW.trod enc Tryd.prog W 0 (fun _ => true) true fuel 36 cs = some x) :
    ∃ a : Axc, cs = encAx a ∧ (a.b.length ≤ maxLen ∧ RK encC (fun _ => True) (.slice a.ao a.b.length a.c) a.b W) ∧ (-9223372036854775808 ≤ a.at_ ∧ a.at_ ≤ 9223372036854775807) ∧ -9223372036854775808 ≤ a.n ∧ a.n ≤ 9223372036854775807 := by
  obtain ⟨ys, n, _, rfl, hl, hlen, hg⟩ := DataW.trod_struct Tryd.underlying36 hf
  have hl5 : cs.length = 5 := hl.trans (by kernel_rfl)
  match cs, hl5 with
  | [c0, c1, c2, c3, c4], _ =>
    have k1 : Tryd.prog.cellsOf 3 = 1 := by kernel_rfl
    have k2 : Tryd.prog.cellsOf 34 = 1 := by kernel_rfl
    match ys, hlen with
    | [y0, y1, y2, y3, y4], _ =>
      have g0 := hg 0 _ rfl
      have g1 := hg 1 _ rfl
      have g2 := hg 2 _ rfl
      have g3 := hg 3 _ rfl
      have g4 := hg 4 _ rfl
      simp [k1, k2] at g0 g1 g2 g3 g4
      obtain ⟨z0, e0, _, _⟩ := DataW.trod_int Tryd.underlying3 g0
      obtain ⟨z1, e1, _, _⟩ := DataW.trod_int Tryd.underlying3 g1
      obtain ⟨z2, e2, _, hz2⟩ := DataW.trod_int Tryd.underlying3 g2
      obtain ⟨z3, e3, _, hz3⟩ := DataW.trod_int Tryd.underlying3 g3
      obtain ⟨ao, cap, l, rfl, hr, hll⟩ := bytes_in6 g4
      obtain rfl : c0 = .int .i64 z0 := by simpa using e0
      obtain rfl : c1 = .int .i64 z1 := by simpa using e1
      obtain rfl : c2 = .int .i64 z2 := by simpa using e2
      obtain rfl : c3 = .int .i64 z3 := by simpa using e3
      exact ⟨⟨z0, z1, z2, z3, ao, cap, l⟩, rfl, ⟨hll, hr⟩, bounds_i64 hz2, bounds_i64 hz3⟩
theorem arg_acts6 {b0 : Nat} {v : Value} {d : DataW H} {ps : List MemPlace} (hval : Value.okWide Tryd.prog W .any b0 22 v) (hd : DataW.Trod enc Tryd.prog W 0 (fun _ => true) true 22 v d ps) :
    ∃ l : List Axc, RK encAx (fun _ => True) v l W ∧ (∀ a ∈ l, a.b.length ≤ maxLen ∧ RK encC (fun _ => True) (.slice a.ao a.b.length a.c) a.b W) ∧ (∀ a ∈ l, (-9223372036854775808 ≤ a.at_ ∧ a.at_ ≤ 9223372036854775807) ∧ -9223372036854775808 ≤ a.n ∧ a.n ≤ 9223372036854775807) ∧ l.length ≤ maxLen := by
  obtain ⟨a0, len, cap, rfl⟩ := okWide_slice Tryd.underlying22 hval
  obtain ⟨fuel, hf⟩ := hd
  rcases Go.Deep.open_slice Tryd.underlying22 hf with ⟨hcs, _⟩ | ⟨a, len', cap', m, n, D, Pl, hcs, _, hle, hmax, hm, _, hi⟩
  · simp [Value.cells] at hcs
    obtain ⟨rfl, rfl, rfl⟩ := hcs
    exact ⟨[], RK.nil _ _ _, by simp, by simp, zero_maxLen⟩
  · simp [Value.cells] at hcs
    obtain ⟨rfl, rfl, rfl⟩ := hcs
    simp only [if_true] at hm
    subst hm
    have k5 : Tryd.prog.cellsOf 36 = 5 := by kernel_rfl
    have hall : ∀ i, i < len → ∃ x : Axc, (∀ j, j < 5 → W.cell? ((a.add (i * 5)).add j) = (encAx x)[j]?) ∧ (x.b.length ≤ maxLen ∧ RK encC (fun _ => True) (.slice x.ao x.b.length x.c) x.b W) ∧ (-9223372036854775808 ≤ x.at_ ∧ x.at_ ≤ 9223372036854775807) ∧ -9223372036854775808 ≤ x.n ∧ x.n ≤ 9223372036854775807 := fun i hil => by
      obtain ⟨cs', hc, ht⟩ := hi i (by omega)
      rw [k5] at hc
      obtain ⟨_, _, hat⟩ := World.cells?_some hc
      obtain ⟨x, rfl, r⟩ := act_in6 ht
      exact ⟨x, hat, r⟩
    obtain ⟨F, hF⟩ : ∃ F : Nat → Axc, ∀ i, i < len → (∀ j, j < 5 → W.cell? ((a.add (i * 5)).add j) = (encAx (F i))[j]?) ∧ ((F i).b.length ≤ maxLen ∧ RK encC (fun _ => True) (.slice (F i).ao (F i).b.length (F i).c) (F i).b W) ∧ (-9223372036854775808 ≤ (F i).at_ ∧ (F i).at_ ≤ 9223372036854775807) ∧ -9223372036854775808 ≤ (F i).n ∧ (F i).n ≤ 9223372036854775807 :=
      ⟨fun i => if h : i < len then (hall i h).choose else ⟨0, 0, 0, 0, none, 0, []⟩, fun i h => by have h5 := (hall i h).choose_spec; simp only [h, dite_true]; exact h5⟩
    have hin : ∀ x ∈ (List.range len).map F, ∃ i, i < len ∧ F i = x := fun x hx => by
      obtain ⟨i, hi, rfl⟩ := List.mem_map.1 hx
      exact ⟨i, List.mem_range.1 hi, rfl⟩
    refine ⟨(List.range len).map F, ?_, fun x hx => ?_, fun x hx => ?_, by simp; omega⟩
    · by_cases h0 : 0 < len
      · obtain ⟨b, off, spot⟩ := a
        have c00 := (hF 0 h0).1 0 (by omega)
        have hspot : spot = none := by simpa [Addr.add] using World.cell?_spot (show W.cell? _ = some _ from c00)
        subst hspot
        have hz := RK.ofActs6 (l := (List.range len).map F) (W := W) (b := b) (off := off) (cap := m) (by simp; omega) (fun i hi f hf => by
          rw [List.length_map, List.length_range] at hi
          have h1 := (hF i hi).1 f hf
          rw [add_plain, add_plain, Nat.add_assoc] at h1
          rw [h1, List.getElem_map, List.getElem_range])
        rw [List.length_map, List.length_range] at hz
        exact hz
      · obtain rfl : len = 0 := by omega
        exact ⟨some a, m, rfl, Nat.zero_le _, fun j u hu => by simp at hu⟩
    · obtain ⟨i, hi, rfl⟩ := hin x hx
      exact (hF i hi).2.1
    · obtain ⟨i, hi, rfl⟩ := hin x hx
      exact (hF i hi).2.2
end
theorem readT6 : ∀ t ∈ [3, 22], Tryd.prog.readableRec t = true ∧ t < Tryd.prog.types.size := by
  intro t ht
  simp only [List.mem_cons, List.not_mem_nil, or_false] at ht
  rcases ht with rfl | rfl
  all_goals exact ⟨by kernel_rfl, of_decide_eq_true (by kernel_rfl)⟩
theorem standT6 : ∀ t ∈ [3, 22], Tryd.prog.wantsStandIn t = false := by
  intro t ht
  simp only [List.mem_cons, List.not_mem_nil, or_false] at ht
  rcases ht with rfl | rfl
  all_goals kernel_rfl
end Go.Proofs.YtdbaocphglijbaaDoor

/- whatever is taken, given back, read, written and moved, each act tells, and all blocks and what is used and left are as the document says
   Conditions: those of the row and of its card, none beside. -/
set_option maxRecDepth 100000
namespace Go.Proofs.YtdbaocphglijbaaDoor.arenaActs
open Go.ChangeShapes Go.WideShapes Go.ChangeAt Go.RowKit

theorem contract (H : Type) (enc : TypeId × Value → H) (W : World) (base : Nat) (args : Array Value) (ds gs : List (DataW H)) (before : List MemPlace)
    (hval : ∀ (j : Nat) t v, Tryd.f3.params[j]? = some t → args[j]? = some v → Value.okWide Tryd.prog W .any base t v)
    (hW : DataW.Whole enc Tryd.prog Tryd.f3.params.toList Rows.arenaActsSpec.vars false W args.toList ds gs before) (hL : laidMetH Tryd.prog laidList W) :
    Calls Tryd.prog 3 args W fun e W' => ∃ v, e = .returned v ∧ Rows.arenaActsSpec.post enc Tryd.prog Tryd.f3 false true false false W args v W' := by
  have hW' := hW
  obtain ⟨p, q, hA0, hV, rfl, _, _⟩ := hW
  have hA : DataW.TrodAll enc Tryd.prog W 0 (fun _ => true) true Tryd.f3.params.toList args.toList ds p := hA0
  clear hA0
  rw [Tryd.params3] at hA hval
  obtain ⟨v0, vs0, d0, ds0, p0, q0, hargs0, rfl, rfl, h0, r0⟩ := trodAll_cons hA
  obtain ⟨v1, vs1, d1, ds1, p1, q1, hargs1, rfl, rfl, h1, r1⟩ := trodAll_cons r0
  subst hargs1
  obtain ⟨rfl, rfl, rfl⟩ := trodAll_nil r1
  obtain rfl : args = #[v0, v1] := by cases args; simp_all
  obtain ⟨rfl, rfl⟩ := trodVars_none hV
  obtain ⟨z0, rfl, hz0⟩ := arg_int (hval 0 _ _ rfl rfl) h0
  obtain ⟨l1, hr1, hs1, hn1, hl1⟩ := arg_acts6 (hval 1 _ v1 rfl rfl) h1
  have hL' := tabOk hL
  refine (aacts_any z0 l1 v1 W hL' hz0 hr1 hs1 hn1 hl1).mono fun e W' ⟨he, hbl⟩ => ?_
  exact ⟨_, he, law_post hW' rfl hbl rfl rfl (fun t ht => readT6 t (by rw [Tryd.params3] at ht; exact (show ∀ t ∈ (#[3, 22] : Array TypeId).toList, t ∈ [3, 22] by decide) t ht))⟩

theorem reads (os : Os) {H : Type} (enc : TypeId × Value → H) : ∃ places, DataW.whole enc Tryd.prog ((laidWorld os).forCall (fun _ _ => 0) ⟨#[], #[.int .i64 0, .slice none 0 0], []⟩).memory Tryd.f3.params.toList Rows.arenaActsSpec.vars false (#[.int .i64 0, .slice none 0 0] : Array Value).toList 8 = some ([.lit (.int .i64 0), .nil], [], places) :=
  ⟨[], by kernel_rfl⟩

theorem lifted (os : Os) (started : os.Started) (H : Type) (enc : TypeId × Value → H) (F : Stop.Interp) :
    ReturnsInHanded {} Tryd.checked os 3 .any ((OpenSpec.ofChange Rows.arenaActsSpec).preRow enc Tryd.prog Tryd.f3 Rows.arenaActsRow.domain false Rows.arenaActsRow.laid) (((OpenSpec.ofChange Rows.arenaActsSpec).at F).post enc Tryd.prog Tryd.f3 false true false false) := by
  obtain ⟨places, hx⟩ := reads os enc
  refine returnsInHanded_of_row (C := Tryd.checked) (s := OpenSpec.ofChange Rows.arenaActsSpec) own started (by kernel_rfl) Tryd.func3
    (witness_row_atRef (enc := enc) (C := Tryd.checked) false (laidWorld os) #[.int .i64 0, .slice none 0 0] rfl (by kernel_rfl) (by kernel_rfl) (by kernel_rfl)
      (OpenSpec.preRow_of_cond 8 hx (by kernel_rfl) (fun k hk => by cases hk) (by kernel_rfl) (laid_met os _))) ?_
  intro W base args ds gs before hval hW _ _ _ hL _ _
  exact contract H enc W base args ds gs before hval hW hL

theorem said : Rows.ArenaActsSaid :=
  OpenClaim.holds_of_cond 3 Tryd.f3 rfl rfl rfl rfl rfl rfl rfl ⟨rfl, rfl, rfl, rfl, rfl⟩ rfl rfl rfl rfl rfl (by kernel_rfl) Tryd.func3 (by kernel_rfl)
    (of_decide_eq_true (by kernel_rfl)) (by unfold Func.isWrapper; first | (rw [if_pos (by decide +kernel)]; kernel_rfl) | (rw [if_neg (by decide +kernel)]; exact ⟨rfl, rfl⟩))
    (fun os started H enc _ F => by rw [OpenClaim.pre_eq_preRow]; exact lifted os started H enc F)

/-- No parameter wants a stand-in; the looks are as the card has them. -/
theorem plain (f : FuncId) (fn : Func) (hf : Tryd.pinned.checked.prog.funcNamed "freshet/freshetlaw6.ArenaActs" = some f) (hfn : Tryd.pinned.checked.prog.funcs[f]? = some fn) :
    false = Tryd.pinned.checked.prog.looks [] ∧ ∀ (j : Nat) t, fn.params[j]? = some t → Tryd.pinned.checked.prog.wantsStandIn t = false := by
  obtain rfl : f = 3 := Option.some.inj ((show Tryd.prog.funcNamed "freshet/freshetlaw6.ArenaActs" = some 3 by kernel_rfl).symm.trans hf) |>.symm
  obtain rfl : fn = Tryd.f3 := (Option.some.inj (Tryd.func3.symm.trans hfn)).symm
  refine ⟨by kernel_rfl, fun j t ht => ?_⟩
  rw [Tryd.params3] at ht
  exact standT6 t ((show ∀ t ∈ (#[3, 22] : Array TypeId).toList, t ∈ [3, 22] by decide) t (Array.mem_toList_iff.2 (Array.mem_of_getElem? ht)))

theorem card : Rows.ArenaActsCardSaid :=
  Claim7.holds_tied_plain_at .later [] _ _ _ _ said (fun _ h => by cases h) (by kernel_rfl) (fun _ h => by cases h) arenaActs_row_tie rfl ⟨rfl, rfl⟩ (by kernel_rfl) rfl plain (by kernel_rfl)
end Go.Proofs.YtdbaocphglijbaaDoor.arenaActs
