/- what a name would cost is what it costs, and nothing if it is there already
   Conditions: those of the row and of its card, none beside. -/
import Derived.Test.YtdbaocphglijbaaDoorJB26
import Derived.Test.YtdbaocphglijbaaDoorJB18
/- InternCosts: its walk. -/
set_option maxRecDepth 100000
namespace Go.Proofs.YtdbaocphglijbaaDoor
open Go.RowKit Go.Shelf
attribute [local go_sem] Oper.semAt_some
set_option maxHeartbeats 32000000 in
theorem costs7_in (ls : List (List UInt8)) (sv : Value) (w : World) (hT : TabOk w) (hr : ReadS sv ls w) (hlen : ls.length ≤ 9223372036854775807) (hl : ∀ l ∈ ls, l.length ≤ 9223372036854775807) (hs : Nm.encL ls ≤ 1500) :
    Calls Tryd.prog 12 #[sv] w fun e w' => e = .returned (.bool true) ∧ Below w.heap.size w w' := by
  have hg : 0 < w.heap.size := cell_lt (hT 0 (by decide))
  have HSH := Lib.hid (by have z := short_any ls sv 1500 w hr hlen hl (by omega); rw [decide_eq_true (by omega)] at z; exact z)
  have hll : ls.length ≤ 1500 := by have := @Nm.length_le_encL ls; omega
  obtain ⟨ao, cap, rfl, hcell⟩ := hr.form
  have HT := Lib.hid hT
  have HG := Lib.hid hg
  have HC := Lib.hid hcell
  have HSUM := Lib.hid hs
  clear hT hg hcell hr hs hl hlen
  go_enter Tryd.func12, Tryd.ntmps12
  go_wp2_with fail
  refine HSH.out.mono ?_
  rintro e w' ⟨rfl, rfl⟩
  clear HSH
  go_wp2_with fail
  refine (new_x 65536 w (by decide) (by decide) HT.out).mono ?_
  rintro e w2 ⟨A, rfl, hx, b2⟩
  have HX2 := Lib.hid hx
  have HB2 := Lib.hid b2
  clear hx b2
  go_wp2_with fail
  refine (inew_tv A 65536 _ w2 HX2.out).mono ?_
  rintro e w3 ⟨T, F, rfl, hv, b3⟩
  have HS := Lib.hid (show CosSt ⟨A, T, F⟩ [] 0 0 w.heap.size w w3 from ⟨hv, HB2.out.trans (b3.mono HB2.out.size), (fun e he => by cases he), Nat.zero_le _⟩)
  obtain ⟨n0, HN, HS⟩ : ∃ n0, Hid (w.heap.size ≤ n0) ∧ Hid (CosSt ⟨A, T, F⟩ [] 0 0 n0 w w3) := ⟨_, Lib.hid (Nat.le_refl _), HS⟩
  clear hv b3 HX2 HB2
  go_wp2
  go_loopw [6] (fun i wr => ∃ (k : Nat) (E : List Ent), i = .int .i64 (k : Int) ∧ k ≤ ls.length ∧ Hid (CosSt ⟨A, T, F⟩ E k (Nm.encL (ls.take k)) n0 w wr)) (fun i _ => ls.length + 1 - (intOf i).toNat)
  case atStart => exact ⟨0, [], rfl, Nat.zero_le _, by simpa [Nm.encL] using HS⟩
  case round =>
    obtain ⟨k, E, rfl, hk, HF⟩ := hrel
    clear HS
    by_cases hlt : k < ls.length
    · obtain ⟨b, off, rfl, c1⟩ := HC.out k hlt
      have hsum1 := Nm.encL_take_succ hlt
      have hsum2 := Nm.encL_take_drop ls (k + 1)
      have hsum3 := HSUM.out
      obtain ⟨s, hse⟩ : ∃ s, s = ls[k] := ⟨_, rfl⟩
      rw [← hse] at c1 hsum1
      have hs0 : s.length ≤ 1500 ∧ Nm.encL (ls.take k) + (1 + s.length) ≤ 1500 := by omega
      have HCC := Lib.hid (show ∀ W, Below w.heap.size w W → W.cell? ⟨b, off + k, none⟩ = some (.string ⟨s.toArray⟩) from fun W hb => (hb.cell (cell_lt c1)).trans c1)
      have HQ := Lib.hid (show Nm.encL (ls.take (k + 1)) = Nm.encL (ls.take k) + (1 + s.length) from hsum1)
      clear hse hsum1 hsum2 hsum3 c1
      generalize hcc : Nm.encL (ls.take k) = c at HF HQ hs0
      clear hcc
      have d0 := HCC.out _ HF.out.bel
      cases hv : Nm.valid s with
      | false =>
        have hne := cos_ne HF.out hv
        go_wp2_with fail
        refine (cos_nofind ⟨A, T, F⟩ E k c n0 s w _ HN.out hs0.1 HF.out hne).mono ?_
        rintro e w4 ⟨rfl, h4⟩
        have H4 := Lib.hid h4
        have d4 := HCC.out _ h4.bel
        clear h4
        have hu1 := cos_used ⟨A, T, F⟩ E k c n0 w w4 H4.out
        have hcb := H4.out.cost
        obtain ⟨cu, hcu⟩ : ∃ cu, costE E = cu := ⟨_, rfl⟩
        rw [hcu] at hu1 hcb
        have HU1 := Lib.hid hu1
        have HRV := Lib.hid (by have z := rvalid_any s w4 (by omega); rw [hv] at z; exact z)
        have HCB := Lib.hid (fun v => icost_bad v s w4 hv (by omega))
        have HAB := Lib.hid (fun v => add_bad v s w4 hv (by omega))
        clear hu1 hne hv HF
        go_wp2_with fail
        refine (HCB.out _).mono ?_
        rintro e w' ⟨rfl, rfl⟩
        go_wp2_with fail
        refine HU1.out.mono ?_
        rintro e w' ⟨rfl, rfl⟩
        go_wp2_with fail
        refine (HAB.out _).mono ?_
        rintro e w' ⟨rfl, rfl⟩
        go_wp2_with fail
        refine HRV.out.mono ?_
        rintro e w5 ⟨rfl, b5⟩
        have H5 := Lib.hid (H4.out.after b5)
        clear b5 H4
        have HU5 := Lib.hid (show Calls Tryd.prog 31 #[.pointer (some ⟨A, 0, none⟩)] w5 (fun e w' => e = .returned (.int .i64 (cu : Int)) ∧ w5 = w') from by have z := cos_used ⟨A, T, F⟩ E k c n0 w w5 H5.out; rw [hcu] at z; exact z)
        clear hcu
        go_wp2_with (go_at_call 31; refine HU5.out.mono ?_; rintro e w' ⟨rfl, rfl⟩)
        go_roundw
        case rel => exact ⟨k + 1, E, by go_num, by omega, Lib.hid (H5.out.mono (by omega) (by rw [HQ.out]; omega))⟩
        case measure => simp [intOf]; omega
      | true =>
        by_cases hin : ∃ y ∈ E, Nm.fold s = y.name
        · obtain ⟨y, hy, hz⟩ := hin
          have HFI := Lib.hid (cos_find ⟨A, T, F⟩ E y k c n0 s w _ HN.out hs0.1 HF.out hy hz)
          have HCO := Lib.hid (fun W h => cos_cost0 ⟨A, T, F⟩ E y k c n0 s w W HN.out hs0.1 hv h hy hz)
          have HAD := Lib.hid (fun W h => cos_use ⟨A, T, F⟩ E y k c n0 s w W HN.out hs0.1 (by omega) hv h hy hz)
          have hcb := HF.out.cost
          obtain ⟨cu, hcu⟩ : ∃ cu, costE E = cu := ⟨_, rfl⟩
          rw [hcu] at hcb
          have HCU := Lib.hid hcu
          have HRV := Lib.hid (fun W => (by have z := rvalid_any s W (by omega); rw [hv] at z; exact z))
          have HRF := Lib.hid (fun W => rfold_any s W (by omega))
          have HVF := Lib.hid (valid_fold hv)
          have HFF := Lib.hid (fold_fold hv)
          have HFL : Hid ((Nm.fold s).length = s.length) := Lib.hid (fold_len s)
          clear hcu hy hz HF hv
          go_wp2_with fail
          refine HFI.out.mono ?_
          rintro e w4 ⟨rfl, h4⟩
          have H4 := Lib.hid h4
          have d4 := HCC.out _ h4.bel
          clear h4 HFI
          go_wp2_with fail
          refine (HCO.out _ H4.out).mono ?_
          rintro e w5 ⟨rfl, h5⟩
          have H5 := Lib.hid h5
          have d5 := HCC.out _ h5.bel
          have HU5 := Lib.hid (show Calls Tryd.prog 31 #[.pointer (some ⟨A, 0, none⟩)] w5 (fun e w' => e = .returned (.int .i64 (cu : Int)) ∧ w5 = w') from by have z := cos_used ⟨A, T, F⟩ E k c n0 w w5 h5; rw [HCU.out] at z; exact z)
          clear h5 HCO H4 d4
          go_wp2_with fail
          refine HU5.out.mono ?_
          rintro e w' ⟨rfl, rfl⟩
          go_wp2_with fail
          refine (HAD.out _ H5.out).mono ?_
          rintro e w6 ⟨i, M, y', rfl, h6, hM, hy', hn'⟩
          have H6 := Lib.hid h6
          have d6 := HCC.out _ h6.bel
          clear h6 HAD H5 d5 HU5
          go_wp2_with fail
          refine (HRV.out _).mono ?_
          rintro e w7 ⟨rfl, b7⟩
          have H7 := Lib.hid (H6.out.after b7)
          have d7 := HCC.out _ H7.out.bel
          have HU7 := Lib.hid (show Calls Tryd.prog 31 #[.pointer (some ⟨A, 0, none⟩)] w7 (fun e w' => e = .returned (.int .i64 (cu : Int)) ∧ w7 = w') from by have z := cos_used ⟨A, T, F⟩ M (k + 1) c n0 w w7 H7.out; rw [hM, HCU.out] at z; exact z)
          have HCF := Lib.hid (fun W h => cos_cost0 ⟨A, T, F⟩ M y' (k + 1) c n0 (Nm.fold s) w W HN.out (by rw [HFL.out]; omega) HVF.out h hy' (by rw [HFF.out, hn']))
          clear b7 H6 d6 hM hy' hn'
          go_wp2_with (first
            | (go_at_call 31; refine HU7.out.mono ?_; rintro e w' ⟨rfl, rfl⟩)
            | (go_at_call 46; refine (HRF.out _).mono ?_; rintro e w8 ⟨rfl, b8⟩; have H8 := Lib.hid (H7.out.after b8); clear b8)
            | (go_at_call 43; refine (HCF.out _ H8.out).mono ?_; rintro e w9 ⟨rfl, h9⟩; have H9 := Lib.hid h9; clear h9))
          go_roundw
          case rel => exact ⟨k + 1, M, by go_num, by omega, Lib.hid (H9.out.mono (by omega) (by rw [HQ.out]; omega))⟩
          case measure => simp [intOf]; omega
        · have hne : ∀ e ∈ E, e.name ≠ Nm.fold s := fun e he h => hin ⟨e, he, h.symm⟩
          have hle := valid_le hv
          obtain ⟨cc, hcc⟩ : ∃ cc, Ar.cost (s.length + 8) = cc := ⟨_, rfl⟩
          have hcc1 : 1 ≤ cc ∧ cc ≤ 17 * (1 + s.length) := by
            have h1 := cost_17 s.length (valid_pos hv) (by omega)
            have h2 := Ar.cost_ge (s.length + 8) (by omega)
            omega
          have HFI := Lib.hid (cos_nofind ⟨A, T, F⟩ E k c n0 s w _ HN.out hs0.1 HF.out hne)
          have HCO := Lib.hid (fun W h => cos_cost ⟨A, T, F⟩ E k c n0 cc s w W HN.out hs0.1 hv h hne hcc)
          have HAD := Lib.hid (fun W h => cos_new ⟨A, T, F⟩ E k c n0 s cc w W HN.out hle hs0.2 hv h hne hcc)
          have HAC := Lib.hid (show ∀ W, Calls Tryd.prog 30 #[.int .i64 ((s.length : Int) + 8)] W fun e w' => e = .returned (.int .i64 (cc : Int)) ∧ W = w' from fun W => by
            have h := cost_call s.length ((s.length : Int) + 8) W (by omega)
            rw [costI_of _ hs0.1, hcc] at h
            exact h)
          have hcb := HF.out.cost
          obtain ⟨cu, hcu⟩ : ∃ cu, costE E = cu := ⟨_, rfl⟩
          rw [hcu] at hcb
          have HCU := Lib.hid hcu
          have HRV := Lib.hid (fun W => (by have z := rvalid_any s W (by omega); rw [hv] at z; exact z))
          have HRF := Lib.hid (fun W => rfold_any s W (by omega))
          have HVF := Lib.hid (valid_fold hv)
          have HFF := Lib.hid (fold_fold hv)
          have HFL : Hid ((Nm.fold s).length = s.length) := Lib.hid (fold_len s)
          have hc0 : ((cc : Int) == 0) = false := by rw [beq_eq_false_iff_ne]; omega
          have hc1 : 0 < cc := by omega
          clear hcu hne HF hv hcc hin hle
          go_wp2_with fail
          refine HFI.out.mono ?_
          rintro e w4 ⟨rfl, h4⟩
          have H4 := Lib.hid h4
          have d4 := HCC.out _ h4.bel
          clear h4 HFI
          go_wp2_with fail
          refine (HCO.out _ H4.out).mono ?_
          rintro e w5 ⟨rfl, h5⟩
          have H5 := Lib.hid h5
          have d5 := HCC.out _ h5.bel
          have HU5 := Lib.hid (show Calls Tryd.prog 31 #[.pointer (some ⟨A, 0, none⟩)] w5 (fun e w' => e = .returned (.int .i64 (cu : Int)) ∧ w5 = w') from by have z := cos_used ⟨A, T, F⟩ E k c n0 w w5 h5; rw [HCU.out] at z; exact z)
          clear h5 HCO H4 d4
          go_wp2_with fail
          refine HU5.out.mono ?_
          rintro e w' ⟨rfl, rfl⟩
          go_wp2_with fail
          refine (HAD.out _ H5.out).mono ?_
          rintro e w6 ⟨i, M, y', rfl, h6, hM, hy', hn'⟩
          have H6 := Lib.hid h6
          have d6 := HCC.out _ h6.bel
          clear h6 HAD H5 d5 HU5
          go_wp2_with fail
          refine (HRV.out _).mono ?_
          rintro e w7 ⟨rfl, b7⟩
          have H7 := Lib.hid (H6.out.after b7)
          have d7 := HCC.out _ H7.out.bel
          have HU7 := Lib.hid (show Calls Tryd.prog 31 #[.pointer (some ⟨A, 0, none⟩)] w7 (fun e w' => e = .returned (.int .i64 ((cu : Int) + (cc : Int))) ∧ w7 = w') from by have z := cos_used ⟨A, T, F⟩ M (k + 1) (c + (1 + s.length)) n0 w w7 H7.out; rw [hM, HCU.out] at z; exact z)
          have HCF := Lib.hid (fun W h => cos_cost0 ⟨A, T, F⟩ M y' (k + 1) (c + (1 + s.length)) n0 (Nm.fold s) w W HN.out (by rw [HFL.out]; omega) HVF.out h hy' (by rw [HFF.out, hn']))
          clear b7 H6 d6 hM hy' hn'
          go_wp2_with (first
            | (go_at_call 31; refine HU7.out.mono ?_; rintro e w' ⟨rfl, rfl⟩)
            | (go_at_call 30; refine (HAC.out _).mono ?_; rintro e w' ⟨rfl, rfl⟩)
            | (go_at_call 46; refine (HRF.out _).mono ?_; rintro e w8 ⟨rfl, b8⟩; have H8 := Lib.hid (H7.out.after b8); clear b8)
            | (go_at_call 43; refine (HCF.out _ H8.out).mono ?_; rintro e w9 ⟨rfl, h9⟩; have H9 := Lib.hid h9; clear h9))
          go_roundw
          case rel => exact ⟨k + 1, M, by go_num, by omega, Lib.hid (H9.out.mono (by omega) (by rw [HQ.out]; omega))⟩
          case measure => simp [intOf]; omega
    · obtain rfl : k = ls.length := by omega
      go_wp2_with (go_at_call 34; refine (awake7_any _ (HT.out.below HG.out HF.out.bel)).mono ?_; rintro e wa ⟨rfl, hb⟩; have HB8 := Lib.hid (HF.out.bel.trans (hb.mono HF.out.bel.size)); clear hb)
      go_ret
      exact ⟨rfl, HB8.out⟩
set_option maxHeartbeats 8000000 in
theorem costs7_any (ls : List (List UInt8)) (sv : Value) (w : World) (hT : TabOk w) (hr : ReadS sv ls w) (hlen : ls.length ≤ 9223372036854775807) (hl : ∀ l ∈ ls, l.length ≤ 9223372036854775807) :
    Calls Tryd.prog 12 #[sv] w fun e w' => e = .returned (.bool true) ∧ Below w.heap.size w w' := by
  by_cases h : Nm.encL ls ≤ 1500
  · exact costs7_in ls sv w hT hr hlen hl h
  · have HSH := Lib.hid (by have z := short_any ls sv 1500 w hr hlen hl (by omega); rw [decide_eq_false (by omega)] at z; exact z)
    have HT := Lib.hid hT
    clear hT hr hl hlen h
    go_enter Tryd.func12, Tryd.ntmps12
    go_wp2_with fail
    refine HSH.out.mono ?_
    rintro e w' ⟨rfl, rfl⟩
    go_wp2_with (go_at_call 34; refine (awake7_any _ HT.out).mono ?_; rintro e w' ⟨rfl, hb⟩)
    go_ret
    exact ⟨rfl, hb⟩
end Go.Proofs.YtdbaocphglijbaaDoor

/- what a name would cost is what it costs, and nothing if it is there already
   Conditions: those of the row and of its card, none beside. -/
set_option maxRecDepth 100000
namespace Go.Proofs.YtdbaocphglijbaaDoor.internCosts
open Go.ChangeShapes Go.WideShapes Go.ChangeAt Go.RowKit

theorem contract (H : Type) (enc : TypeId × Value → H) (W : World) (base : Nat) (args : Array Value) (ds gs : List (DataW H)) (before : List MemPlace)
    (hval : ∀ (j : Nat) t v, Tryd.f12.params[j]? = some t → args[j]? = some v → Value.okWide Tryd.prog W .any base t v)
    (hW : DataW.Whole enc Tryd.prog Tryd.f12.params.toList Rows.internCostsSpec.vars false W args.toList ds gs before) (hL : laidMetH Tryd.prog laidList W) :
    Calls Tryd.prog 12 args W fun e W' => ∃ v, e = .returned v ∧ Rows.internCostsSpec.post enc Tryd.prog Tryd.f12 false true false false W args v W' := by
  have hW' := hW
  obtain ⟨p, q, hA0, hV, rfl, _, _⟩ := hW
  have hA : DataW.TrodAll enc Tryd.prog W 0 (fun _ => true) true Tryd.f12.params.toList args.toList ds p := hA0
  clear hA0
  rw [Tryd.params12] at hA hval
  obtain ⟨v0, vs0, d0, ds0, p0, q0, hargs0, rfl, rfl, h0, r0⟩ := trodAll_cons hA
  obtain ⟨rfl, rfl, rfl⟩ := trodAll_nil r0
  obtain rfl : args = #[v0] := by cases args; simp_all
  obtain ⟨rfl, rfl⟩ := trodVars_none hV
  obtain ⟨L0, hr0, hb0, hl0⟩ := arg_strings (hval 0 _ v0 rfl rfl) h0
  have hL' := tabOk hL
  refine (costs7_any L0 v0 W hL' hr0 (by rw [maxLen_eq] at hl0; exact hl0) (fun l hl => by have z := hb0 l hl; rw [maxLen_eq] at z; exact z)).mono fun e W' ⟨he, hbl⟩ => ?_
  exact ⟨_, he, law_post hW' rfl hbl rfl rfl (fun t ht => readT7 t (by rw [Tryd.params12] at ht; exact (show ∀ t ∈ (#[82] : Array TypeId).toList, t ∈ [3, 54, 9, 55, 82] by decide) t ht))⟩

theorem reads (os : Os) {H : Type} (enc : TypeId × Value → H) : ∃ places, DataW.whole enc Tryd.prog ((laidWorld os).forCall (fun _ _ => 0) ⟨#[], #[.slice none 0 0], []⟩).memory Tryd.f12.params.toList Rows.internCostsSpec.vars false (#[.slice none 0 0] : Array Value).toList 8 = some ([.nil], [], places) :=
  ⟨[], by kernel_rfl⟩

theorem lifted (os : Os) (started : os.Started) (H : Type) (enc : TypeId × Value → H) (F : Stop.Interp) :
    ReturnsInHanded {} Tryd.checked os 12 .any ((OpenSpec.ofChange Rows.internCostsSpec).preRow enc Tryd.prog Tryd.f12 Rows.internCostsRow.domain false Rows.internCostsRow.laid) (((OpenSpec.ofChange Rows.internCostsSpec).at F).post enc Tryd.prog Tryd.f12 false true false false) := by
  obtain ⟨places, hx⟩ := reads os enc
  refine returnsInHanded_of_row (C := Tryd.checked) (s := OpenSpec.ofChange Rows.internCostsSpec) own started (by kernel_rfl) Tryd.func12
    (witness_row_atRef (enc := enc) (C := Tryd.checked) false (laidWorld os) #[.slice none 0 0] rfl (by kernel_rfl) (by kernel_rfl) (by kernel_rfl)
      (OpenSpec.preRow_of_cond 8 hx (by kernel_rfl) (fun k hk => by cases hk) (by kernel_rfl) (laid_met os _))) ?_
  intro W base args ds gs before hval hW _ _ _ hL _ _
  exact contract H enc W base args ds gs before hval hW hL

theorem said : Rows.InternCostsSaid :=
  OpenClaim.holds_of_cond 12 Tryd.f12 rfl rfl rfl rfl rfl rfl rfl ⟨rfl, rfl, rfl, rfl, rfl⟩ rfl rfl rfl rfl rfl (by kernel_rfl) Tryd.func12 (by kernel_rfl)
    (of_decide_eq_true (by kernel_rfl)) (by unfold Func.isWrapper; first | (rw [if_pos (by decide +kernel)]; kernel_rfl) | (rw [if_neg (by decide +kernel)]; exact ⟨rfl, rfl⟩))
    (fun os started H enc _ F => by rw [OpenClaim.pre_eq_preRow]; exact lifted os started H enc F)

/-- No parameter wants a stand-in; the looks are as the card has them. -/
theorem plain (f : FuncId) (fn : Func) (hf : Tryd.pinned.checked.prog.funcNamed "freshet/freshetlaw7.InternCosts" = some f) (hfn : Tryd.pinned.checked.prog.funcs[f]? = some fn) :
    false = Tryd.pinned.checked.prog.looks [] ∧ ∀ (j : Nat) t, fn.params[j]? = some t → Tryd.pinned.checked.prog.wantsStandIn t = false := by
  obtain rfl : f = 12 := Option.some.inj ((show Tryd.prog.funcNamed "freshet/freshetlaw7.InternCosts" = some 12 by kernel_rfl).symm.trans hf) |>.symm
  obtain rfl : fn = Tryd.f12 := (Option.some.inj (Tryd.func12.symm.trans hfn)).symm
  refine ⟨by kernel_rfl, fun j t ht => ?_⟩
  rw [Tryd.params12] at ht
  exact standT7 t ((show ∀ t ∈ (#[82] : Array TypeId).toList, t ∈ [3, 54, 9, 55, 82] by decide) t (Array.mem_toList_iff.2 (Array.mem_of_getElem? ht)))

theorem card : Rows.InternCostsCardSaid :=
  Claim7.holds_tied_plain_at .later [] _ _ _ _ said (fun _ h => by cases h) (by kernel_rfl) (fun _ h => by cases h) internCosts_row_tie rfl ⟨rfl, rfl⟩ (by kernel_rfl) rfl plain (by kernel_rfl)
end Go.Proofs.YtdbaocphglijbaaDoor.internCosts
