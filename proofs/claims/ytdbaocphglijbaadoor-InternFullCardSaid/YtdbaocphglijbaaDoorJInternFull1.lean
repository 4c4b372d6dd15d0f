/- names are taken in as long as there is room, those that are there may be used more, and with one gone there is room for one
   Conditions: those of the row and of its card, none beside. -/
import Derived.Test.YtdbaocphglijbaaDoorJB26
import Derived.Test.YtdbaocphglijbaaDoorJB18
/- InternFull: its walk. -/
set_option maxRecDepth 100000
namespace Go.Proofs.YtdbaocphglijbaaDoor
open Go.RowKit Go.Shelf
attribute [local go_sem] Oper.semAt_some
theorem fnm_bytes (k : Nat) (hk : k < 60) : ∃ c1 c2 : UInt8, fnm k = [2, c1, c2, 0] ∧ encB c1 = .int .u8 (97 + (k : Int) / 26) ∧ encB c2 = .int .u8 (97 + (k : Int) % 26) := by
  refine ⟨UInt8.ofNat (97 + k / 26), UInt8.ofNat (97 + k % 26), rfl, ?_, ?_⟩
  all_goals
    unfold encB
    rw [UInt8.toNat_ofNat']
    congr 1
    omega
set_option maxHeartbeats 32000000 in
theorem full_in (u : Nat) (w : World) (hT : TabOk w) (h1 : 1 ≤ u) (h2 : u ≤ 60) :
    Calls Tryd.prog 11 #[.int .i64 (u : Int)] w fun e w' => e = .returned (.bool true) ∧ Below w.heap.size w w' := by
  have hg : 0 < w.heap.size := cell_lt (hT 0 (by decide))
  have HT := Lib.hid hT
  have HG := Lib.hid hg
  clear hT hg
  go_enter Tryd.func11, Tryd.ntmps11
  go_wp2_with fail
  refine (new_x 1024 w (by decide) (by decide) HT.out).mono ?_
  rintro e w2 ⟨A, rfl, hx, b2⟩
  have HX2 := Lib.hid hx
  have HB2 := Lib.hid b2
  clear hx b2
  go_wp2_with fail
  refine (inew_tv A 1024 _ w2 HX2.out).mono ?_
  rintro e w3 ⟨T, F, rfl, hv, b3⟩
  have HS := Lib.hid (show FullSt ⟨A, T, F⟩ (fullE 0) w.heap.size w w3 from ⟨hv, HB2.out.trans (b3.mono HB2.out.size)⟩)
  obtain ⟨n0, HN, HS⟩ : ∃ n0, Hid (w.heap.size ≤ n0) ∧ Hid (FullSt ⟨A, T, F⟩ (fullE 0) n0 w w3) := ⟨_, Lib.hid (Nat.le_refl _), HS⟩
  clear hv b3 HX2 HB2
  go_wp2
  go_loopw [6, 7] (fun first i wr => ∃ k j : Nat, i = .int .i64 (k : Int) ∧ first = .int .i64 (j : Int) ∧ k ≤ u ∧ (k = 0 ∨ j = 1) ∧ Hid (FullSt ⟨A, T, F⟩ (fullE k) n0 w wr)) (fun _ i _ => u + 1 - (intOf i).toNat)
  case atStart => exact ⟨0, 0, rfl, rfl, Nat.zero_le _, .inl rfl, HS⟩
  case round =>
    obtain ⟨k, j, rfl, rfl, hk, hj, HF⟩ := hrel
    clear HS
    by_cases hlt : k < u
    · obtain ⟨c1, c2, hf, e1, e2⟩ := fnm_bytes k (by omega)
      have hcv := run_lit_str [c1, c2] [.int .u8 (97 + (k : Int) / 26), .int .u8 (97 + (k : Int) % 26)] (by rw [List.map_cons, List.map_cons, List.map_nil, e1, e2]) wr
      simp only [List.length_cons, List.length_nil, Nat.zero_add, Nat.reduceAdd] at hcv
      have hs1 := app_bytes [2] [c1, c2]
      have hs2 := app_bytes [2, c1, c2] [0]
      simp only [List.cons_append, List.nil_append] at hs1 hs2
      have HF1 := Lib.hid (FullSt.after HF.out (w2 := wr.alloc (.cells #[.int .u8 (97 + (k : Int) / 26), .int .u8 (97 + (k : Int) % 26)] 5)) ((Below.refl _ _).alloc (Nat.le_refl _) _))
      by_cases h32 : k < 32
      · have HAD := Lib.hid (full_add ⟨A, T, F⟩ k n0 w _ HN.out h32 HF1.out)
        rw [hf] at HAD
        clear hf e1 e2 HF
        go_wp2_with fail
        refine HAD.out.mono ?_
        rintro e w5 ⟨rfl, hs⟩
        have HS5 := Lib.hid hs
        clear hs HAD HF1 hcv hs1 hs2
        have HC := Lib.hid (show Calls Tryd.prog 48 #[.pointer (some ⟨T, 0, none⟩)] w5 (fun e w' => e = .returned (.int .i64 ((k : Int) + 1)) ∧ w5 = w') from full_count ⟨A, T, F⟩ _ (k + 1) n0 w w5 HS5.out (by rw [fullE_len]; omega))
        have hm : min ((k : Int) + 1) 32 = (k : Int) + 1 := by omega
        by_cases hk0 : k = 0
        · subst hk0
          go_wp2_with (go_at_call 48; refine HC.out.mono ?_; rintro e w' ⟨rfl, rfl⟩)
          exact ⟨⟨1, 1, rfl, rfl, by omega, .inr rfl, HS5⟩, by simp [intOf] <;> omega⟩
        · obtain rfl : j = 1 := by omega
          go_wp2_with (go_at_call 48; refine HC.out.mono ?_; rintro e w' ⟨rfl, rfl⟩)
          go_roundw
          case rel => exact ⟨k + 1, 1, by go_num, rfl, by omega, .inr rfl, HS5⟩
          case measure => simp [intOf]; omega
      · have HAD := Lib.hid (full_no ⟨A, T, F⟩ k n0 w _ HN.out (by omega) (by omega) HF1.out)
        obtain rfl : j = 1 := by omega
        rw [hf] at HAD
        clear hf e1 e2 HF
        go_wp2_with fail
        refine HAD.out.mono ?_
        rintro e w5 ⟨rfl, hs⟩
        have HS5 := Lib.hid hs
        clear hs HAD HF1 hcv hs1 hs2
        have HC := Lib.hid (show Calls Tryd.prog 48 #[.pointer (some ⟨T, 0, none⟩)] w5 (fun e w' => e = .returned (.int .i64 32) ∧ w5 = w') from full_count ⟨A, T, F⟩ _ 32 n0 w w5 HS5.out (by rw [fullE_len]; omega))
        have hm : min ((k : Int) + 1) 32 = 32 := by omega
        go_wp2_with (go_at_call 48; refine HC.out.mono ?_; rintro e w' ⟨rfl, rfl⟩)
        go_roundw
        case rel => exact ⟨k + 1, 1, by go_num, rfl, by omega, .inr rfl, HS5⟩
        case measure => simp [intOf]; omega
    · obtain rfl : k = u := by omega
      obtain rfl : j = 1 := by omega
      rw [fullE_head (by omega)] at HF
      go_wp2_with fail
      refine (full_aa ⟨A, T, F⟩ _ n0 w _ HN.out HF.out).mono ?_
      rintro e w5 ⟨rfl, hs⟩
      have HS5 := Lib.hid hs
      clear hs HF
      go_wp2_with (first
        | (go_at_call 47; refine (full_uses ⟨A, T, F⟩ _ n0 w _ HN.out HS5.out).mono ?_; rintro e w6 ⟨rfl, hs⟩; have HS6 := Lib.hid hs; clear hs; refine Hid.out ?_))
      refine Lib.hid ?_
      go_wp2_with fail
      refine (full_drop1 ⟨A, T, F⟩ _ n0 w _ HN.out HS6.out).mono ?_
      rintro e w7 ⟨rfl, hs⟩
      have HS7 := Lib.hid hs
      clear hs HS6 HS5
      go_wp2_with fail
      refine (full_drop2 ⟨A, T, F⟩ _ n0 w _ HN.out HS7.out).mono ?_
      rintro e w8 ⟨rfl, hs⟩
      have HS8 := Lib.hid hs
      clear hs HS7
      go_wp2_with fail
      refine (full_zz ⟨A, T, F⟩ k n0 w _ HN.out h1 h2 HS8.out).mono ?_
      rintro e w9 ⟨i, E, rfl, hs, hl, hc⟩
      have HS9 := Lib.hid hs
      obtain ⟨mm, hmm⟩ : ∃ mm, min k 32 = mm := ⟨_, rfl⟩
      have hm : min (k : Int) 32 = (mm : Int) := by omega
      have hm2 : mm ≤ 32 := by omega
      have HC9 := Lib.hid (full_count ⟨A, T, F⟩ E mm n0 w w9 hs (by rw [hl, hmm]))
      have HU9 := Lib.hid (show Calls Tryd.prog 31 #[.pointer (some ⟨A, 0, none⟩)] w9 (fun e w' => e = .returned (.int .i64 (32 * (mm : Int))) ∧ w9 = w') from full_used ⟨A, T, F⟩ E (32 * mm) n0 w w9 hs (by rw [hc, hmm]))
      clear hs hl hc hmm HS8
      go_wp2_with (first
        | (go_at_call 48; refine HC9.out.mono ?_; rintro e w' ⟨rfl, rfl⟩)
        | (go_at_call 31; refine HU9.out.mono ?_; rintro e w' ⟨rfl, rfl⟩)
        | (go_at_call 34; refine (awake7_any _ (HT.out.below HG.out HS9.out.bel)).mono ?_; rintro e wa ⟨rfl, hb⟩; have HB8 := Lib.hid (HS9.out.bel.trans (hb.mono HS9.out.bel.size)); clear hb))
      go_ret
      exact ⟨rfl, HB8.out⟩
set_option maxHeartbeats 8000000 in
theorem full_any (z : Int) (w : World) (hT : TabOk w) (hz : -9223372036854775808 ≤ z ∧ z ≤ 9223372036854775807) :
    Calls Tryd.prog 11 #[.int .i64 z] w fun e w' => e = .returned (.bool true) ∧ Below w.heap.size w w' := by
  by_cases h : 1 ≤ z ∧ z ≤ 60
  · obtain ⟨u, rfl⟩ : ∃ u : Nat, z = (u : Int) := ⟨z.toNat, by omega⟩
    exact full_in u w hT (by omega) (by omega)
  · have HT := Lib.hid hT
    clear hT
    by_cases h3 : z < 1
    · go_enter Tryd.func11, Tryd.ntmps11
      go_wp2_with (go_at_call 34; refine (awake7_any _ HT.out).mono ?_; rintro e w' ⟨rfl, hb⟩)
      go_ret
      exact ⟨rfl, hb⟩
    · have h4 : 60 < z := by omega
      go_enter Tryd.func11, Tryd.ntmps11
      go_wp2_with (go_at_call 34; refine (awake7_any _ HT.out).mono ?_; rintro e w' ⟨rfl, hb⟩)
      go_ret
      exact ⟨rfl, hb⟩
end Go.Proofs.YtdbaocphglijbaaDoor

/- names are taken in as long as there is room, those that are there may be used more, and with one gone there is room for one
   Conditions: those of the row and of its card, none beside. -/
set_option maxRecDepth 100000
namespace Go.Proofs.YtdbaocphglijbaaDoor.internFull
open Go.ChangeShapes Go.WideShapes Go.ChangeAt Go.RowKit

theorem contract (H : Type) (enc : TypeId × Value → H) (W : World) (base : Nat) (args : Array Value) (ds gs : List (DataW H)) (before : List MemPlace)
    (hval : ∀ (j : Nat) t v, Tryd.f11.params[j]? = some t → args[j]? = some v → Value.okWide Tryd.prog W .any base t v)
    (hW : DataW.Whole enc Tryd.prog Tryd.f11.params.toList Rows.internFullSpec.vars false W args.toList ds gs before) (hL : laidMetH Tryd.prog laidList W) :
    Calls Tryd.prog 11 args W fun e W' => ∃ v, e = .returned v ∧ Rows.internFullSpec.post enc Tryd.prog Tryd.f11 false true false false W args v W' := by
  have hW' := hW
  obtain ⟨p, q, hA0, hV, rfl, _, _⟩ := hW
  have hA : DataW.TrodAll enc Tryd.prog W 0 (fun _ => true) true Tryd.f11.params.toList args.toList ds p := hA0
  clear hA0
  rw [Tryd.params11] at hA hval
  obtain ⟨v0, vs0, d0, ds0, p0, q0, hargs0, rfl, rfl, h0, r0⟩ := trodAll_cons hA
  obtain ⟨rfl, rfl, rfl⟩ := trodAll_nil r0
  obtain rfl : args = #[v0] := by cases args; simp_all
  obtain ⟨rfl, rfl⟩ := trodVars_none hV
  obtain ⟨z0, rfl, hz0⟩ := arg_int (hval 0 _ _ rfl rfl) h0
  have hL' := tabOk hL
  refine (full_any z0 W hL' hz0).mono fun e W' ⟨he, hbl⟩ => ?_
  exact ⟨_, he, law_post hW' rfl hbl rfl rfl (fun t ht => readT7 t (by rw [Tryd.params11] at ht; exact (show ∀ t ∈ (#[3] : Array TypeId).toList, t ∈ [3, 54, 9, 55, 82] by decide) t ht))⟩

theorem reads (os : Os) {H : Type} (enc : TypeId × Value → H) : ∃ places, DataW.whole enc Tryd.prog ((laidWorld os).forCall (fun _ _ => 0) ⟨#[], #[.int .i64 0], []⟩).memory Tryd.f11.params.toList Rows.internFullSpec.vars false (#[.int .i64 0] : Array Value).toList 8 = some ([.lit (.int .i64 0)], [], places) :=
  ⟨[], by kernel_rfl⟩

theorem lifted (os : Os) (started : os.Started) (H : Type) (enc : TypeId × Value → H) (F : Stop.Interp) :
    ReturnsInHanded {} Tryd.checked os 11 .any ((OpenSpec.ofChange Rows.internFullSpec).preRow enc Tryd.prog Tryd.f11 Rows.internFullRow.domain false Rows.internFullRow.laid) (((OpenSpec.ofChange Rows.internFullSpec).at F).post enc Tryd.prog Tryd.f11 false true false false) := by
  obtain ⟨places, hx⟩ := reads os enc
  refine returnsInHanded_of_row (C := Tryd.checked) (s := OpenSpec.ofChange Rows.internFullSpec) own started (by kernel_rfl) Tryd.func11
    (witness_row_atRef (enc := enc) (C := Tryd.checked) false (laidWorld os) #[.int .i64 0] rfl (by kernel_rfl) (by kernel_rfl) (by kernel_rfl)
      (OpenSpec.preRow_of_cond 8 hx (by kernel_rfl) (fun k hk => by cases hk) (by kernel_rfl) (laid_met os _))) ?_
  intro W base args ds gs before hval hW _ _ _ hL _ _
  exact contract H enc W base args ds gs before hval hW hL

theorem said : Rows.InternFullSaid :=
  OpenClaim.holds_of_cond 11 Tryd.f11 rfl rfl rfl rfl rfl rfl rfl ⟨rfl, rfl, rfl, rfl, rfl⟩ rfl rfl rfl rfl rfl (by kernel_rfl) Tryd.func11 (by kernel_rfl)
    (of_decide_eq_true (by kernel_rfl)) (by unfold Func.isWrapper; first | (rw [if_pos (by decide +kernel)]; kernel_rfl) | (rw [if_neg (by decide +kernel)]; exact ⟨rfl, rfl⟩))
    (fun os started H enc _ F => by rw [OpenClaim.pre_eq_preRow]; exact lifted os started H enc F)

/-- No parameter wants a stand-in; the looks are as the card has them. -/
theorem plain (f : FuncId) (fn : Func) (hf : Tryd.pinned.checked.prog.funcNamed "freshet/freshetlaw7.InternFull" = some f) (hfn : Tryd.pinned.checked.prog.funcs[f]? = some fn) :
    false = Tryd.pinned.checked.prog.looks [] ∧ ∀ (j : Nat) t, fn.params[j]? = some t → Tryd.pinned.checked.prog.wantsStandIn t = false := by
  obtain rfl : f = 11 := Option.some.inj ((show Tryd.prog.funcNamed "freshet/freshetlaw7.InternFull" = some 11 by kernel_rfl).symm.trans hf) |>.symm
  obtain rfl : fn = Tryd.f11 := (Option.some.inj (Tryd.func11.symm.trans hfn)).symm
  refine ⟨by kernel_rfl, fun j t ht => ?_⟩
  rw [Tryd.params11] at ht
  exact standT7 t ((show ∀ t ∈ (#[3] : Array TypeId).toList, t ∈ [3, 54, 9, 55, 82] by decide) t (Array.mem_toList_iff.2 (Array.mem_of_getElem? ht)))

theorem card : Rows.InternFullCardSaid :=
  Claim7.holds_tied_plain_at .later [] _ _ _ _ said (fun _ h => by cases h) (by kernel_rfl) (fun _ h => by cases h) internFull_row_tie rfl ⟨rfl, rfl⟩ (by kernel_rfl) rfl plain (by kernel_rfl)
end Go.Proofs.YtdbaocphglijbaaDoor.internFull
