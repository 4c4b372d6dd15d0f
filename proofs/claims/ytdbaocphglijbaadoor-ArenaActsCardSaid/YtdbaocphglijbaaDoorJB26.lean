/- 5 texts put together: Ocw, Fum, Csl, Short, RdI. -/
import Derived.Test.YtdbaocphglijbaaDoorJB17
import Derived.Test.YtdbaocphglijbaaDoorJB25
/- InternOnce: its walk. -/
set_option maxRecDepth 100000
namespace Go.Proofs.YtdbaocphglijbaaDoor
open Go.RowKit Go.Shelf
attribute [local go_sem] Oper.semAt_some
namespace Nm
theorem small_small (c : UInt8) : small (small c) = small c := by
  by_cases h : 65 ≤ c.toNat ∧ c.toNat ≤ 90
  · have := small_yes h.1 h.2
    exact small_no (by omega)
  · rw [small_no h, small_no h]
theorem folded_folded (n : List UInt8) : folded (folded n) = folded n := by simp [folded, small_small]
theorem valid_folded {n : List UInt8} (h : valid n = true) : valid (folded n) = true := by
  obtain ⟨_, e, g, l⟩ := labs_of_valid h
  unfold valid
  rw [e, folded_made g, labs_iff.2 ⟨rfl, good_folded g, by rw [← folded_made g, ← e, folded_length]; exact l⟩]
  rfl
theorem fold_folded {n : List UInt8} (h : valid n = true) : fold (folded n) = folded n := by
  unfold fold; rw [if_pos (valid_folded h), folded_folded]
end Nm
theorem OnceSt.after {t : TB} {l : List UInt8} {k n0 : Nat} {w w1 w2 : World} (h : OnceSt t l k n0 w w1) (hb : Below w1.heap.size w1 w2) : OnceSt t l k n0 w w2 := ⟨(h.tv.after hb).1, h.bel.trans (hb.mono h.bel.size)⟩
set_option maxHeartbeats 32000000 in
theorem once_in (l : List UInt8) (u : Nat) (w : World) (hT : TabOk w) (hl : l.length ≤ 255) (hv : Nm.valid l = true) (h1 : 1 ≤ u) (h2 : u ≤ 30) :
    Calls Tryd.prog 10 #[.string ⟨l.toArray⟩, .int .i64 (u : Int)] w fun e w' => e = .returned (.bool true) ∧ Below w.heap.size w w' := by
  have hg : 0 < w.heap.size := cell_lt (hT 0 (by decide))
  have HV := Lib.hid (by have k := rvalid_any l w (by omega); rw [hv] at k; exact k)
  have hf : Nm.fold l = Nm.folded l := by unfold Nm.fold; rw [if_pos hv]
  have hfl : (Nm.fold l).length = l.length := by rw [hf]; exact Nm.folded_length l
  have hcc : Ar.cost (l.length + 8) ≤ 4096 := by unfold Ar.cost; (repeat' split) <;> omega
  have hvf : Nm.valid (Nm.fold l) = true := by rw [hf]; exact Nm.valid_folded hv
  have hff : Nm.fold (Nm.fold l) = Nm.fold l := by rw [hf]; exact Nm.fold_folded hv
  have HADD := Lib.hid (fun (t : TB) (k n0 : Nat) (W : World) (hn : w.heap.size ≤ n0) (hk : k < 30) (h : OnceSt t l k n0 w W) => once_add t l l k n0 w W hn hl hfl hk hl hv rfl hcc h)
  have HADF := Lib.hid (fun (t : TB) (k n0 : Nat) (W : World) (hn : w.heap.size ≤ n0) (hk : k < 30) (h : OnceSt t l k n0 w W) => once_add t l (Nm.fold l) k n0 w W hn hl hfl hk (by rw [hfl]; exact hl) hvf hff hcc h)
  obtain ⟨cc, hcc2⟩ : ∃ cc, Ar.cost (l.length + 8) = cc := ⟨_, rfl⟩
  have HCO := Lib.hid (show ∀ W, Calls Tryd.prog 30 #[.int .i64 ((l.length : Int) + 8)] W fun e w' => e = .returned (.int .i64 (cc : Int)) ∧ W = w' from fun W => by
    have h := cost_call l.length ((l.length : Int) + 8) W (by omega)
    have e1 : Ar.costI ((l.length + 8 : Nat) : Int) = cc := by
      unfold Ar.costI
      rw [if_pos (by omega), ← hcc2]
      rfl
    rw [e1] at h
    exact h)
  have HUS := Lib.hid (fun (t : TB) (k n0 : Nat) (W : World) (hk : 0 < k) (h : OnceSt t l k n0 w W) => by have z := once_used t l k n0 w W hfl hk h; rw [hcc2] at z; exact z)
  have HUE := Lib.hid (fun (t : TB) (k n0 : Nat) (W : World) (hn : w.heap.size ≤ n0) (h : OnceSt t l (k + 1) n0 w W) => by have z := once_uses t l (k + 1) n0 w W hn (by omega) h; rw [show ((k + 1 : Nat) : Int) = (k : Int) + 1 by norm_cast] at z; exact z)
  have HFI := Lib.hid (fun (t : TB) (n0 : Nat) (W : World) (hn : w.heap.size ≤ n0) (h : OnceSt t l 0 n0 w W) => once_find0 t l n0 w W hn hl hfl h)
  have HFOL := Lib.hid (fun W => rfold_any l W (by omega))
  have HT := Lib.hid hT
  have HG := Lib.hid hg
  clear hT hg hf hfl hcc hvf hff hcc2 hv
  go_enter Tryd.func10, Tryd.ntmps10
  go_wp2_with fail
  refine HV.out.mono ?_
  rintro e w1 ⟨rfl, b1⟩
  have HB1 := Lib.hid b1
  have HT1 := Lib.hid (HT.out.below HG.out b1)
  clear b1 HV
  go_wp2_with fail
  refine (new_x 4096 w1 (by decide) (by decide) HT1.out).mono ?_
  rintro e w2 ⟨A, rfl, hx, b2⟩
  have HX2 := Lib.hid hx
  have HB2 := Lib.hid b2
  clear hx b2
  go_wp2_with fail
  refine (inew_tv A 4096 _ w2 HX2.out).mono ?_
  rintro e w3 ⟨T, F, rfl, hv, b3⟩
  have HS := Lib.hid (show OnceSt ⟨A, T, F⟩ l 0 w1.heap.size w w3 from ⟨hv, HB1.out.trans ((HB2.out.trans (b3.mono HB2.out.size)).mono HB1.out.size)⟩)
  have HN := Lib.hid HB1.out.size
  generalize w1.heap.size = n0 at HS HN HX2 HB2
  clear hv b3 HX2 HB2 HB1 HT1
  go_wp2
  go_loopw [8, 9] (fun id i wr => ∃ k j : Nat, i = .int .i64 (k : Int) ∧ id = .int .i64 (j : Int) ∧ k ≤ u ∧ (k = 0 ∨ j = 1) ∧ Hid (OnceSt ⟨A, T, F⟩ l k n0 w wr)) (fun _ i _ => u + 1 - (intOf i).toNat)
  case atStart => exact ⟨0, 0, rfl, rfl, Nat.zero_le _, .inl rfl, HS⟩
  case round =>
    obtain ⟨k, j, rfl, rfl, hk, hj, HF⟩ := hrel
    clear HS
    by_cases hlt : k < u
    · by_cases hk0 : k = 0
      · subst hk0
        go_wp2_with fail
        refine (HADD.out ⟨A, T, F⟩ 0 n0 _ HN.out (by omega) HF.out).mono ?_
        rintro e w5 ⟨rfl, hs⟩
        have HS5 := Lib.hid hs
        clear hs
        go_wp2_with fail
        refine (HUE.out ⟨A, T, F⟩ 0 n0 w5 HN.out HS5.out).mono ?_
        rintro e w6 ⟨rfl, hs⟩
        have HS6 := Lib.hid hs
        clear hs
        go_wp2_with (first
          | (go_at_call 48; refine (once_count ⟨A, T, F⟩ l 1 n0 w _ (by omega) HS6.out).mono ?_; rintro e w' ⟨rfl, rfl⟩)
          | (go_at_call 31; refine (HUS.out ⟨A, T, F⟩ 1 n0 _ (by omega) HS6.out).mono ?_; rintro e w' ⟨rfl, rfl⟩)
          | (go_at_call 30; refine (HCO.out _).mono ?_; rintro e w' ⟨rfl, rfl⟩))
        go_roundw
        case rel => exact ⟨1, 1, by go_num, rfl, by omega, .inr rfl, HS6⟩
        case measure => simp [intOf] <;> omega
      · obtain rfl : j = 1 := by omega
        by_cases hod : k % 2 = 1
        · have hrm : Int.tmod (k : Int) 2 = 1 := by rw [Int.tmod_eq_emod_of_nonneg (by omega)]; omega
          go_wp2_with fail
          refine (HFOL.out _).mono ?_
          rintro e w4 ⟨rfl, b4⟩
          have HF := Lib.hid (OnceSt.after HF.out b4)
          clear b4
          go_wp2_with fail
          refine (HADF.out ⟨A, T, F⟩ k n0 _ HN.out (by omega) HF.out).mono ?_
          rintro e w5 ⟨rfl, hs⟩
          have HS5 := Lib.hid hs
          clear hs
          go_wp2_with fail
          refine (HUE.out ⟨A, T, F⟩ k n0 w5 HN.out HS5.out).mono ?_
          rintro e w6 ⟨rfl, hs⟩
          have HS6 := Lib.hid hs
          clear hs
          go_wp2_with (first
            | (go_at_call 48; refine (once_count ⟨A, T, F⟩ l (k + 1) n0 w _ (by omega) HS6.out).mono ?_; rintro e w' ⟨rfl, rfl⟩)
            | (go_at_call 31; refine (HUS.out ⟨A, T, F⟩ (k + 1) n0 _ (by omega) HS6.out).mono ?_; rintro e w' ⟨rfl, rfl⟩)
            | (go_at_call 30; refine (HCO.out _).mono ?_; rintro e w' ⟨rfl, rfl⟩))
          go_roundw
          case rel => exact ⟨k + 1, 1, by go_num, rfl, by omega, .inr rfl, HS6⟩
          case measure => simp [intOf]; omega
        · have hrm : Int.tmod (k : Int) 2 = 0 := by rw [Int.tmod_eq_emod_of_nonneg (by omega)]; omega
          go_wp2_with fail
          refine (HADD.out ⟨A, T, F⟩ k n0 _ HN.out (by omega) HF.out).mono ?_
          rintro e w5 ⟨rfl, hs⟩
          have HS5 := Lib.hid hs
          clear hs
          go_wp2_with fail
          refine (HUE.out ⟨A, T, F⟩ k n0 w5 HN.out HS5.out).mono ?_
          rintro e w6 ⟨rfl, hs⟩
          have HS6 := Lib.hid hs
          clear hs
          go_wp2_with (first
            | (go_at_call 48; refine (once_count ⟨A, T, F⟩ l (k + 1) n0 w _ (by omega) HS6.out).mono ?_; rintro e w' ⟨rfl, rfl⟩)
            | (go_at_call 31; refine (HUS.out ⟨A, T, F⟩ (k + 1) n0 _ (by omega) HS6.out).mono ?_; rintro e w' ⟨rfl, rfl⟩)
            | (go_at_call 30; refine (HCO.out _).mono ?_; rintro e w' ⟨rfl, rfl⟩))
          go_roundw
          case rel => exact ⟨k + 1, 1, by go_num, rfl, by omega, .inr rfl, HS6⟩
          case measure => simp [intOf]; omega
    · obtain rfl : k = u := by omega
      obtain rfl : j = 1 := by omega
      go_wp2
      go_loopw [13] (fun i wr => ∃ q : Nat, i = .int .i64 (q : Int) ∧ q ≤ k ∧ Hid (OnceSt ⟨A, T, F⟩ l (k - q) n0 w wr)) (fun i _ => k + 1 - (intOf i).toNat)
      case atStart => exact ⟨0, rfl, Nat.zero_le _, HF⟩
      case round =>
        obtain ⟨q, rfl, hq, HF2⟩ := hrel
        clear HF
        by_cases hlt2 : q < k
        · obtain ⟨m, hm⟩ : ∃ m, k - q = m + 1 := ⟨k - q - 1, by omega⟩
          rw [hm] at HF2
          have HM := Lib.hid hm
          have HUE2 := Lib.hid (show Calls Tryd.prog 47 #[.pointer (some ⟨T, 0, none⟩), .int .i64 1] _ (fun e w' => e = .returned (.int .i64 ((k : Int) - (q : Int))) ∧ OnceSt ⟨A, T, F⟩ l (m + 1) n0 w w') from by have z := HUE.out ⟨A, T, F⟩ m n0 _ HN.out HF2.out; rw [show (m : Int) + 1 = (k : Int) - (q : Int) by omega] at z; exact z)
          clear hm
          go_wp2_with fail
          refine HUE2.out.mono ?_
          rintro e w6 ⟨rfl, hs⟩
          have HS6 := Lib.hid hs
          clear hs HUE2
          go_wp2_with fail
          refine (once_drop ⟨A, T, F⟩ l m n0 w w6 HN.out HS6.out).mono ?_
          rintro e w7 ⟨rfl, hs⟩
          have HS7 := Lib.hid (show OnceSt ⟨A, T, F⟩ l (k - (q + 1)) n0 w w7 by rw [show k - (q + 1) = m by have := HM.out; omega]; exact hs)
          clear hs
          go_wp2
          go_roundw
          case rel => exact ⟨q + 1, by go_num, by omega, HS7⟩
          case measure => simp [intOf]; omega
        · obtain rfl : q = k := by omega
          rw [Nat.sub_self] at HF2
          go_wp2_with fail
          refine (HFI.out ⟨A, T, F⟩ n0 _ HN.out HF2.out).mono ?_
          rintro e w6 ⟨rfl, hs⟩
          have HS6 := Lib.hid hs
          clear hs
          go_wp2_with (first
            | (go_at_call 48; refine (once_count0 ⟨A, T, F⟩ l n0 w _ HS6.out).mono ?_; rintro e w' ⟨rfl, rfl⟩)
            | (go_at_call 31; refine (once_used0 ⟨A, T, F⟩ l n0 w _ HS6.out).mono ?_; rintro e w' ⟨rfl, rfl⟩)
            | (go_at_call 38; refine (once_drop0 ⟨A, T, F⟩ l n0 w _ HN.out HS6.out).mono ?_; rintro e w7 ⟨rfl, hs⟩; have HS7 := Lib.hid hs; clear hs)
            | (go_at_call 34; refine (awake7_any _ (HT.out.below HG.out HS7.out.bel)).mono ?_; rintro e w8 ⟨rfl, hb⟩; have HB8 := Lib.hid (HS7.out.bel.trans (hb.mono HS7.out.bel.size)); clear hb))
          go_ret
          exact ⟨rfl, HB8.out⟩
set_option maxHeartbeats 8000000 in
theorem once_any (l : List UInt8) (z : Int) (w : World) (hT : TabOk w) (hl : l.length ≤ 9223372036854775807) (hz : -9223372036854775808 ≤ z ∧ z ≤ 9223372036854775807) :
    Calls Tryd.prog 10 #[.string ⟨l.toArray⟩, .int .i64 z] w fun e w' => e = .returned (.bool true) ∧ Below w.heap.size w w' := by
  have hg : 0 < w.heap.size := cell_lt (hT 0 (by decide))
  by_cases h1 : 255 < l.length
  · have HT := Lib.hid hT
    clear hT hg
    go_enter Tryd.func10, Tryd.ntmps10
    go_wp2_with (go_at_call 34; refine (awake7_any _ HT.out).mono ?_; rintro e w' ⟨rfl, hb⟩)
    go_ret
    exact ⟨rfl, hb⟩
  cases hv : Nm.valid l with
  | false =>
    have HT := Lib.hid hT
    have HG := Lib.hid hg
    have HV := Lib.hid (by have k := rvalid_any l w (by omega); rw [hv] at k; exact k)
    clear hT hg hv
    go_enter Tryd.func10, Tryd.ntmps10
    go_wp2_with fail
    refine HV.out.mono ?_
    rintro e w1 ⟨rfl, b1⟩
    have HB1 := Lib.hid b1
    clear b1
    go_wp2_with (go_at_call 34; refine (awake7_any _ (HT.out.below HG.out HB1.out)).mono ?_; rintro e w' ⟨rfl, hb⟩; have HB8 := Lib.hid (HB1.out.trans (hb.mono HB1.out.size)); clear hb)
    go_ret
    exact ⟨rfl, HB8.out⟩
  | true =>
    by_cases h2 : z < 1 ∨ 30 < z
    · have HT := Lib.hid hT
      have HG := Lib.hid hg
      have HV := Lib.hid (by have k := rvalid_any l w (by omega); rw [hv] at k; exact k)
      clear hT hg hv
      go_enter Tryd.func10, Tryd.ntmps10
      go_wp2_with fail
      refine HV.out.mono ?_
      rintro e w1 ⟨rfl, b1⟩
      have HB1 := Lib.hid b1
      clear b1
      by_cases h3 : z < 1
      · go_wp2_with (go_at_call 34; refine (awake7_any _ (HT.out.below HG.out HB1.out)).mono ?_; rintro e w' ⟨rfl, hb⟩; have HB8 := Lib.hid (HB1.out.trans (hb.mono HB1.out.size)); clear hb)
        go_ret
        exact ⟨rfl, HB8.out⟩
      · have h4 : 30 < z := by omega
        go_wp2_with (go_at_call 34; refine (awake7_any _ (HT.out.below HG.out HB1.out)).mono ?_; rintro e w' ⟨rfl, hb⟩; have HB8 := Lib.hid (HB1.out.trans (hb.mono HB1.out.size)); clear hb)
        go_ret
        exact ⟨rfl, HB8.out⟩
    · obtain ⟨u, rfl⟩ : ∃ u : Nat, z = (u : Int) := ⟨z.toNat, by omega⟩
      exact once_in l u w hT (by omega) hv (by omega) (by omega)
end Go.Proofs.YtdbaocphglijbaaDoor

/- InternFull: its names, and its calls. -/
set_option maxRecDepth 100000
namespace Go.Proofs.YtdbaocphglijbaaDoor
open Go.RowKit Go.Shelf
attribute [local go_sem] Oper.semAt_some
def fnm (i : Nat) : List UInt8 := [2, UInt8.ofNat (97 + i / 26), UInt8.ofNat (97 + i % 26), 0]
def fullE (k : Nat) : List Ent := (List.range (min k 32)).map fun i => ⟨i + 1, 1, fnm i⟩
theorem fnm_ok : ∀ i : Fin 60, Nm.valid (fnm i.1) = true ∧ Nm.fold (fnm i.1) = fnm i.1 ∧ (∀ e ∈ fullE i.1, e.name ≠ fnm i.1) ∧ costE (fullE i.1) = 32 * min i.1 32 := by decide +kernel
theorem fullE_len (k : Nat) : (fullE k).length = min k 32 := by simp [fullE]
theorem fullE_lt {k : Nat} (h : k < 32) : fullE (k + 1) = fullE k ++ [⟨k + 1, 1, fnm k⟩] := by
  unfold fullE
  rw [Nat.min_eq_left (by omega), Nat.min_eq_left (by omega), List.range_succ, List.map_append]
  rfl
theorem fullE_ge {k : Nat} (h : 32 ≤ k) : fullE (k + 1) = fullE k := by
  unfold fullE
  rw [Nat.min_eq_right (by omega), Nat.min_eq_right (by omega)]
theorem LeastE.uniq {E : List Ent} {i j : Nat} (h : LeastE E i) (k : LeastE E j) : i = j := by
  rcases Nat.lt_trichotomy i j with h1 | h1 | h1
  · obtain ⟨e, he, e1⟩ := k.2.2 i h.1 h1
    exact absurd e1 (h.2.1 e he)
  · exact h1
  · obtain ⟨e, he, e1⟩ := h.2.2 j k.1 h1
    exact absurd e1 (k.2.1 e he)
theorem full_least {k : Nat} (h : k ≤ 32) : LeastE (fullE k) (k + 1) := by
  unfold fullE
  rw [Nat.min_eq_left h]
  refine ⟨by omega, fun e he => ?_, fun j h1 h2 => ?_⟩
  · obtain ⟨i, hi, rfl⟩ := List.mem_map.1 he
    rw [List.mem_range] at hi
    show i + 1 ≠ k + 1
    omega
  · exact ⟨_, List.mem_map.2 ⟨j - 1, List.mem_range.2 (by omega), rfl⟩, by show j - 1 + 1 = j; omega⟩
def fullT (k : Nat) : List Ent := (fullE k).tail
theorem fullE_head {k : Nat} (h : 1 ≤ k) : fullE k = ⟨1, 1, fnm 0⟩ :: fullT k := by
  unfold fullT fullE
  obtain ⟨m, hm⟩ : ∃ m, min k 32 = m + 1 := ⟨min k 32 - 1, by omega⟩
  rw [hm, List.range_succ_eq_map]
  rfl
def nmzz : List UInt8 := [2, 122, 122, 0]
theorem fullT_ok : ∀ i : Fin 61, (∀ e ∈ fullT i.1, e.name ≠ nmzz) ∧ costE (fullT i.1) ≤ 992 := by decide +kernel
theorem fullT_len {k : Nat} (h : 1 ≤ k) : (fullT k).length + 1 = min k 32 := by
  have := congrArg List.length (fullE_head h)
  rw [fullE_len, List.length_cons] at this
  exact this.symm
theorem fullT_cost {k : Nat} (h : 1 ≤ k) (hk : k < 60) : costE (fullT k) + 32 = 32 * min k 32 := by
  have h1 := (fnm_ok ⟨k, hk⟩).2.2.2
  simp only at h1
  rw [fullE_head h, costE_cons] at h1
  have h2 : Ar.cost ((⟨1, 1, fnm 0⟩ : Ent).name.length + 8) = 32 := by decide
  omega
structure FullSt (t : TB) (E : List Ent) (n0 : Nat) (w wr : World) : Prop where
  tv : TV (xt t) t 1024 E n0 wr
  bel : Below w.heap.size w wr
theorem FullSt.go {t : TB} {E M : List Ent} {n0 : Nat} {w w1 w2 : World} (h : FullSt t E n0 w w1) (hn : w.heap.size ≤ n0) (k : AddRet (xt t) t 1024 M n0 w1 w2) : FullSt t M n0 w w2 := ⟨k.1, h.bel.trans (k.2.below.mono hn)⟩
theorem FullSt.after {t : TB} {E : List Ent} {n0 : Nat} {w w1 w2 : World} (h : FullSt t E n0 w w1) (hb : Below w1.heap.size w1 w2) : FullSt t E n0 w w2 := ⟨(h.tv.after hb).1, h.bel.trans (hb.mono h.bel.size)⟩
theorem full_add (t : TB) (k n0 : Nat) (w W : World) (hn : w.heap.size ≤ n0) (hk : k < 32) (h : FullSt t (fullE k) n0 w W) :
    Calls Tryd.prog 36 #[.pointer (some ⟨t.T, 0, none⟩), .string ⟨(fnm k).toArray⟩] W fun e w' => e = .returned (.tuple #[.int .i64 ((k : Int) + 1), .int .i64 0]) ∧ FullSt t (fullE (k + 1)) n0 w w' := by
  obtain ⟨h1, h2, h3, h4⟩ := fnm_ok ⟨k, by omega⟩
  simp only at h1 h2 h3 h4
  refine (tv_new (xt t) t 1024 (fullE k) n0 (fnm k) (fnm k) W h.tv h1 h2 (by simp [fnm]) (by simp [fnm]) h3 (by rw [h4, show Ar.cost ((fnm k).length + 8) = 32 from rfl]; omega)).mono fun e w' ⟨i, he, hi, hk'⟩ => ?_
  obtain rfl := hi.uniq (full_least (by omega))
  refine ⟨by rw [he]; push_cast; rfl, h.go hn (by rw [fullE_lt hk]; exact hk')⟩
theorem full_no (t : TB) (k n0 : Nat) (w W : World) (hn : w.heap.size ≤ n0) (hk : 32 ≤ k) (hk2 : k < 60) (h : FullSt t (fullE k) n0 w W) :
    Calls Tryd.prog 36 #[.pointer (some ⟨t.T, 0, none⟩), .string ⟨(fnm k).toArray⟩] W fun e w' => e = .returned (.tuple #[.int .i64 0, .int .i64 4]) ∧ FullSt t (fullE (k + 1)) n0 w w' := by
  obtain ⟨h1, h2, h3, h4⟩ := fnm_ok ⟨k, by omega⟩
  simp only at h1 h2 h3 h4
  refine (tv_full (xt t) t 1024 (fullE k) n0 (fnm k) (fnm k) W h.tv h1 h2 (by simp [fnm]) (by simp [fnm]) h3 (by rw [h4, show Ar.cost ((fnm k).length + 8) = 32 from rfl]; omega)).mono fun e w' ⟨he, hk'⟩ => ⟨he, h.go hn (by rw [fullE_ge hk]; exact hk')⟩
theorem full_count (t : TB) (E : List Ent) (m n0 : Nat) (w W : World) (h : FullSt t E n0 w W) (hm : E.length = m) :
    Calls Tryd.prog 48 #[.pointer (some ⟨t.T, 0, none⟩)] W fun e w' => e = .returned (.int .i64 (m : Int)) ∧ W = w' := by
  subst hm
  exact tv_count (xt t) t 1024 _ n0 W h.tv
theorem full_used (t : TB) (E : List Ent) (m n0 : Nat) (w W : World) (h : FullSt t E n0 w W) (hm : costE E = m) :
    Calls Tryd.prog 31 #[.pointer (some ⟨t.A, 0, none⟩)] W fun e w' => e = .returned (.int .i64 (m : Int)) ∧ W = w' := by
  subst hm
  exact tv_used (xt t) t 1024 _ n0 W h.tv
theorem full_aa (t : TB) (M : List Ent) (n0 : Nat) (w W : World) (hn : w.heap.size ≤ n0) (h : FullSt t (⟨1, 1, fnm 0⟩ :: M) n0 w W) :
    Calls Tryd.prog 36 #[.pointer (some ⟨t.T, 0, none⟩), .string ⟨#[2, 65, 65, 0]⟩] W fun e w' => e = .returned (.tuple #[.int .i64 1, .int .i64 0]) ∧ FullSt t (⟨1, 2, fnm 0⟩ :: M) n0 w w' :=
  (tv_use (xt t) t 1024 [] M ⟨1, 1, fnm 0⟩ n0 [2, 65, 65, 0] W h.tv (by decide) (by decide) (by decide) (by decide)).mono fun _ _ ⟨he, hk⟩ => ⟨he, h.go hn hk⟩
theorem full_uses (t : TB) (M : List Ent) (n0 : Nat) (w W : World) (hn : w.heap.size ≤ n0) (h : FullSt t (⟨1, 2, fnm 0⟩ :: M) n0 w W) :
    Calls Tryd.prog 47 #[.pointer (some ⟨t.T, 0, none⟩), .int .i64 1] W fun e w' => e = .returned (.int .i64 2) ∧ FullSt t (⟨1, 2, fnm 0⟩ :: M) n0 w w' :=
  (tv_uses (xt t) t 1024 _ ⟨1, 2, fnm 0⟩ n0 1 W h.tv (by simp) rfl).mono fun _ _ ⟨he, hk⟩ => ⟨he, h.go hn hk⟩
theorem full_drop1 (t : TB) (M : List Ent) (n0 : Nat) (w W : World) (hn : w.heap.size ≤ n0) (h : FullSt t (⟨1, 2, fnm 0⟩ :: M) n0 w W) :
    Calls Tryd.prog 38 #[.pointer (some ⟨t.T, 0, none⟩), .int .i64 1] W fun e w' => e = .returned (.int .i64 0) ∧ FullSt t (⟨1, 1, fnm 0⟩ :: M) n0 w w' :=
  (tv_less (xt t) t 1024 [] M ⟨1, 2, fnm 0⟩ 1 n0 1 W h.tv rfl (by decide) rfl).mono fun _ _ ⟨he, hk⟩ => ⟨he, h.go hn hk⟩
theorem full_drop2 (t : TB) (M : List Ent) (n0 : Nat) (w W : World) (hn : w.heap.size ≤ n0) (h : FullSt t (⟨1, 1, fnm 0⟩ :: M) n0 w W) :
    Calls Tryd.prog 38 #[.pointer (some ⟨t.T, 0, none⟩), .int .i64 1] W fun e w' => e = .returned (.int .i64 0) ∧ FullSt t M n0 w w' :=
  (tv_last (xt t) t 1024 [] M ⟨1, 1, fnm 0⟩ n0 1 W h.tv rfl rfl).mono fun _ _ ⟨he, hk⟩ => ⟨he, h.go hn hk⟩
theorem full_zz (t : TB) (k n0 : Nat) (w W : World) (hn : w.heap.size ≤ n0) (hk : 1 ≤ k) (hk2 : k ≤ 60) (h : FullSt t (fullT k) n0 w W) :
    Calls Tryd.prog 36 #[.pointer (some ⟨t.T, 0, none⟩), .string ⟨#[2, 122, 122, 0]⟩] W fun e w' => ∃ (i : Nat) (E : List Ent), e = .returned (.tuple #[.int .i64 (i : Int), .int .i64 0]) ∧ FullSt t E n0 w w' ∧ E.length = min k 32 ∧ costE E = 32 * min k 32 := by
  obtain ⟨h1, h2⟩ := fullT_ok ⟨k, by omega⟩
  simp only at h1 h2
  refine (tv_new (xt t) t 1024 (fullT k) n0 [2, 122, 122, 0] nmzz W h.tv (by decide) (by decide) (by decide) (by decide) h1 (by rw [show Ar.cost (nmzz.length + 8) = 32 from rfl]; omega)).mono fun e w' ⟨i, he, hi, hk'⟩ => ?_
  refine ⟨i, _, he, h.go hn hk', by rw [List.length_append]; exact fullT_len hk, ?_⟩
  rw [costE_app]
  show costE (fullT k) + (Ar.cost (nmzz.length + 8) + 0) = _
  rw [show Ar.cost (nmzz.length + 8) = 32 from rfl]
  rcases Nat.lt_or_ge k 60 with h5 | h5
  · have := fullT_cost hk h5; omega
  · obtain rfl : k = 60 := by omega
    decide +kernel
end Go.Proofs.YtdbaocphglijbaaDoor

/- InternCosts: its calls. -/
set_option maxRecDepth 100000
namespace Go.Proofs.YtdbaocphglijbaaDoor
open Go.RowKit Go.Shelf
attribute [local go_sem] Oper.semAt_some
theorem cost_17 (n : Nat) (h1 : 1 ≤ n) (h2 : n ≤ 1500) : Ar.cost (n + 8) ≤ 17 * (1 + n) := by unfold Ar.cost; (repeat' split) <;> omega
theorem fold_len (n : List UInt8) : (Nm.fold n).length = n.length := by
  unfold Nm.fold
  split
  · exact Nm.folded_length n
  · rfl
theorem valid_fold {n : List UInt8} (h : Nm.valid n = true) : Nm.valid (Nm.fold n) = true := by
  unfold Nm.fold; rw [if_pos h]; exact Nm.valid_folded h
theorem fold_fold {n : List UInt8} (h : Nm.valid n = true) : Nm.fold (Nm.fold n) = Nm.fold n := by
  have e : Nm.fold n = Nm.folded n := by unfold Nm.fold; rw [if_pos h]
  rw [e, Nm.fold_folded h]
theorem valid_pos {n : List UInt8} (h : Nm.valid n = true) : 1 ≤ n.length := by
  cases n with
  | nil => revert h; decide
  | cons => simp
structure CosSt (t : TB) (E : List Ent) (k c n0 : Nat) (w wr : World) : Prop where
  tv : TV (xt t) t 65536 E n0 wr
  bel : Below w.heap.size w wr
  good : ∀ e ∈ E, Nm.valid e.name = true ∧ e.uses ≤ k
  cost : costE E ≤ 17 * c
theorem CosSt.go {t : TB} {E : List Ent} {k c n0 : Nat} {w w1 w2 : World} (h : CosSt t E k c n0 w w1) (hn : w.heap.size ≤ n0) (k' : AddRet (xt t) t 65536 E n0 w1 w2) : CosSt t E k c n0 w w2 := ⟨k'.1, h.bel.trans (k'.2.below.mono hn), h.good, h.cost⟩
theorem CosSt.after {t : TB} {E : List Ent} {k c n0 : Nat} {w w1 w2 : World} (h : CosSt t E k c n0 w w1) (hb : Below w1.heap.size w1 w2) : CosSt t E k c n0 w w2 := ⟨(h.tv.after hb).1, h.bel.trans (hb.mono h.bel.size), h.good, h.cost⟩
theorem CosSt.mono {t : TB} {E : List Ent} {k k' c c' n0 : Nat} {w w1 : World} (h : CosSt t E k c n0 w w1) (hk : k ≤ k') (hc : c ≤ c') : CosSt t E k' c' n0 w w1 := ⟨h.tv, h.bel, fun e he => ⟨(h.good e he).1, Nat.le_trans (h.good e he).2 hk⟩, Nat.le_trans h.cost (Nat.mul_le_mul_left _ hc)⟩
theorem cos_used (t : TB) (E : List Ent) (k c n0 : Nat) (w W : World) (h : CosSt t E k c n0 w W) :
    Calls Tryd.prog 31 #[.pointer (some ⟨t.A, 0, none⟩)] W fun e w' => e = .returned (.int .i64 (costE E : Int)) ∧ W = w' := tv_used (xt t) t 65536 _ n0 W h.tv
theorem cos_nofind (t : TB) (E : List Ent) (k c n0 : Nat) (s : List UInt8) (w W : World) (hn : w.heap.size ≤ n0) (hs : s.length ≤ 1500) (h : CosSt t E k c n0 w W) (hne : ∀ e ∈ E, e.name ≠ Nm.fold s) :
    Calls Tryd.prog 41 #[.pointer (some ⟨t.T, 0, none⟩), .string ⟨s.toArray⟩] W fun e w' => e = .returned (.tuple #[.int .i64 0, .bool false]) ∧ CosSt t E k c n0 w w' :=
  (tv_nofind (xt t) t 65536 E n0 s W h.tv (by omega) (by rw [fold_len]; omega) hne).mono fun _ _ ⟨he, hk⟩ => ⟨he, h.go hn hk⟩
theorem cos_find (t : TB) (E : List Ent) (y : Ent) (k c n0 : Nat) (s : List UInt8) (w W : World) (hn : w.heap.size ≤ n0) (hs : s.length ≤ 1500) (h : CosSt t E k c n0 w W) (hy : y ∈ E) (hz : Nm.fold s = y.name) :
    Calls Tryd.prog 41 #[.pointer (some ⟨t.T, 0, none⟩), .string ⟨s.toArray⟩] W fun e w' => e = .returned (.tuple #[.int .i64 (y.id : Int), .bool true]) ∧ CosSt t E k c n0 w w' :=
  (tv_find (xt t) t 65536 E y n0 s W h.tv hy hz (by omega)).mono fun _ _ ⟨he, hk⟩ => ⟨he, h.go hn hk⟩
theorem cos_cost0 (t : TB) (E : List Ent) (y : Ent) (k c n0 : Nat) (s : List UInt8) (w W : World) (hn : w.heap.size ≤ n0) (hs : s.length ≤ 1500) (hv : Nm.valid s = true) (h : CosSt t E k c n0 w W) (hy : y ∈ E) (hz : Nm.fold s = y.name) :
    Calls Tryd.prog 43 #[.pointer (some ⟨t.T, 0, none⟩), .string ⟨s.toArray⟩] W fun e w' => e = .returned (.int .i64 0) ∧ CosSt t E k c n0 w w' :=
  (tv_cost_yes (xt t) t 65536 E y n0 s W h.tv hy hv hz (by omega)).mono fun _ _ ⟨he, hk⟩ => ⟨he, h.go hn hk⟩
theorem costI_of (n : Nat) (h : n ≤ 1500) : Ar.costI ((n + 8 : Nat) : Int) = Ar.cost (n + 8) := by
  unfold Ar.costI
  rw [if_pos (by omega)]
  rfl
theorem cos_cost (t : TB) (E : List Ent) (k c n0 cc : Nat) (s : List UInt8) (w W : World) (hn : w.heap.size ≤ n0) (hs : s.length ≤ 1500) (hv : Nm.valid s = true) (h : CosSt t E k c n0 w W) (hne : ∀ e ∈ E, e.name ≠ Nm.fold s) (hcc : Ar.cost (s.length + 8) = cc) :
    Calls Tryd.prog 43 #[.pointer (some ⟨t.T, 0, none⟩), .string ⟨s.toArray⟩] W fun e w' => e = .returned (.int .i64 (cc : Int)) ∧ CosSt t E k c n0 w w' := by
  have h1 := tv_cost_no (xt t) t 65536 E n0 s W h.tv hv (by omega) (by rw [fold_len]; omega) hne
  rw [costI_of _ hs, hcc] at h1
  exact h1.mono fun _ _ ⟨he, hk⟩ => ⟨he, h.go hn hk⟩
theorem cos_use (t : TB) (E : List Ent) (y : Ent) (k c n0 : Nat) (s : List UInt8) (w W : World) (hn : w.heap.size ≤ n0) (hs : s.length ≤ 1500) (hk : k ≤ 2000) (hv : Nm.valid s = true) (h : CosSt t E k c n0 w W) (hy : y ∈ E) (hz : Nm.fold s = y.name) :
    Calls Tryd.prog 36 #[.pointer (some ⟨t.T, 0, none⟩), .string ⟨s.toArray⟩] W fun e w' => ∃ (i : Nat) (M : List Ent) (y' : Ent), e = .returned (.tuple #[.int .i64 (i : Int), .int .i64 0]) ∧ CosSt t M (k + 1) c n0 w w' ∧ costE M = costE E ∧ y' ∈ M ∧ y'.name = Nm.fold s := by
  obtain ⟨E1, E2, rfl⟩ := List.append_of_mem hy
  have hg := h.good y hy
  refine (tv_use (xt t) t 65536 E1 E2 y n0 s W h.tv hv hz (by omega) (by omega)).mono fun e w' ⟨he, hk'⟩ => ?_
  have hc : costE (E1 ++ ⟨y.id, y.uses + 1, y.name⟩ :: E2) = costE (E1 ++ y :: E2) := by rw [costE_app, costE_app, costE_cons, costE_cons]
  refine ⟨y.id, _, ⟨y.id, y.uses + 1, y.name⟩, he, ⟨hk'.1, h.bel.trans (hk'.2.below.mono hn), fun e he => ?_, by rw [hc]; exact h.cost⟩, hc, by simp, hz.symm⟩
  rcases List.mem_append.1 he with he | he
  · have := h.good e (by simp [he]); exact ⟨this.1, by omega⟩
  · rcases List.mem_cons.1 he with rfl | he
    · exact ⟨hg.1, by show y.uses + 1 ≤ _; omega⟩
    · have := h.good e (by simp [he]); exact ⟨this.1, by omega⟩
theorem cos_new (t : TB) (E : List Ent) (k c n0 : Nat) (s : List UInt8) (cc : Nat) (w W : World) (hn : w.heap.size ≤ n0) (hs : s.length ≤ 255) (hc : c + (1 + s.length) ≤ 1500) (hv : Nm.valid s = true) (h : CosSt t E k c n0 w W) (hne : ∀ e ∈ E, e.name ≠ Nm.fold s) (hcc : Ar.cost (s.length + 8) = cc) :
    Calls Tryd.prog 36 #[.pointer (some ⟨t.T, 0, none⟩), .string ⟨s.toArray⟩] W fun e w' => ∃ (i : Nat) (M : List Ent) (y' : Ent), e = .returned (.tuple #[.int .i64 (i : Int), .int .i64 0]) ∧ CosSt t M (k + 1) (c + (1 + s.length)) n0 w w' ∧ costE M = costE E + cc ∧ y' ∈ M ∧ y'.name = Nm.fold s := by
  have h17 := cost_17 s.length (valid_pos hv) (by omega)
  have hco := h.cost
  refine (tv_new (xt t) t 65536 E n0 s (Nm.fold s) W h.tv hv rfl (by omega) (by rw [fold_len]; omega) hne (by rw [fold_len]; omega)).mono fun e w' ⟨i, he, hi, hk'⟩ => ?_
  have h1 : costE (E ++ [⟨i, 1, Nm.fold s⟩]) = costE E + cc := by
    rw [costE_app, costE_cons, fold_len, hcc]
    show _ + (cc + 0) = _
    omega
  refine ⟨i, _, ⟨i, 1, Nm.fold s⟩, he, ⟨hk'.1, h.bel.trans (hk'.2.below.mono hn), fun e he => ?_, by rw [h1]; omega⟩, h1, by simp, rfl⟩
  rcases List.mem_append.1 he with he | he
  · have := h.good e he; exact ⟨this.1, by omega⟩
  · rw [List.mem_singleton] at he
    subst he
    exact ⟨valid_fold hv, by show 1 ≤ _; omega⟩
theorem cos_ne {t : TB} {E : List Ent} {k c n0 : Nat} {w W : World} {s : List UInt8} (h : CosSt t E k c n0 w W) (hv : Nm.valid s = false) : ∀ e ∈ E, e.name ≠ Nm.fold s := fun e he hne => by
  have h1 := (h.good e he).1
  rw [hne] at h1
  unfold Nm.fold at h1
  rw [if_neg (by rw [hv]; decide), hv] at h1
  cases h1
theorem valid_le {n : List UInt8} (h : Nm.valid n = true) : n.length ≤ 255 := by
  obtain ⟨_, e, g, l⟩ := Nm.labs_of_valid h
  exact l
end Go.Proofs.YtdbaocphglijbaaDoor

/- Short: are texts few, and short in all? -/
namespace Go.Proofs.YtdbaocphglijbaaDoor
open Go.RowKit Go.Shelf

namespace Nm
theorem encL_take_drop (ls : List (List UInt8)) (k : Nat) : encL ls = encL (ls.take k) + encL (ls.drop k) := by
  rw [← encL_append, List.take_append_drop]
theorem encL_take_succ {ls : List (List UInt8)} {k : Nat} (h : k < ls.length) : encL (ls.take (k + 1)) = encL (ls.take k) + (1 + ls[k].length) := by
  rw [List.take_succ_eq_append_getElem h, encL_append]; simp [encL]
theorem short_over {ls : List (List UInt8)} {k nn : Nat} {top : Int} (hk : k ≤ ls.length) (h : nn + k = ls.length + encL (ls.take k)) (ht : top < nn) : decide ((encL ls : Int) ≤ top) = false := by
  have h1 := encL_take_drop ls k
  have h2 := @length_le_encL (ls.drop k)
  rw [List.length_drop] at h2
  rw [decide_eq_false_iff_not]
  omega
theorem short_long {ls : List (List UInt8)} {k : Nat} {top : Int} (hk : k < ls.length) (ht : top < (ls[k].length : Int)) : decide ((encL ls : Int) ≤ top) = false := by
  have h1 := encL_take_drop ls (k + 1)
  have h2 := encL_take_succ hk
  rw [decide_eq_false_iff_not]
  omega
theorem encL_mem {ls : List (List UInt8)} {l : List UInt8} (h : l ∈ ls) : l.length ≤ encL ls := by
  induction ls with
  | nil => cases h
  | cons x ls ih =>
    simp only [encL]
    rcases List.mem_cons.1 h with rfl | h
    · omega
    · have := ih h; omega
end Nm

set_option maxRecDepth 100000 in
set_option maxHeartbeats 2000000 in
theorem short_any (ls : List (List UInt8)) (sv : Value) (top : Int) (w : World) (hr : ReadS sv ls w) (hlen : ls.length ≤ 9223372036854775807) (hl : ∀ l ∈ ls, l.length ≤ 9223372036854775807) (ht : 0 ≤ top ∧ top ≤ 100000) :
    Calls Tryd.prog 49 #[sv, .int .i64 top] w fun e w' => e = .returned (.bool (decide ((Nm.encL ls : Int) ≤ top))) ∧ w = w' := by
  obtain ⟨ao, cap, rfl, hcell⟩ := hr.form
  obtain ⟨ht0, ht1⟩ := ht
  have HL := Lib.hid hl
  have HC := Lib.hid hcell
  clear hl hcell
  go_enter Tryd.func49, Tryd.ntmps49
  go_wp2
  go_loop [5, 6] (fun nv i => ∃ (k nn : Nat), k ≤ ls.length ∧ i = .int .i64 (k : Int) ∧ nv = .int .i64 (nn : Int) ∧ Hid (nn + k = ls.length + Nm.encL (ls.take k)) ∧ (0 < k → (nn : Int) ≤ 2 * top)) (fun _ i => ls.length + 1 - (intOf i).toNat)
  case atStart => exact ⟨0, ls.length, by omega, rfl, rfl, Lib.hid (by simp [Nm.encL]), by omega⟩
  case round =>
    obtain ⟨k, nn, hk, rfl, rfl, hh, hb⟩ := hrel
    by_cases hlt : k < ls.length
    · obtain ⟨b, off, rfl, c1⟩ := HC.out k hlt
      by_cases hov : top < (nn : Int)
      · have H := Lib.hid (Nm.short_over hk hh.out hov)
        go_wp2
        go_ret
        exact ⟨ret_bool (by rw [H.out]; simp; omega), rfl⟩
      · have hll := HL.out ls[k] (List.getElem_mem hlt)
        have H1 := Lib.hid (Nm.encL_take_succ hlt)
        have H2 := Lib.hid (fun (h : top < (ls[k].length : Int)) => Nm.short_long hlt h)
        obtain ⟨l, hle⟩ : ∃ l, l = ls[k] := ⟨_, rfl⟩
        rw [← hle] at c1 hll H1 H2
        replace c1 : w.cell? ⟨b, off + k, none⟩ = some (.string ⟨l.toArray⟩) := c1
        clear hle
        by_cases hlong : top < (l.length : Int)
        · have H := Lib.hid (H2.out hlong)
          go_wp2
          go_ret
          exact ⟨ret_bool H.out.symm, rfl⟩
        · go_wp2
          exact ⟨⟨k + 1, nn + l.length, by omega, by go_num, by go_num, Lib.hid (by have := hh.out; rw [H1.out]; omega), by omega⟩, by simp [intOf]; omega⟩
    · obtain rfl : k = ls.length := by omega
      have H : Hid (nn = Nm.encL ls) := Lib.hid (by have := hh.out; rw [List.take_length] at this; omega)
      go_wp2
      go_ret
      exact ⟨ret_bool (by rw [H.out]), rfl⟩
end Go.Proofs.YtdbaocphglijbaaDoor

/- A slice of numbers that is read. -/
set_option maxRecDepth 100000
namespace Go.Proofs.YtdbaocphglijbaaDoor
open Go.RowKit Go.Shelf
theorem readI_below {v : Value} {l : List Int} {W W' : World} (h : ReadI v l W) (hb : Below W.heap.size W W') : ReadI v l W' := by
  obtain ⟨ao, cap, rfl, hc⟩ := h.form
  exact ⟨ao, cap, rfl, fun j hj => by
    obtain ⟨b, off, e, c⟩ := hc j hj
    exact ⟨b, off, e, (hb.cell (cell_lt c)).trans c⟩⟩
theorem ReadI.form_at {ao : Option Addr} {cap n : Nat} {l : List Int} {W : World} (h : ReadI (.slice ao n cap) l W) {k : Nat} (hk : k < l.length) : ∃ b off, ao = some ⟨b, off, none⟩ ∧ W.cell? ⟨b, off + k, none⟩ = some (.int .i64 l[k]) := by
  obtain ⟨ao', cap', e, hc⟩ := h.form
  cases e
  exact hc k hk
end Go.Proofs.YtdbaocphglijbaaDoor
