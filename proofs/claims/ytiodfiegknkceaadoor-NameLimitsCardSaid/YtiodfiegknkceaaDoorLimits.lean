/- NameLimits: its walk. -/
import Derived.Test.YtiodfiegknkceaaDoorRound
import Derived.Test.YtiodfiegknkceaaDoorFrame
import Derived.Laws.OwnMore
namespace Go.Proofs.YtiodfiegknkceaaDoor
open Go.RowKit Go.Shelf
attribute [local go_sem] Oper.semAt_some

namespace Nm
theorem validU_made_app {ls : List (List UInt8)} (g : good ls) (r : List UInt8) : validU (made ls ++ r) = r.isEmpty := by
  induction ls with
  | nil => simp [made, validU_cons]
  | cons l ls ih =>
    obtain ⟨h1, h2⟩ := g l (by simp)
    rw [made, List.cons_append, validU_cons, if_neg (ofNat_ne h1 h2), ofNat_toNat h2, if_neg (by simp; omega), List.append_assoc, List.drop_left']
    · exact ih (fun x hx => g x (List.mem_cons_of_mem _ hx))
    · rfl
theorem validU_encs {ls : List (List UInt8)} (g : good ls) : validU (encs ls) = false := by
  induction ls with
  | nil => rfl
  | cons l ls ih =>
    obtain ⟨h1, h2⟩ := g l (by simp)
    rw [encs, validU_cons, if_neg (ofNat_ne h1 h2), ofNat_toNat h2, if_neg (by simp; omega), List.drop_left']
    · exact ih (fun x hx => g x (List.mem_cons_of_mem _ hx))
    · rfl
theorem valid_le_U {n : List UInt8} (h : validU n = false) : valid n = false := by
  unfold valid labs
  split
  · rfl
  · exact h
theorem made_take {ls : List (List UInt8)} : (made ls).take ((made ls).length - 1) = encs ls := by
  rw [made_encs]; simp
def goodB (ls : List (List UInt8)) : Bool := ls.all (fun l => decide (1 ≤ l.length) && decide (l.length ≤ 63))
theorem goodB_iff (ls : List (List UInt8)) : goodB ls = true ↔ good ls := by
  simp [goodB, good]
theorem goodB_snoc (L : List (List UInt8)) (k : Nat) : goodB (L ++ [List.replicate k 0]) = (goodB L && (decide (1 ≤ k) && decide (k ≤ 63))) := by
  simp [goodB]
def zeros (zs : List Int) : List (List UInt8) := zs.map (fun z => List.replicate (roundI z 66).toNat 0)
theorem zeros_take {zs : List Int} {i : Nat} (h : i < zs.length) : zeros (zs.take (i + 1)) = zeros (zs.take i) ++ [List.replicate (roundI zs[i] 66).toNat 0] := by
  unfold zeros
  rw [List.take_succ_eq_append_getElem h, List.map_append]
  rfl
end Nm

theorem run_zeros (k : Nat) (hk : k ≤ 66) (W : World) : (Instr.makeSlice 44 (.int .i64 (k : Int)) (.int .i64 (k : Int))).run Tryd.prog W = .ok (.slice (some ⟨W.heap.size, 0, none⟩) k k) (W.alloc (.cells (madeCells #[.int .u8 0] k) 5)) ∧
    (convert 44 9 (.slice (some ⟨W.heap.size, 0, none⟩) k k)).run Tryd.prog (W.alloc (.cells (madeCells #[.int .u8 0] k) 5)) = .ok (.string ⟨(List.replicate k (0 : UInt8)).toArray⟩) (W.alloc (.cells (madeCells #[.int .u8 0] k) 5)) := by
  obtain ⟨i, hi, hz0, hz1, hz2⟩ := info_parts infoByte
  constructor
  · have h := run_make (P := Tryd.prog) W 44 5 i (.int .u8 0) Tryd.underlying44 hi hz0 .i64 .i64 (k : Int) (k : Int) (by omega) (by omega) (by rw [hz2]; omega) (by omega)
    rw [h, hz1]
    simp [Value.cells]
  · have h := run_convert_bytes_back (P := Tryd.prog) (W.alloc (.cells (madeCells #[.int .u8 0] k) 5)) 44 9 5 ⟨W.heap.size, 0, none⟩ k (List.replicate k (0 : UInt8)) Tryd.underlying44 Tryd.underlying5 Tryd.underlying9 (fun j hj => by
      have hc := cells_new W (List.replicate k (.int .u8 0)) 5 j (.int .u8 0) (by rw [List.length_replicate] at hj; simp [hj])
      rw [← toList_madeCells_one] at hc
      simpa using hc)
    rw [List.length_replicate] at h
    exact h

set_option maxRecDepth 100000 in
set_option maxHeartbeats 4000000 in
theorem limits_any (zs : List Int) (sv : Value) (w : World) (hr : ReadI sv zs w) (hzs : ∀ z ∈ zs, -9223372036854775808 ≤ z ∧ z ≤ 9223372036854775807) (hlen : zs.length ≤ 9223372036854775807) (hv : VarsOk w) :
    Calls Tryd.prog 9 #[sv] w fun e w' => e = .returned (.bool true) ∧ Below w.heap.size w w' := by
  obtain ⟨ao, cap, rfl, hc⟩ := hr.form
  by_cases h8 : 8 < zs.length
  · go_enter Tryd.func9, Tryd.ntmps9
    go_wp2_with (go_at_call 11; refine (awake_any _ hv).mono ?_; rintro e w1 ⟨rfl, b1⟩)
    go_ret
    exact ⟨rfl, b1⟩
  refine (callsIn_wide (n := 9)).1 ?_
  refine callsIn_of_wp Tryd.func9 rfl trivial ?_ rfl
  simp only [Tryd.ntmps9, List.size_toArray, List.length_cons, List.length_nil, Nat.reduceAdd, Nat.reduceSub, Array.replicate_succ, Array.replicate_zero, List.push_toArray, List.append_toArray, List.nil_append, List.cons_append]
  have HC := Lib.hid hc
  have HZ := Lib.hid hzs
  clear hc hzs
  gi_wp2
  gi_loopw [3, 4, 5, 6] (fun s3 s4 s5 s6 wr => ∃ (v1 : Value) (i : Nat) (L : List (List UInt8)) (nn : Nat) (gb : Bool), s3 = v1 ∧ s4 = .int .i64 (nn : Int) ∧ s5 = .bool gb ∧ s6 = .int .i64 (i : Int) ∧ i ≤ zs.length ∧ L.length ≤ i ∧ nn ≤ 1 + 70 * i ∧ OwnE encS 9 w.heap.size v1 L wr ∧ Below w.heap.size w wr ∧ Hid (L = Nm.zeros (zs.take i) ∧ nn = Nm.encL L + 1 ∧ gb = Nm.goodB L)) (fun _ _ _ s6 _ => zs.length + 1 - (intOf s6).toNat)
  case atStart => exact ⟨_, 0, [], 1, true, rfl, rfl, rfl, rfl, by omega, by simp, by omega, ownE_nil _ _ _ _, Below.refl _ _, Lib.hid ⟨rfl, rfl, rfl⟩⟩
  case round =>
    obtain ⟨v1, i, L, nn, gb, rfl, rfl, rfl, rfl, hi, hLi, hnn, ho, hb, hh⟩ := hrel
    have hwr := hb.size
    by_cases hlt : i < zs.length
    · obtain ⟨b, off, rfl, c1⟩ := HC.out i hlt
      replace c1 := (hb.cell (p := ⟨b, off + i, none⟩) (cell_lt c1)).trans c1
      obtain ⟨hz1, hz2⟩ := HZ.out zs[i] (List.getElem_mem hlt)
      obtain ⟨hk1, hk2⟩ := roundI_bounds zs[i] 66 (by omega)
      obtain ⟨kk, hkk⟩ := Int.eq_ofNat_of_zero_le hk1
      have hk66 : kk < 66 := by omega
      have hL2 := Nm.zeros_take hlt
      rw [hkk, Int.toNat_natCast, ← hh.out.1] at hL2
      have hE2 : Nm.encL (L ++ [List.replicate kk 0]) + 1 = nn + 1 + kk := by rw [Nm.encL_append, hh.out.2.1]; simp [Nm.encL]; omega
      have hG2 := Nm.goodB_snoc L kk
      rw [← hh.out.2.2] at hG2
      have HK := Lib.hid hkk
      have HL2 := Lib.hid hL2
      have HE2 := Lib.hid hE2
      have HG2 := Lib.hid hG2
      obtain ⟨z, hz⟩ : ∃ z, z = zs[i] := ⟨_, rfl⟩
      rw [← hz] at c1 hz1 hz2 HK
      obtain ⟨hm1, hm2⟩ := run_zeros kk (by omega) wr
      obtain ⟨sz, hsz⟩ : ∃ sz, sz = (⟨(List.replicate kk (0 : UInt8)).toArray⟩ : ByteArray) := ⟨_, rfl⟩
      rw [← hsz] at hm2
      have hcn : ∀ (j : Nat) (u : Value), ([List.replicate kk (0 : UInt8)].map encS)[j]? = some u → ((wr.alloc (.cells (madeCells #[.int .u8 0] kk) 5)).alloc (.cells #[.string sz] 9)).cell? ((⟨wr.heap.size + 1, 0, none⟩ : Addr).add j) = some u := by
        have hs : (wr.alloc (.cells (madeCells #[.int .u8 0] kk) 5)).heap.size = wr.heap.size + 1 := by simp
        rw [← hs, hsz]
        exact cells_new _ [encS (List.replicate kk 0)] _
      have HCN := Lib.hid hcn
      clear hk1 hk2 hkk hL2 hE2 hG2 hz hcn hsz
      have hF : Fence.wide.fn 36 := trivial
      obtain ⟨g2, hg2⟩ : ∃ g2, g2 = (gb && (decide (1 ≤ kk) && decide (kk ≤ 63))) := ⟨_, rfl⟩
      rw [← hg2] at HG2
      have fin : ∀ (v2 : Value) (w2 : World), OwnE encS 9 w.heap.size v2 (L ++ [List.replicate kk 0]) w2 → Apd w.heap.size u3 (L ≠ []) ((wr.alloc (.cells (madeCells #[.int .u8 0] kk) 5)).alloc (.cells #[.string sz] 9)) w2 → Below w.heap.size w w2 := fun v2 w2 _ ha => hb.trans (((Below.refl w.heap.size wr).alloc hwr _).trans (((Below.refl w.heap.size _).alloc (by simp; omega) _).trans ha.below))
      have FIN := Lib.hid fin
      clear fin
      have hcase : (gb = false ∧ g2 = false) ∨ (gb = true ∧ kk < 1 ∧ g2 = false) ∨ (gb = true ∧ 1 ≤ kk ∧ 63 < kk ∧ g2 = false) ∨ (gb = true ∧ 1 ≤ kk ∧ kk ≤ 63 ∧ g2 = true) := by
        rw [hg2]
        cases gb
        · exact .inl ⟨rfl, rfl⟩
        · by_cases h1 : 1 ≤ kk
          · by_cases h2 : kk ≤ 63
            · exact .inr (.inr (.inr ⟨rfl, h1, h2, by simp [h1, h2]⟩))
            · exact .inr (.inr (.inl ⟨rfl, h1, by omega, by simp [h2]⟩))
          · exact .inr (.inl ⟨rfl, by omega, by simp [h1]⟩)
      clear hg2
      have HH := Lib.hid hh.out.1
      clear hh
      rcases hcase with ⟨rfl, rfl⟩ | ⟨rfl, h1, rfl⟩ | ⟨rfl, h1, h2, rfl⟩ | ⟨rfl, h1, h2, rfl⟩
      all_goals
        gi_wp2_with (first
          | (gi_at_call 36; refine (callsIn_wide.2 (round_any z 66 _ (by omega) (by omega) hz1 hz2)).mono ?_; rw [HK.out]; rintro e w' ⟨rfl, rfl⟩)
          | (gi_at_builtin; refine wpListIn_apd _ rfl _ _ 23 rfl encS encS_one w.heap.size 9 _ 16 Tryd.underlying23 infoStr rfl u3 L rfl (ownE_alloc (ownE_alloc ho _) _) ⟨_, 0, none⟩ 1 1 [List.replicate kk 0] rfl rfl HCN.out (by omega) (by omega) (by simp; omega) ?_; intro v2 w2 ho2 ha2 hn2; refine Hid.out ?_))
        refine Lib.hid ?_
        have hb2 := FIN.out v2 w2 ho2 ha2
        gi_wp2
        go_roundw
        case rel => exact ⟨v2, i + 1, L ++ [List.replicate kk 0], nn + 1 + kk, _, rfl, by go_num, by first | rfl | (congr 1; simp; omega), by go_num, by omega, by simp; omega, by omega, ho2, hb2, Lib.hid ⟨by rw [HL2.out], HE2.out.symm, HG2.out.symm⟩⟩
        case measure => simp [intOf]; omega
    · obtain rfl : i = zs.length := by omega
      obtain ⟨hL, hn, hg⟩ := hh.out
      have hL1 : L.length ≤ 8 := by omega
      have hLL : ∀ l ∈ L, l.length ≤ 100000 := by
        rw [hL]
        intro l hl
        obtain ⟨z, _, rfl⟩ := List.mem_map.1 hl
        have := (roundI_bounds z 66 (by omega)).2
        simp
        omega
      have HLL := Lib.hid hLL
      clear hLL hL hh
      have rd := ownS_read ho
      obtain ⟨gg, hgg⟩ : ∃ gg, gg = (gb && decide (nn ≤ 255)) := ⟨_, rfl⟩
      cases gg
      · have HJ : joinRet L = .tuple #[.string ⟨#[]⟩, .int .i64 2] := joinRet_none (by
          cases hj : Nm.join L with
          | none => rfl
          | some m =>
            obtain ⟨e, g, le⟩ := Nm.join_some.1 hj
            have e2 : m.length = Nm.encL L + 1 := by rw [e, Nm.made_encs, List.length_append, Nm.encs_length]; rfl
            rw [hg, (Nm.goodB_iff L).2 g, hn, ← e2] at hgg
            simp [le] at hgg)
        have HJJ := Lib.hid HJ
        clear HJ
        have hF : Fence.wide.fn 26 := trivial
        have hF2 : Fence.wide.fn 11 := trivial
        have hcase : gb = false ∨ (gb = true ∧ 255 < nn) := by
          cases gb
          · exact .inl rfl
          · exact .inr ⟨rfl, by simpa using hgg⟩
        clear hg hn hgg
        rcases hcase with rfl | ⟨rfl, h255⟩
        all_goals
          gi_wp2_with (first
            | (gi_at_call 26; refine (callsIn_wide.2 (join_any L _ _ rd (by omega) HLL.out)).mono ?_; rw [HJJ.out]; rintro e w3 ⟨rfl, b3⟩)
            | (gi_at_call 11; refine (callsIn_wide.2 (awake_any _ (hv.below (below_trans hb b3)))).mono ?_; rintro e w4 ⟨rfl, b4⟩))
          all_goals first
            | (go_ret; exact ⟨rfl, below_trans (below_trans hb b3) b4⟩)
            | (exfalso; simp only [Bool.not_eq_false', decide_eq_true_eq] at *; omega)
      · have hb255 : gb = true ∧ nn ≤ 255 := by
          cases gb
          · simp at hgg
          · exact ⟨rfl, by simpa using hgg⟩
        obtain ⟨rfl, h255⟩ := hb255
        have g := (Nm.goodB_iff L).1 hg.symm
        obtain ⟨s, hs⟩ : ∃ s, s = Nm.made L := ⟨_, rfl⟩
        have hsl : s.length = nn := by rw [hs, Nm.made_encs, List.length_append, Nm.encs_length, hn]; rfl
        have HJ := Lib.hid (joinRet_some (Nm.join_some.2 ⟨hs, g, by omega⟩))
        have HV1 : Hid (Nm.valid s = true) := Lib.hid (by
          show (Nm.labs s).isSome = true
          rw [(Nm.labs_iff (n := s) (ls := L)).2 ⟨hs, g, by omega⟩]
          rfl)
        have HV2 : Hid (Nm.valid (s ++ [0]) = false) := Lib.hid (Nm.valid_le_U (by rw [hs, Nm.validU_made_app g]; rfl))
        have HV3 : Hid (Nm.valid (s.take (nn - 1)) = false) := Lib.hid (Nm.valid_le_U (by rw [← hsl, hs, Nm.made_take, Nm.validU_encs g]))
        obtain ⟨s3, hs3⟩ : ∃ s3, s3 = s.take (nn - 1) := ⟨_, rfl⟩
        obtain ⟨s2, hs2⟩ : ∃ s2, s2 = s ++ [0] := ⟨_, rfl⟩
        have hl3 : s3.length ≤ 255 := by rw [hs3, List.length_take]; omega
        have hl2 : s2.length ≤ 256 := by rw [hs2, List.length_append, List.length_singleton]; omega
        rw [← hs2] at HV2
        rw [← hs3] at HV3
        have hsize : (⟨s.toArray⟩ : ByteArray).size = nn := by rw [← hsl]; show s.toArray.size = _; simp
        have happ : (⟨s.toArray⟩ : ByteArray) ++ ⟨#[0]⟩ = ⟨s2.toArray⟩ := by rw [hs2]; apply ByteArray.ext; simp [ByteArray.data_append]
        have hext : (⟨s.toArray⟩ : ByteArray).extract 0 (nn - 1) = ⟨s3.toArray⟩ := by rw [hs3, ext_cut]; simp
        have hn1 : 1 ≤ nn := by omega
        clear hs3
        have hF1 : Fence.wide.fn 26 := trivial
        have hF2 : Fence.wide.fn 11 := trivial
        have hF3 : Fence.wide.fn 15 := trivial
        clear hg hn hgg hs hs2 g
        gi_wp2_with (first
            | (gi_at_call 26; refine (callsIn_wide.2 (join_any L _ _ rd (by omega) HLL.out)).mono ?_; rw [HJ.out]; rintro e w3 ⟨rfl, b3⟩)
            | (gi_at_call 11; refine (callsIn_wide.2 (awake_any _ (hv.below (below_trans hb b3)))).mono ?_; rintro e w4 ⟨rfl, b4⟩)
            | (gi_at_call 15; with_reducible refine (callsIn_wide.2 (valid_any s _ (by omega))).mono ?_; rw [HV1.out]; rintro e w5 ⟨rfl, rfl⟩)
            | (gi_at_call 15; with_reducible refine (callsIn_wide.2 (valid_any s2 _ (by omega))).mono ?_; rw [HV2.out]; rintro e w5 ⟨rfl, rfl⟩)
            | (gi_at_call 15; with_reducible refine (callsIn_wide.2 (valid_any s3 _ (by omega))).mono ?_; rw [HV3.out]; rintro e w5 ⟨rfl, rfl⟩))
        all_goals first
          | (exfalso; simp only [Bool.not_eq_true', decide_eq_false_iff_not] at *; omega)
          | (go_ret; exact ⟨rfl, below_trans (below_trans hb b3) b4⟩)
end Go.Proofs.YtiodfiegknkceaaDoor
