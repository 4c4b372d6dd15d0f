/- NameFolds: its walk. -/
import Derived.Test.YtiodfiegknkceaaDoorRLabels
import Derived.Test.YtiodfiegknkceaaDoorRound
import Derived.Test.YtiodfiegknkceaaDoorFold
import Derived.Test.YtiodfiegknkceaaDoorFrame
namespace Go.Proofs.YtiodfiegknkceaaDoor
open Go.RowKit Go.Shelf
attribute [local go_sem] Oper.semAt_some

namespace Nm
theorem small_small (c : UInt8) : small (small c) = small c := by
  by_cases h : 65 ≤ c.toNat ∧ c.toNat ≤ 90
  · have := small_yes h.1 h.2
    exact small_no (by omega)
  · rw [small_no h, small_no h]
theorem folded_folded (n : List UInt8) : folded (folded n) = folded n := by simp [folded, small_small]
theorem valid_folded {n : List UInt8} (h : valid n = true) : valid (folded n) = true := by
  obtain ⟨_, e, g, l⟩ := labs_of_valid h
  unfold valid
  rw [e, folded_made g, labs_iff.2 ⟨rfl, good_folded g, by rw [← folded_made g, ← e, folded_length]; exact l⟩]
  rfl
theorem same_folded {n : List UInt8} (h : valid n = true) : same n (folded n) = true := by
  simp [same, h, valid_folded h, folded_folded]
theorem fold_folded {n : List UInt8} (h : valid n = true) : fold (folded n) = folded n := by
  unfold fold; rw [if_pos (valid_folded h), folded_folded]
theorem valid_set {n l : List UInt8} {ls : List (List UInt8)} (h : valid n = true) (hl : labsD n = l :: ls) {k : Nat} (hk : k < l.length) (c : UInt8) : valid (n.set (1 + k) c) = true := by
  obtain ⟨_, e, g, le⟩ := labs_of_valid h
  rw [hl] at e g
  have e2 : n.set (1 + k) c = made (l.set k c :: ls) := by
    rw [e, made, made, Nat.add_comm, List.set_cons_succ, List.set_append_left _ _ hk, List.length_set]
  have g2 : good (l.set k c :: ls) := by
    intro x hx
    rcases List.mem_cons.1 hx with rfl | hx
    · rw [List.length_set]; exact g l (by simp)
    · exact g x (List.mem_cons_of_mem _ hx)
  unfold valid
  rw [labs_iff.2 ⟨e2, g2, by rw [List.length_set]; exact le⟩]
  rfl
theorem same_of_nil {n : List UInt8} (h : valid n = true) (hl : labsD n = []) : same n [0] = true := by
  obtain ⟨_, e, _⟩ := labs_of_valid h
  rw [hl] at e
  rw [e]
  decide
end Nm

set_option maxRecDepth 100000 in
set_option maxHeartbeats 4000000 in
theorem folds_any (n : List UInt8) (z : Int) (w : World) (hn : n.length ≤ 9223372036854775807) (hz : -9223372036854775808 ≤ z ∧ z ≤ 9223372036854775807) (hv : VarsOk w) :
    Calls Tryd.prog 7 #[.string ⟨n.toArray⟩, .int .i64 z] w fun e w' => e = .returned (.bool true) ∧ Below w.heap.size w w' := by
  by_cases h300 : 300 < n.length
  · go_enter Tryd.func7, Tryd.ntmps7
    go_wp2_with (go_at_call 11; refine (awake_any _ hv).mono ?_; rintro e w1 ⟨rfl, b1⟩)
    go_ret
    exact ⟨rfl, b1⟩
  have hs : n.length ≤ 300 := by omega
  cases hva : Nm.valid n
  · have HV := Lib.hid hva
    clear hva
    go_enter Tryd.func7, Tryd.ntmps7
    go_wp2_with (first
      | (go_at_call 15; refine (valid_any n _ (by omega)).mono ?_; rw [HV.out]; rintro e w' ⟨rfl, rfl⟩)
      | (go_at_call 11; refine (awake_any _ hv).mono ?_; rintro e w1 ⟨rfl, b1⟩))
    go_ret
    exact ⟨rfl, b1⟩
  have HV := Lib.hid hva
  have HF := Lib.hid (show Nm.fold n = Nm.folded n by unfold Nm.fold; rw [if_pos hva])
  have HFF := Lib.hid (Nm.fold_folded hva)
  have HSF := Lib.hid (Nm.same_folded hva)
  have hfl : (Nm.folded n).length = n.length := Nm.folded_length n
  have HFK : Hid (∀ (k : Nat) (h : k < n.length), (Nm.folded n)[k]'(by rw [hfl]; exact h) = Nm.small n[k]) := Lib.hid (fun k h => by simp [Nm.folded])
  obtain ⟨f, hfe⟩ : ∃ f, f = Nm.folded n := ⟨_, rfl⟩
  have HFE := Lib.hid hfe
  rw [← hfe] at HF HFF HSF
  have hfl2 : f.length = n.length := by rw [hfe, hfl]
  have HFK2 : Hid (∀ (k : Nat) (h : k < n.length) (h' : k < f.length), f[k] = Nm.small n[k]) := Lib.hid (fun k h h' => by subst hfe; exact HFK.out k h)
  clear HFK hfl hva hfe
  go_enter Tryd.func7, Tryd.ntmps7
  go_wp2_with fail
  refine (valid_any n _ (by omega)).mono ?_
  rw [HV.out]
  rintro e w' ⟨rfl, rfl⟩
  go_wp2_with fail
  refine (fold_any n _ (by omega)).mono ?_
  rw [HF.out]
  rintro e w1 ⟨rfl, b1⟩
  go_wp2_with fail
  refine (fold_any f _ (by omega)).mono ?_
  rw [HFF.out]
  rintro e w2 ⟨rfl, b2⟩
  replace b2 := below_trans b1 b2
  go_wp2_with fail
  refine (same_any n f _ (by omega) (by omega)).mono ?_
  rw [HSF.out]
  rintro e w3 ⟨rfl, b3⟩
  replace b3 := below_trans b2 b3.below
  go_wp2_with fail
  go_loop [6, 7] (fun i c => ∃ k : Nat, k ≤ n.length ∧ i = .int .i64 k) (fun i _ => n.length + 1 - (intOf i).toNat)
  case atStart => exact ⟨0, by omega, rfl⟩
  case round =>
    obtain ⟨k, hk, rfl⟩ := hrel
    by_cases hlt : k < n.length
    · have hlt2 : k < f.length := by omega
      have hc : ((⟨n.toArray⟩ : ByteArray)[k]'hlt) = n[k] := rfl
      have hd : ((⟨f.toArray⟩ : ByteArray)[k]'hlt2) = f[k] := rfl
      have hfk := HFK2.out k hlt hlt2
      obtain ⟨c, hcc⟩ : ∃ c, c = n[k] := ⟨_, rfl⟩
      obtain ⟨d, hdd⟩ : ∃ d, d = f[k] := ⟨_, rfl⟩
      rw [← hcc] at hc hfk
      rw [← hdd] at hd hfk
      clear hcc hdd
      have hc255 : c.toNat ≤ 255 := by have := c.toNat_lt; omega
      by_cases hr : 65 ≤ c.toNat ∧ c.toNat ≤ 90
      · have h1 := hr.1
        have h2 := hr.2
        have h3 : (d.toNat : Int) = (c.toNat : Int) + 32 := by rw [hfk]; exact Nm.small_yes h1 h2
        clear hr hfk
        go_wp2
        exact ⟨⟨k + 1, by omega, by go_num⟩, by simp [intOf]; omega⟩
      · have h3 : d = c := by rw [hfk]; exact Nm.small_no hr
        subst h3
        have hcase : d.toNat < 65 ∨ (65 ≤ d.toNat ∧ 90 < d.toNat) := by omega
        clear hr hfk
        rcases hcase with h1 | ⟨h1, h2⟩
        all_goals
          go_wp2
          exact ⟨⟨k + 1, by omega, by go_num⟩, by simp [intOf]; omega⟩
    · obtain rfl : k = n.length := by omega
      go_wp2_with fail
      refine (rlabels_any n _ (by omega)).mono ?_
      rintro e w4 ⟨v, L, rfl, ho, b4, hL, _⟩
      replace hL := hL HV.out
      have b4' := below_trans b3 b4
      rw [HV.out]
      obtain ⟨ao, cap, rfl, hcell⟩ := own_slice ho
      cases L with
      | nil =>
        have HS0 := Lib.hid (Nm.same_of_nil HV.out hL.symm)
        clear hL hcell
        have hz0 : (([] : List (List UInt8)).length : Int) = 0 := rfl
        go_wp2_with (first
          | (go_at_call 28; refine (same_any n [0] _ (by omega) (by simp)).mono ?_; rw [HS0.out]; rintro e w5 ⟨rfl, b5⟩)
          | (go_at_call 11; refine (awake_any _ (hv.below (below_trans b4' b5.below))).mono ?_; rintro e w6 ⟨rfl, b6⟩))
        go_ret
        exact ⟨rfl, below_trans (below_trans b4' b5.below) b6⟩
      | cons l0 ls =>
        obtain ⟨g1, g2⟩ := Nm.labsD_good n l0 (by rw [← hL]; simp)
        obtain ⟨b, rfl, c0⟩ := hcell 0 (by simp)
        replace c0 : w4.cell? ⟨b, 0, none⟩ = some (.string ⟨l0.toArray⟩) := c0
        obtain ⟨hk1, hk2⟩ := roundI_bounds z l0.length (by omega)
        obtain ⟨kk, hkk⟩ := Int.eq_ofNat_of_zero_le hk1
        have hk3 : kk < l0.length := by omega
        have HKK := Lib.hid hkk
        have hlen : 1 + l0.length ≤ n.length := by
          obtain ⟨_, _, h, _⟩ := Nm.parent_cons hL.symm
          exact h
        have hll : ((l0 :: ls).length : Int) = (ls.length : Int) + 1 := by simp
        have HL := Lib.hid hL
        clear hkk hk1 hk2 hL hcell
        go_wp2_with fail
        refine (round_any z l0.length _ (by omega) (by omega) hz.1 hz.2).mono ?_
        rw [HKK.out]
        rintro e w5 ⟨rfl, rfl⟩
        have hcv := Lib.run_convert_string_bytes (P := Tryd.prog) w4 9 44 5 ⟨n.toArray⟩ Tryd.underlying9 Tryd.underlying44 Tryd.underlying5
        have hr0 := row8_conv w4 5 n
        have hb0 := Lib.bytesWorld_below w4 5 ⟨n.toArray⟩
        have hsz : (⟨n.toArray⟩ : ByteArray).size = n.length := by show n.toArray.size = _; simp
        generalize grownCap w4 (⟨n.toArray⟩ : ByteArray).size 0 5 = cp at hcv
        rw [hsz] at hcv
        generalize Lib.bytesWorld w4 5 ⟨n.toArray⟩ = W0 at *
        clear hsz
        have hkn : 1 + kk < n.length := by omega
        obtain ⟨c1, f1⟩ := hr0 (1 + kk) hkn
        obtain ⟨c, hcc⟩ : ∃ c, c = n[1 + kk] := ⟨_, rfl⟩
        rw [← hcc] at c1
        obtain ⟨nb, hnb⟩ : ∃ nb : UInt8, (nb.toNat : Int) = bits .xor .u8 (c.toNat : Int) 1 := by
          have hwf := bounds_u8 (wf_bits .xor .u8 (c.toNat : Int) 1)
          refine ⟨UInt8.ofNat (bits .xor .u8 (c.toNat : Int) 1).toNat, ?_⟩
          rw [UInt8.toNat_ofNat', Nat.mod_eq_of_lt (by omega), Int.toNat_of_nonneg hwf.1]
        obtain ⟨o, ho'⟩ : ∃ o, o = n.set (1 + kk) nb := ⟨_, rfl⟩
        have hol : o.length = n.length := by rw [ho', List.length_set]
        have hr1 := Row8.set hr0 hkn nb
        rw [← ho'] at hr1
        have hvo := Lib.hid (Nm.valid_set HV.out HL.out.symm hk3 nb)
        rw [← ho'] at hvo
        obtain ⟨sm, hsm⟩ : ∃ sm, Nm.same n o = sm := ⟨_, rfl⟩
        have HS1 := Lib.hid hsm
        have HFO : Hid (Nm.fold o = Nm.folded o) := Lib.hid (by unfold Nm.fold; rw [if_pos hvo.out])
        obtain ⟨fo, hfo⟩ : ∃ fo, fo = Nm.folded o := ⟨_, rfl⟩
        have hfol : fo.length = n.length := by rw [hfo, Nm.folded_length, hol]
        have hsm2 : sm = (fo == f) := by
          rw [← hsm, hfo, HFE.out]
          unfold Nm.same
          rw [HV.out, hvo.out, Bool.true_and, Bool.true_and, Bool.eq_iff_iff, beq_iff_eq, beq_iff_eq, eq_comm]
        rw [← hfo] at HFO
        have hnb' := hnb.symm
        clear hnb
        have HB0 := below_trans b4' hb0
        have HM := Lib.hid hsm2
        clear hcc ho' hsm hfo hsm2 hr0 hvo
        have hst := hr1.str (cap := cp) (src := 44) (dst := 9) (P := Tryd.prog) Tryd.underlying44 Tryd.underlying5 Tryd.underlying9
        rw [hol] at hst
        have HB1 : Below w.heap.size w (W0.setCell ⟨w4.heap.size, 1 + kk, none⟩ (.int .u8 (nb.toNat : Int))) := HB0.setCell (p := ⟨w4.heap.size, 1 + kk, none⟩) b4'.size _
        go_wp2_with fail
        refine (same_any n o _ (by omega) (by omega)).mono ?_
        rw [HS1.out]
        rintro e w6 ⟨rfl, b6⟩
        have HB2 := below_trans HB1 b6.below
        go_wp2_with fail
        refine (fold_any o _ (by omega)).mono ?_
        rw [HFO.out]
        rintro e w7 ⟨rfl, b7⟩
        replace b7 := below_trans HB2 b7
        go_wp2_with fail
        refine (awake_any _ (hv.below b7)).mono ?_
        rintro e w8 ⟨rfl, b8⟩
        go_wp2
        go_ret
        exact ⟨rfl, below_trans b7 b8⟩
end Go.Proofs.YtiodfiegknkceaaDoor
