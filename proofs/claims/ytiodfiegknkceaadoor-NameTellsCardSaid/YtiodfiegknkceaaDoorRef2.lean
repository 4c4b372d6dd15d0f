/- The document's own Parent, Join, Under (freshetref1). -/
import Derived.Test.YtiodfiegknkceaaDoorRef1
import Derived.Deep.QuietTactic
import Derived.BigQuiet
namespace Go.Proofs.YtiodfiegknkceaaDoor
open Go.RowKit Go.Shelf
attribute [local go_sem] Oper.semAt_some

theorem own_slice_cap {e base : Nat} {v : Value} {L : List (List UInt8)} {W : World} (h : OwnE encS e base v L W) : ∃ ao cap, v = .slice ao L.length cap ∧ L.length ≤ cap := by
  rcases h.2 with ⟨rfl, hn⟩ | ⟨g, cap, cur, rfl, _, _, hle, _⟩
  · exact ⟨none, 0, by rw [hn], by omega⟩
  · exact ⟨_, _, rfl, hle⟩
/-- s[1:] of a slice of strings. -/
theorem run_tail {ao : Option Addr} {cap : Nat} {l : List UInt8} {ls : List (List UInt8)} {W : World} (h : ReadS (.slice ao (ls.length + 1) cap) (l :: ls) W) (hcap : ls.length + 1 ≤ cap) :
    ∃ v', (Instr.slice 23 (.slice ao (ls.length + 1) cap) (some (.int .i64 1)) none none).run Tryd.prog W = .ok v' W ∧ ReadS v' ls W := by
  have hu : Tryd.prog.underlying 23 = some (.slice (Tryd.prog.elem 23)) := by kernel_rfl
  have hs : (sizeOf (Tryd.prog.elem 23)).run Tryd.prog W = .ok 1 W := by
    obtain ⟨i, hi, _, h1, _⟩ := info_parts infoStr
    have he : Tryd.prog.elem 23 = 9 := by kernel_rfl
    rw [he]
    simp [sizeOf, typeInfo, hi, h1]
  refine ⟨_, by rw [run_slice_l (w := W) 23 ao (ls.length + 1) cap hu .i64 1 (by omega) (by omega), hs]; rfl, ?_⟩
  obtain ⟨ao', cap', e, hc⟩ := h.form
  injection e with e1 e2 e3
  subst e1 e3
  refine ⟨_, _, rfl, fun j hj => ?_⟩
  obtain ⟨b, off, e, c⟩ := hc (j + 1) (by simp; omega)
  subst e
  have hne : ¬ cap = (1 : Int).toNat := by rw [Int.toNat_one]; omega
  refine ⟨b, off + 1, by rw [if_neg hne]; rfl, ?_⟩
  rw [show off + 1 + j = off + (j + 1) by omega]
  exact c

set_option maxRecDepth 100000 in
set_option maxHeartbeats 2000000 in
theorem rparent_any (n : List UInt8) (w : World) (hs : n.length ≤ 100000) :
    Calls Tryd.prog 22 #[.string ⟨n.toArray⟩] w fun e w' => e = .returned (.string ⟨(Nm.parent n).toArray⟩) ∧ Below w.heap.size w w' := by
  obtain ⟨p, hp⟩ : ∃ p, Nm.parent n = p := ⟨_, rfl⟩
  rw [hp]
  obtain ⟨x, hx⟩ : ∃ x, Nm.valid n = x := ⟨_, rfl⟩
  have HX := Lib.hid hx
  have HP := Lib.hid hp
  have H0 := Lib.hid (fun h : Nm.labsD n = [] => (Nm.parent_nil h).symm.trans hp)
  cases x
  · have hnil : Nm.labsD n = [] := by
      unfold Nm.valid at hx
      unfold Nm.labsD
      cases h : Nm.labs n with
      | none => rfl
      | some l => rw [h] at hx; cases hx
    obtain rfl := H0.out hnil
    clear hx hp hnil
    go_enter Tryd.func22, Tryd.ntmps22
    go_wp2_with (go_at_call 12; refine (rlabels_any n _ hs).mono ?_; rintro e w1 ⟨v, L, rfl, ho, b1, hL, hl⟩; rw [HX.out])
    go_ret
    exact ⟨rfl, b1⟩
  · clear hx hp
    go_enter Tryd.func22, Tryd.ntmps22
    go_wp2_with fail
    refine (rlabels_any n _ hs).mono ?_
    rintro e w1 ⟨v, L, rfl, ho, b1, hL, hl⟩
    rw [HX.out]
    replace hL := hL HX.out
    have rd := ownS_read ho
    obtain ⟨ao, cap, rfl, hcap⟩ := own_slice_cap ho
    cases L with
    | nil =>
      obtain rfl := H0.out hL.symm
      clear hL ho rd
      go_wp2
      go_ret
      exact ⟨rfl, b1⟩
    | cons l ls =>
      have hpe : Nm.made ls = p := by rw [← HP.out]; unfold Nm.parent; rw [← hL]
      have hlen : Nm.encL ls ≤ 100000 := by
        have h2 := Nm.labsD_made (n := n) (by rw [← hL]; simp)
        have h3 := h2.2.2.1
        rw [h2.1, ← hL, Nm.made_length] at h3
        simp only [Nm.encL] at h3
        omega
      have HPE := Lib.hid hpe
      simp only [List.length_cons] at rd hcap
      obtain ⟨v', hrt, rd'⟩ := run_tail rd hcap
      clear hL ho rd hpe
      go_wp2_with (go_at_call 44; refine (rmade_any ls _ _ rd' hlen).mono ?_; rw [HPE.out]; rintro e w' ⟨rfl, b2⟩)
      go_ret
      exact ⟨rfl, below_trans b1 b2⟩

/-- What Join of the document's own gives. -/
def rjoinRet (ls : List (List UInt8)) : Value := .tuple #[.string ⟨((Nm.join ls).getD []).toArray⟩, .bool (Nm.join ls).isSome]
theorem rjoinRet_none {ls : List (List UInt8)} (h : Nm.join ls = none) : rjoinRet ls = .tuple #[.string ⟨#[]⟩, .bool false] := by unfold rjoinRet; rw [h]; rfl
theorem rjoinRet_some {ls : List (List UInt8)} {n : List UInt8} (h : Nm.join ls = some n) : rjoinRet ls = .tuple #[.string ⟨n.toArray⟩, .bool true] := by unfold rjoinRet; rw [h]; rfl
theorem join_bad {ls : List (List UInt8)} (h : ¬ (Nm.good ls ∧ (Nm.made ls).length ≤ 255)) : Nm.join ls = none := by
  cases hj : Nm.join ls with
  | none => rfl
  | some n =>
    obtain ⟨e, g, hl⟩ := Nm.join_some.1 hj
    exact absurd ⟨g, by rw [← e]; exact hl⟩ h

set_option maxRecDepth 100000 in
set_option maxHeartbeats 2000000 in
theorem rjoin_any (ls : List (List UInt8)) (sv : Value) (w : World) (hr : ReadS sv ls w) (hn : Nm.encL ls ≤ 50000) :
    Calls Tryd.prog 27 #[sv] w fun e w' => e = .returned (rjoinRet ls) ∧ Below w.heap.size w w' := by
  have hr' := hr
  obtain ⟨ao, cap, rfl, hc⟩ := hr.form
  have hll : ls.length ≤ 50000 := Nat.le_trans Nm.length_le_encL hn
  have HC := Lib.hid hc
  have HM := Lib.hid (fun (l : List UInt8) (h : l ∈ ls) => Nm.encL_mem h)
  clear hc
  go_enter Tryd.func27, Tryd.ntmps27
  go_wp2
  go_loop [4] (fun i => ∃ k : Nat, k ≤ ls.length ∧ i = .int .i64 k ∧ Hid (Nm.good (ls.take k))) (fun i => ls.length + 1 - (intOf i).toNat)
  case atStart => exact ⟨0, by omega, rfl, Lib.hid (fun _ h => by simp at h)⟩
  case round =>
    obtain ⟨k, hk, rfl, hg⟩ := hrel
    by_cases hlt : k < ls.length
    · obtain ⟨b, off, rfl, c1⟩ := HC.out k hlt
      have hst := List.take_succ_eq_append_getElem hlt
      have hm := HM.out ls[k] (List.getElem_mem hlt)
      have hbad : Hid (¬ (1 ≤ ls[k].length ∧ ls[k].length ≤ 63) → rjoinRet ls = .tuple #[.string ⟨#[]⟩, .bool false]) := Lib.hid (fun h => rjoinRet_none (join_bad (fun g => h (g.1 ls[k] (List.getElem_mem hlt)))))
      have hgood : Hid ((1 ≤ ls[k].length ∧ ls[k].length ≤ 63) → Nm.good (ls.take (k + 1))) := Lib.hid (fun h => by
        rw [hst]
        intro x hx
        rcases List.mem_append.1 hx with hx | hx
        · exact hg.out x hx
        · rw [List.mem_singleton.1 hx]; exact h)
      obtain ⟨l, hl⟩ : ∃ l, l = ls[k] := ⟨_, rfl⟩
      rw [← hl] at c1 hm hbad hgood
      replace c1 : w.cell? ⟨b, off + k, none⟩ = some (.string ⟨l.toArray⟩) := c1
      have hcase : l.length < 1 ∨ (1 ≤ l.length ∧ 63 < l.length) ∨ (1 ≤ l.length ∧ l.length ≤ 63) := by omega
      clear hst hl hg
      rcases hcase with h1 | ⟨h1, h2⟩ | ⟨h1, h2⟩
      · have HB := Lib.hid (hbad.out (by omega))
        obtain rfl : l = [] := List.length_eq_zero_iff.1 (by omega)
        go_wp2
        go_ret2
        exact ⟨by rw [HB.out]; rfl, Below.refl _ _⟩
      · have HB := Lib.hid (hbad.out (by omega))
        go_wp2
        go_ret2
        exact ⟨by rw [HB.out]; rfl, Below.refl _ _⟩
      · have HG := Lib.hid (hgood.out ⟨h1, h2⟩)
        go_wp2
        go_round
        case rel => exact ⟨k + 1, by omega, by go_num, HG⟩
        case measure => simp [intOf]; omega
    · obtain rfl : k = ls.length := by omega
      have hg' := hg.out
      rw [List.take_length] at hg'
      obtain ⟨n, hne⟩ : ∃ n, Nm.made ls = n := ⟨_, rfl⟩
      have hnl : n.length ≤ 50001 := by rw [← hne, Nm.made_length]; omega
      have HN := Lib.hid hne
      cases hv : Nm.valid n
      · have HV := Lib.hid hv
        have HB := Lib.hid (rjoinRet_none (join_bad (fun g => by rw [← hne, Nm.valid_made g.1 g.2] at hv; cases hv)))
        clear hg hg' hv hne
        go_wp2_with (first
          | (go_at_call 44; refine (rmade_any ls _ _ hr' (by omega)).mono ?_; rw [HN.out]; rintro e w' ⟨rfl, b1⟩)
          | (go_at_call 43; refine (rvalid_any n _ (by omega)).mono ?_; rw [HV.out]; rintro e w' ⟨rfl, b2⟩))
        go_ret2
        exact ⟨by rw [HB.out]; rfl, below_trans b1 b2⟩
      · have HV := Lib.hid hv
        have hle : n.length ≤ 255 := (Nm.labs_of_valid hv).2.2.2
        have HB := Lib.hid (rjoinRet_some (Nm.join_some.2 ⟨hne.symm, hg', hle⟩))
        clear hg hg' hv hne
        go_wp2_with (first
          | (go_at_call 44; refine (rmade_any ls _ _ hr' (by omega)).mono ?_; rw [HN.out]; rintro e w' ⟨rfl, b1⟩)
          | (go_at_call 43; refine (rvalid_any n _ (by omega)).mono ?_; rw [HV.out]; rintro e w' ⟨rfl, b2⟩))
        go_ret2
        exact ⟨by rw [HB.out]; rfl, below_trans b1 b2⟩

namespace Nm
theorem valid_fold (n : List UInt8) : valid (fold n) = valid n := by
  unfold fold
  split
  · rename_i h
    rw [h]
    obtain ⟨_, e, g, l⟩ := labs_of_valid h
    rw [e, folded_made g]
    exact valid_made (good_folded g) (by rw [← folded_made g, folded_length, ← e]; exact l)
  · rfl
theorem fold_length (n : List UInt8) : (fold n).length = n.length := by
  unfold fold; split
  · exact folded_length n
  · rfl
theorem labsD_fold {n : List UInt8} (h : valid n = true) : labsD (fold n) = (labsD n).map folded := by
  obtain ⟨_, e, g, l⟩ := labs_of_valid h
  unfold fold
  rw [if_pos h]
  conv => lhs; rw [e, folded_made g]
  exact labsD_of_made (good_folded g) (by rw [← folded_made g, folded_length, ← e]; exact l)
theorem under_bad {n z : List UInt8} (h : valid n = false ∨ valid z = false) : under n z = false := by
  unfold under
  unfold valid at h
  rcases h with h | h
  · cases hn : labs n with
    | none => rfl
    | some a => rw [hn] at h; cases h
  · cases hz : labs z with
    | none => cases labs n <;> rfl
    | some a => rw [hz] at h; cases h
theorem suffix_drop {A Z : List (List UInt8)} (h : Z.length ≤ A.length) : Z <:+ A ↔ A.drop (A.length - Z.length) = Z := by
  constructor
  · rintro ⟨t, rfl⟩
    rw [List.length_append, Nat.add_sub_cancel, List.drop_left' rfl]
  · intro e
    have := List.drop_suffix (A.length - Z.length) A
    rwa [e] at this
end Nm

set_option maxRecDepth 100000 in
set_option maxHeartbeats 4000000 in
theorem runder_any (n z : List UInt8) (w : World) (hs : n.length ≤ 100000) (hz : z.length ≤ 100000) :
    Calls Tryd.prog 31 #[.string ⟨n.toArray⟩, .string ⟨z.toArray⟩] w fun e w' => e = .returned (.bool (Nm.under n z)) ∧ Below w.heap.size w w' := by
  obtain ⟨u, hu⟩ : ∃ u, Nm.under n z = u := ⟨_, rfl⟩
  rw [hu]
  obtain ⟨fn, hfn⟩ : ∃ f, Nm.fold n = f := ⟨_, rfl⟩
  obtain ⟨fz, hfz⟩ : ∃ f, Nm.fold z = f := ⟨_, rfl⟩
  have hfnl : fn.length ≤ 100000 := by rw [← hfn, Nm.fold_length]; exact hs
  have hfzl : fz.length ≤ 100000 := by rw [← hfz, Nm.fold_length]; exact hz
  have HFN := Lib.hid hfn
  have HFZ := Lib.hid hfz
  obtain ⟨xn, hxn⟩ : ∃ x, Nm.valid n = x := ⟨_, rfl⟩
  obtain ⟨xz, hxz⟩ : ∃ x, Nm.valid z = x := ⟨_, rfl⟩
  have HVN : Hid (Nm.valid fn = xn) := Lib.hid (by rw [← hfn, Nm.valid_fold, hxn])
  have HVZ : Hid (Nm.valid fz = xz) := Lib.hid (by rw [← hfz, Nm.valid_fold, hxz])
  have bb : Below w.heap.size w w := Below.refl _ _
  by_cases hbad : xn = false ∨ xz = false
  · obtain rfl : u = false := by rw [← hu]; exact Nm.under_bad (by rw [hxn, hxz]; exact hbad)
    have hcase : xn = false ∨ (xn = true ∧ xz = false) := by cases xn <;> simp_all
    clear hbad hu hfn hfz hxn hxz
    rcases hcase with rfl | ⟨rfl, rfl⟩
    all_goals
      go_enter Tryd.func31, Tryd.ntmps31
      go_wp2_with (first
        | (go_at_call 20; with_reducible refine (rfold_any n _ hs).mono ?_; rw [HFN.out]; rintro e w' ⟨rfl, b1⟩; replace bb := below_trans bb b1; clear b1)
        | (go_at_call 20; with_reducible refine (rfold_any z _ hz).mono ?_; rw [HFZ.out]; rintro e w' ⟨rfl, b1⟩; replace bb := below_trans bb b1; clear b1)
        | (go_at_call 12; (with_reducible refine (rlabels_any fn _ hfnl).mono ?_); rintro e w' ⟨v1, L1, rfl, ho1, b1, hL1, hl1⟩; rw [HVN.out]; replace bb := below_trans bb b1; clear b1 ho1 hL1 hl1)
        | (go_at_call 12; (with_reducible refine (rlabels_any fz _ hfzl).mono ?_); rintro e w' ⟨v2, L2, rfl, ho2, b1, hL2, hl2⟩; rw [HVZ.out]; replace bb := below_trans bb b1; clear b1 ho2 hL2 hl2))
      go_ret
      exact ⟨rfl, bb⟩
  obtain rfl : xn = true := by cases xn <;> simp_all
  obtain rfl : xz = true := by cases xz <;> simp_all
  have HU : Hid (∀ L1 L2, L1 = Nm.labsD fn → L2 = Nm.labsD fz → u = decide (L2 <:+ L1)) := Lib.hid (fun L1 L2 e1 e2 => by
    rw [e1, e2, ← hu, ← hfn, ← hfz, Nm.labsD_fold hxn, Nm.labsD_fold hxz, Nm.under_valid hxn hxz])
  clear hbad hu hfn hfz hxn hxz
  go_enter Tryd.func31, Tryd.ntmps31
  go_wp2_with fail
  refine (rfold_any n _ hs).mono ?_
  rw [HFN.out]
  rintro e w1 ⟨rfl, b1⟩
  go_wp2_with fail
  refine (rlabels_any fn _ hfnl).mono ?_
  rintro e w2 ⟨v1, L1, rfl, ho1, b2, hL1, hl1⟩
  rw [HVN.out]
  replace hL1 := hL1 HVN.out
  have rd1 := ownS_read ho1
  obtain ⟨a1, c1, rfl, _⟩ := own_slice_cap ho1
  clear ho1
  have HL1 := Lib.hid hL1
  clear hL1
  replace b2 := below_trans b1 b2
  go_wp2_with fail
  refine (rfold_any z _ hz).mono ?_
  rw [HFZ.out]
  rintro e w3 ⟨rfl, b3⟩
  have rd1' := readS_below rd1 b3
  replace b3 := below_trans b2 b3
  go_wp2_with fail
  refine (rlabels_any fz _ hfzl).mono ?_
  rintro e w4 ⟨v2, L2, rfl, ho2, b4, hL2, hl2⟩
  rw [HVZ.out]
  replace hL2 := hL2 HVZ.out
  have rd2 := ownS_read ho2
  have rd1'' := readS_below rd1' b4
  obtain ⟨a2, c2, rfl, _⟩ := own_slice_cap ho2
  replace b4 := below_trans b3 b4
  have HU2 := Lib.hid (HU.out L1 L2 HL1.out hL2)
  clear ho2 hL2 HL1 rd1 rd1'
  by_cases hlen : L1.length < L2.length
  · obtain rfl : u = false := by
      rw [HU2.out, decide_eq_false_iff_not]
      intro h
      have := h.length_le
      omega
    go_wp2
    go_ret
    exact ⟨rfl, b4⟩
  · obtain ⟨_, _, e1, hc1⟩ := rd1''.form
    obtain ⟨_, _, e2, hc2⟩ := rd2.form
    injection e1 with e1 _ _
    injection e2 with e2 _ _
    subst e1 e2
    have HC1 := Lib.hid hc1
    have HC2 := Lib.hid hc2
    have HSF : Hid (u = decide (L1.drop (L1.length - L2.length) = L2)) := Lib.hid (by rw [HU2.out]; rw [Bool.eq_iff_iff, decide_eq_true_eq, decide_eq_true_eq]; exact Nm.suffix_drop (by omega))
    clear hc1 hc2 HU2 HU rd1'' rd2
    go_wp2
    go_loopw [9] (fun i wr => ∃ k : Nat, k ≤ L2.length ∧ i = .int .i64 (k : Int) ∧ Drew w4 wr ∧ Hid ((L1.drop (L1.length - L2.length)).take k = L2.take k)) (fun i _ => L2.length + 1 - (intOf i).toNat)
    case atStart => exact ⟨0, by omega, rfl, Drew.refl _, Lib.hid rfl⟩
    case round =>
      obtain ⟨k, hk, rfl, hd, he⟩ := hrel
      by_cases hlt : k < L2.length
      · have hlt1 : L1.length - L2.length + k < L1.length := by omega
        obtain ⟨g1, o1, rfl, d1⟩ := HC1.out (L1.length - L2.length + k) hlt1
        obtain ⟨g2, o2, rfl, d2⟩ := HC2.out k hlt
        replace d1 := (hd.cell _).trans d1
        replace d2 := (hd.cell _).trans d2
        simp only [encS] at d1 d2
        have hge : (L1.drop (L1.length - L2.length))[k]'(by rw [List.length_drop]; omega) = L1[L1.length - L2.length + k] := by rw [List.getElem_drop]
        have hta := List.take_succ_eq_append_getElem (l := L1.drop (L1.length - L2.length)) (i := k) (by rw [List.length_drop]; omega)
        have htb := List.take_succ_eq_append_getElem hlt
        rw [hge] at hta
        obtain ⟨m, hm⟩ : ∃ m, m = L1.length - L2.length + k := ⟨_, rfl⟩
        obtain ⟨x, hx⟩ : ∃ x, x = L1[L1.length - L2.length + k] := ⟨_, rfl⟩
        obtain ⟨y, hy⟩ : ∃ y, y = L2[k] := ⟨_, rfl⟩
        rw [← hx] at d1 hta hge
        rw [← hy] at d2 htb
        by_cases hxy : x = y
        · have HS : Hid ((L1.drop (L1.length - L2.length)).take (k + 1) = L2.take (k + 1)) := Lib.hid (by rw [hta, htb, he.out, hxy])
          subst hxy
          clear hx hy hm hta htb hge
          go_wp2
          go_quiet (fail)
          go_wp2
          exact ⟨⟨k + 1, by omega, by go_num, hd.drewN _, HS⟩, by simp [intOf]; omega⟩
        · obtain rfl : u = false := by
            rw [HSF.out, decide_eq_false_iff_not]
            intro e
            apply hxy
            rw [hx, ← List.getElem_drop (h := by rw [List.length_drop]; omega), hy]
            congr 1
          have hxyb : (x == y) = false := by rw [beq_eq_false_iff_ne]; exact hxy
          clear hx hy hm hta htb hge hxy
          go_wp2
          go_quiet (fail)
          go_wp2
          go_ret
          exact ⟨rfl, b4.trans (hd.drewN _).below⟩
      · obtain rfl : k = L2.length := by omega
        obtain rfl : u = true := by
          rw [HSF.out, decide_eq_true_eq]
          have := he.out
          rw [List.take_length, List.take_of_length_le (by rw [List.length_drop]; omega)] at this
          exact this
        clear he
        go_wp2
        go_ret
        exact ⟨rfl, b4.trans hd.below⟩
end Go.Proofs.YtiodfiegknkceaaDoor
