/- The document's own Less, Common (freshetref1). -/
import Derived.Test.YtiodfiegknkceaaDoorRef2
import Derived.Test.YtiodfiegknkceaaDoorCommonMath
namespace Go.Proofs.YtiodfiegknkceaaDoor
open Go.RowKit Go.Shelf
attribute [local go_sem] Oper.semAt_some

namespace Nm
theorem bytesLess_folded : ∀ x y : List UInt8, Op.bytesLess (folded x) (folded y) = decide (cmpN x y < 0)
  | [], [] => by simp [folded, Op.bytesLess, cmpN]
  | [], _ :: _ => by simp [folded, Op.bytesLess, cmpN]
  | _ :: _, [] => by simp [folded, Op.bytesLess, cmpN]
  | a :: x, b :: y => by
    have ih := bytesLess_folded x y
    simp only [folded] at ih
    simp only [folded, List.map_cons, Op.bytesLess, ih]
    rcases Nat.lt_trichotomy (small a).toNat (small b).toNat with h | h | h
    · rw [cmpN_cons_lt h]
      have : small a < small b := by rw [UInt8.lt_iff_toNat_lt]; exact h
      simp [this]
    · rw [cmpN_cons_eq h]
      have e : small a = small b := by rw [← UInt8.toNat_inj]; exact h
      simp [e]
    · rw [cmpN_cons_gt h]
      have h1 : ¬ small a < small b := by rw [UInt8.lt_iff_toNat_lt]; omega
      have h2 : small a ≠ small b := fun e => by rw [e] at h; omega
      simp [h1, h2]
theorem less_bad {n z : List UInt8} (h : valid n = false ∨ valid z = false) : less n z = false := by
  unfold less
  rcases h with h | h <;> simp [h]
theorem rev_get {A : List (List UInt8)} {k : Nat} (h : k < A.length) : A.reverse.drop k = A[A.length - 1 - k]'(by omega) :: A.reverse.drop (k + 1) := by
  rw [List.drop_eq_getElem_cons (by rw [List.length_reverse]; exact h), List.getElem_reverse]
/-- One step from the end. -/
theorem lessR_step {A B : List (List UInt8)} {k : Nat} (ha : k < A.length) (hb : k < B.length) :
    lessR (A.reverse.drop k) (B.reverse.drop k) = if folded (A[A.length - 1 - k]'(by omega)) = folded (B[B.length - 1 - k]'(by omega)) then lessR (A.reverse.drop (k + 1)) (B.reverse.drop (k + 1)) else Op.bytesLess (folded (A[A.length - 1 - k]'(by omega))) (folded (B[B.length - 1 - k]'(by omega))) := by
  rw [rev_get ha, rev_get hb, lessR]
  by_cases h : folded (A[A.length - 1 - k]'(by omega)) = folded (B[B.length - 1 - k]'(by omega))
  · rw [if_pos h, if_neg (by rw [cmpN_zero.2 h]; simp)]
  · rw [if_neg h, if_pos (fun e => h (cmpN_zero.1 e)), bytesLess_folded]
theorem lessR_over {A B : List (List UInt8)} {k : Nat} (h : k ≤ A.length ∧ k ≤ B.length) (h2 : k = A.length ∨ k = B.length) : lessR (A.reverse.drop k) (B.reverse.drop k) = decide (A.length < B.length) := by
  rcases h2 with rfl | rfl
  · rw [List.drop_of_length_le (l := A.reverse) (by simp)]
    by_cases h3 : A.length < B.length
    · rw [rev_get h3, decide_eq_true h3]; rfl
    · rw [List.drop_of_length_le (by simp; omega), decide_eq_false h3]; rfl
  · rw [List.drop_of_length_le (l := B.reverse) (by simp), decide_eq_false (by omega)]
    cases A.reverse.drop B.length <;> rfl
end Nm

set_option maxRecDepth 100000 in
set_option maxHeartbeats 4000000 in
theorem rless_any (n z : List UInt8) (w : World) (hs : n.length ≤ 100000) (hz : z.length ≤ 100000) :
    Calls Tryd.prog 33 #[.string ⟨n.toArray⟩, .string ⟨z.toArray⟩] w fun e w' => e = .returned (.bool (Nm.less n z)) ∧ Below w.heap.size w w' := by
  obtain ⟨u, hu⟩ : ∃ u, Nm.less n z = u := ⟨_, rfl⟩
  rw [hu]
  obtain ⟨fn, hfn⟩ : ∃ f, Nm.fold n = f := ⟨_, rfl⟩
  obtain ⟨fz, hfz⟩ : ∃ f, Nm.fold z = f := ⟨_, rfl⟩
  have hfnl : fn.length ≤ 100000 := by rw [← hfn, Nm.fold_length]; exact hs
  have hfzl : fz.length ≤ 100000 := by rw [← hfz, Nm.fold_length]; exact hz
  have HFN := Lib.hid hfn
  have HFZ := Lib.hid hfz
  obtain ⟨xn, hxn⟩ : ∃ x, Nm.valid n = x := ⟨_, rfl⟩
  obtain ⟨xz, hxz⟩ : ∃ x, Nm.valid z = x := ⟨_, rfl⟩
  have HVN : Hid (Nm.valid fn = xn) := Lib.hid (by rw [← hfn, Nm.valid_fold, hxn])
  have HVZ : Hid (Nm.valid fz = xz) := Lib.hid (by rw [← hfz, Nm.valid_fold, hxz])
  have bb : Below w.heap.size w w := Below.refl _ _
  by_cases hbad : xn = false ∨ xz = false
  · obtain rfl : u = false := by rw [← hu]; exact Nm.less_bad (by rw [hxn, hxz]; exact hbad)
    have hcase : xn = false ∨ (xn = true ∧ xz = false) := by cases xn <;> simp_all
    clear hbad hu hfn hfz hxn hxz
    rcases hcase with rfl | ⟨rfl, rfl⟩
    all_goals
      go_enter Tryd.func33, Tryd.ntmps33
      go_wp2_with (first
        | (go_at_call 20; with_reducible refine (rfold_any n _ hs).mono ?_; rw [HFN.out]; rintro e w' ⟨rfl, b1⟩; replace bb := below_trans bb b1; clear b1)
        | (go_at_call 20; with_reducible refine (rfold_any z _ hz).mono ?_; rw [HFZ.out]; rintro e w' ⟨rfl, b1⟩; replace bb := below_trans bb b1; clear b1)
        | (go_at_call 12; (with_reducible refine (rlabels_any fn _ hfnl).mono ?_); rintro e w' ⟨v1, L1, rfl, ho1, b1, hL1, hl1⟩; rw [HVN.out]; replace bb := below_trans bb b1; clear b1 ho1 hL1 hl1)
        | (go_at_call 12; (with_reducible refine (rlabels_any fz _ hfzl).mono ?_); rintro e w' ⟨v2, L2, rfl, ho2, b1, hL2, hl2⟩; rw [HVZ.out]; replace bb := below_trans bb b1; clear b1 ho2 hL2 hl2))
      go_ret
      exact ⟨rfl, bb⟩
  obtain rfl : xn = true := by cases xn <;> simp_all
  obtain rfl : xz = true := by cases xz <;> simp_all
  have HU : Hid (∀ L1 L2, L1 = Nm.labsD fn → L2 = Nm.labsD fz → ∃ A B : List (List UInt8), L1 = A.map Nm.folded ∧ L2 = B.map Nm.folded ∧ u = Nm.lessR A.reverse B.reverse) := Lib.hid (fun L1 L2 e1 e2 => by
    refine ⟨Nm.labsD n, Nm.labsD z, ?_, ?_, ?_⟩
    · rw [e1, ← hfn, Nm.labsD_fold hxn]
    · rw [e2, ← hfz, Nm.labsD_fold hxz]
    · rw [← hu, Nm.less_valid hxn hxz])
  clear hbad hu hfn hfz hxn hxz
  go_enter Tryd.func33, Tryd.ntmps33
  go_wp2_with fail
  refine (rfold_any n _ hs).mono ?_
  rw [HFN.out]
  rintro e w1 ⟨rfl, b1⟩
  go_wp2_with fail
  refine (rlabels_any fn _ hfnl).mono ?_
  rintro e w2 ⟨v1, L1, rfl, ho1, b2, hL1, hl1⟩
  rw [HVN.out]
  replace hL1 := hL1 HVN.out
  have rd1 := ownS_read ho1
  obtain ⟨a1, c1, rfl, _⟩ := own_slice_cap ho1
  clear ho1
  have HL1 := Lib.hid hL1
  clear hL1
  replace b2 := below_trans b1 b2
  go_wp2_with fail
  refine (rfold_any z _ hz).mono ?_
  rw [HFZ.out]
  rintro e w3 ⟨rfl, b3⟩
  have rd1' := readS_below rd1 b3
  replace b3 := below_trans b2 b3
  go_wp2_with fail
  refine (rlabels_any fz _ hfzl).mono ?_
  rintro e w4 ⟨v2, L2, rfl, ho2, b4, hL2, hl2⟩
  rw [HVZ.out]
  replace hL2 := hL2 HVZ.out
  have rd2 := ownS_read ho2
  have rd1'' := readS_below rd1' b4
  obtain ⟨a2, c2, rfl, _⟩ := own_slice_cap ho2
  replace b4 := below_trans b3 b4
  obtain ⟨A, B, eA, eB, hur⟩ := HU.out L1 L2 HL1.out hL2
  have hAl : L1.length = A.length := by rw [eA, List.length_map]
  have hBl : L2.length = B.length := by rw [eB, List.length_map]
  have HUR := Lib.hid hur
  have HEA := Lib.hid eA
  have HEB := Lib.hid eB
  have HAL := Lib.hid hAl
  have HBL := Lib.hid hBl
  clear ho2 hL2 HL1 rd1 rd1' HU hur eA eB hAl hBl
  obtain ⟨_, _, e1, hc1⟩ := rd1''.form
  obtain ⟨_, _, e2, hc2⟩ := rd2.form
  injection e1 with e1 _ _
  injection e2 with e2 _ _
  subst e1 e2
  have HC1 := Lib.hid hc1
  have HC2 := Lib.hid hc2
  clear hc1 hc2 rd1'' rd2
  go_wp2
  go_loopw [9, 10, 11] (fun i p q wr => ∃ k : Nat, k ≤ L1.length ∧ k ≤ L2.length ∧ i = .int .i64 ((k : Int) + 1) ∧ Drew w4 wr ∧ Hid (Nm.lessR (A.reverse.drop k) (B.reverse.drop k) = u)) (fun i _ _ _ => L2.length + 2 - (intOf i).toNat)
  case atStart => exact ⟨0, by omega, by omega, by first | rfl | go_num, Drew.refl _, Lib.hid (by rw [List.drop_zero, List.drop_zero]; exact HUR.out.symm)⟩
  case round =>
    obtain ⟨k, hk1, hk2, rfl, hd, he⟩ := hrel
    by_cases hlt : k < L1.length ∧ k < L2.length
    · obtain ⟨hlt1, hlt2⟩ := hlt
      have hA := HAL.out
      have hB := HBL.out
      have hst := Nm.lessR_step (A := A) (B := B) (k := k) (by omega) (by omega)
      rw [he.out] at hst
      obtain ⟨g1, o1, rfl, d1⟩ := HC1.out (L1.length - 1 - k) (by omega)
      obtain ⟨g2, o2, rfl, d2⟩ := HC2.out (L2.length - 1 - k) (by omega)
      replace d1 := (hd.cell _).trans d1
      replace d2 := (hd.cell _).trans d2
      simp only [encS] at d1 d2
      have hx1 : L1[L1.length - 1 - k] = Nm.folded (A[A.length - 1 - k]'(by omega)) := by
        have e := HEA.out
        subst e
        simp
      have hy1 : L2[L2.length - 1 - k] = Nm.folded (B[B.length - 1 - k]'(by omega)) := by
        have e := HEB.out
        subst e
        simp
      rw [← hx1, ← hy1] at hst
      obtain ⟨x, hx⟩ : ∃ x, x = L1[L1.length - 1 - k] := ⟨_, rfl⟩
      obtain ⟨y, hy⟩ : ∃ y, y = L2[L2.length - 1 - k] := ⟨_, rfl⟩
      rw [← hx] at d1 hst
      rw [← hy] at d2 hst
      have p1 : L1.length - 1 - k = L1.length - (k + 1) := by omega
      have p2 : L2.length - 1 - k = L2.length - (k + 1) := by omega
      rw [p1] at d1
      rw [p2] at d2
      by_cases hxy : x = y
      · rw [if_pos hxy] at hst
        have HS := Lib.hid hst.symm
        subst hxy
        clear hx hy hx1 hy1 hst hA hB p1 p2
        go_wp2
        go_quiet (fail)
        go_wp2
        exact ⟨⟨k + 1, by omega, by omega, by go_num, hd.drewN _, HS⟩, by simp [intOf]; omega⟩
      · rw [if_neg hxy] at hst
        have HS := Lib.hid hst
        have hxyb : (x == y) = false := by rw [beq_eq_false_iff_ne]; exact hxy
        clear hx hy hx1 hy1 hst hA hB p1 p2 hxy
        go_wp2
        go_quiet (fail)
        go_wp2
        go_ret
        exact ⟨ret_bool HS.out.symm, b4.trans (hd.drewN _).below⟩
    · have hov := Nm.lessR_over (A := A) (B := B) (k := k) (by rw [← HAL.out, ← HBL.out]; omega) (by rw [← HAL.out, ← HBL.out]; omega)
      rw [he.out, ← HAL.out, ← HBL.out] at hov
      have HF := Lib.hid hov
      have hcase : L1.length = k ∨ (k < L1.length ∧ L2.length = k) := by omega
      clear hov he hlt
      rcases hcase with h1 | ⟨h1, h2⟩
      · have h3 : L1.length ≤ k := by omega
        clear h1
        go_wp2
        go_ret
        exact ⟨ret_bool (by rw [HF.out]), b4.trans hd.below⟩
      · have h3 : L2.length ≤ k := by omega
        clear h2
        go_wp2
        go_ret
        exact ⟨ret_bool (by rw [HF.out]), b4.trans hd.below⟩

namespace Nm
theorem common_bad {a b : List UInt8} (h : valid a = false ∨ valid b = false) : commonC a b = [0] := by
  unfold commonC placesN
  rcases h with h | h
  · have : labsD a = [] := by
      unfold valid at h
      unfold labsD
      cases e : labs a with
      | none => rfl
      | some l => rw [e] at h; cases h
    rw [this]; rfl
  · have : (posOf 0 (labsD a)).find? (fun k => under b (a.drop k)) = none := by
      rw [List.find?_eq_none]
      intro x _
      rw [under_bad (.inl h)]; simp
    rw [this]
end Nm
set_option maxRecDepth 100000 in
set_option maxHeartbeats 4000000 in
theorem rcommon_any (a b : List UInt8) (w : World) (ha : a.length ≤ 100000) (hb : b.length ≤ 100000) :
    Calls Tryd.prog 35 #[.string ⟨a.toArray⟩, .string ⟨b.toArray⟩] w fun e w' => e = .returned (.string ⟨(Nm.commonC a b).toArray⟩) ∧ Below w.heap.size w w' := by
  obtain ⟨c, hc⟩ : ∃ c, Nm.commonC a b = c := ⟨_, rfl⟩
  rw [hc]
  obtain ⟨xa, hxa⟩ : ∃ x, Nm.valid a = x := ⟨_, rfl⟩
  obtain ⟨xb, hxb⟩ : ∃ x, Nm.valid b = x := ⟨_, rfl⟩
  have HXA := Lib.hid hxa
  have HXB := Lib.hid hxb
  have bb : Below w.heap.size w w := Below.refl _ _
  by_cases hbad : xa = false ∨ xb = false
  · obtain rfl : c = [0] := by rw [← hc]; exact Nm.common_bad (by rw [hxa, hxb]; exact hbad)
    have hcase : xa = false ∨ (xa = true ∧ xb = false) := by cases xa <;> simp_all
    clear hbad hc hxa hxb
    rcases hcase with rfl | ⟨rfl, rfl⟩
    all_goals
      go_enter Tryd.func35, Tryd.ntmps35
      go_wp2_with (first
        | (go_at_call 43; with_reducible refine (rvalid_any a _ ha).mono ?_; rw [HXA.out]; rintro e w' ⟨rfl, b1⟩; replace bb := below_trans bb b1; clear b1)
        | (go_at_call 43; with_reducible refine (rvalid_any b _ hb).mono ?_; rw [HXB.out]; rintro e w' ⟨rfl, b1⟩; replace bb := below_trans bb b1; clear b1))
      go_ret
      exact ⟨rfl, bb⟩
  obtain rfl : xa = true := by cases xa <;> simp_all
  obtain rfl : xb = true := by cases xb <;> simp_all
  obtain ⟨_, ea, ga, la⟩ := Nm.labs_of_valid hxa
  have HC : Hid (c = Nm.made (Nm.commonL (Nm.labsD b) (Nm.labsD a))) := Lib.hid (by rw [← hc]; exact Nm.commonC_valid hxa hxb)
  have HST : Hid (∀ i, i ≤ (Nm.labsD a).length → Nm.valid (Nm.made ((Nm.labsD a).drop i)) = true ∧ Nm.labsD (Nm.made ((Nm.labsD a).drop i)) = (Nm.labsD a).drop i ∧ (Nm.made ((Nm.labsD a).drop i)).length ≤ 255) := Lib.hid (fun i hi => by
    have gd : Nm.good ((Nm.labsD a).drop i) := fun x hx => ga x (List.mem_of_mem_drop hx)
    have hle : (Nm.made ((Nm.labsD a).drop i)).length ≤ 255 := by
      have := Nm.encL_append ((Nm.labsD a).take i) ((Nm.labsD a).drop i)
      rw [List.take_append_drop] at this
      rw [ea, Nm.made_length] at la
      rw [Nm.made_length]; omega
    exact ⟨Nm.valid_made gd hle, Nm.labsD_of_made gd hle, hle⟩)
  have HEA := Lib.hid ea
  clear hbad hc ea ga la hxa hxb
  go_enter Tryd.func35, Tryd.ntmps35
  go_wp2_with (first
    | (go_at_call 43; with_reducible refine (rvalid_any a _ ha).mono ?_; rw [HXA.out]; rintro e w' ⟨rfl, b1⟩; replace bb := below_trans bb b1; clear b1)
    | (go_at_call 43; with_reducible refine (rvalid_any b _ hb).mono ?_; rw [HXB.out]; rintro e w' ⟨rfl, b1⟩; replace bb := below_trans bb b1; clear b1))
  go_loopw [0] (fun s wr => ∃ (i : Nat) (m : List UInt8), i ≤ (Nm.labsD a).length ∧ s = .string ⟨m.toArray⟩ ∧ m.length ≤ 100000 ∧ Below w.heap.size w wr ∧ Hid (m = Nm.made ((Nm.labsD a).drop i) ∧ Nm.commonL (Nm.labsD b) ((Nm.labsD a).drop i) = Nm.commonL (Nm.labsD b) (Nm.labsD a))) (fun s _ => (match s with | .string b => b.size | _ => 0))
  case atStart => exact ⟨0, a, by omega, rfl, ha, bb, Lib.hid ⟨HEA.out, rfl⟩⟩
  case round =>
    obtain ⟨i, m, hi, rfl, hml, bw, hh⟩ := hrel
    obtain ⟨hv, hd, hl⟩ := HST.out i hi
    have hvb := HXB.out
    rw [← hh.out.1] at hv hd hl
    have hund := Nm.under_valid (a := b) (b := m) hvb hv
    rw [hd] at hund
    obtain ⟨x, hx⟩ : ∃ x, Nm.under b m = x := ⟨_, rfl⟩
    have HX := Lib.hid hx
    cases x
    · have hlt : i < (Nm.labsD a).length := by
        rcases Nat.lt_or_ge i (Nm.labsD a).length with h | h
        · exact h
        · exfalso
          rw [List.drop_of_length_le h] at hund
          rw [hund] at hx
          simp at hx
      have hp : Nm.parent m = Nm.made ((Nm.labsD a).drop (i + 1)) := by
        unfold Nm.parent
        rw [hd, List.drop_eq_getElem_cons hlt]
      have hcl : Nm.commonL (Nm.labsD b) ((Nm.labsD a).drop (i + 1)) = Nm.commonL (Nm.labsD b) (Nm.labsD a) := by
        rw [← hh.out.2, List.drop_eq_getElem_cons hlt, Nm.commonL, if_neg]
        rw [← List.drop_eq_getElem_cons hlt]
        rw [hund] at hx
        simpa using hx
      obtain ⟨m2, hm2⟩ : ∃ m2, Nm.parent m = m2 := ⟨_, rfl⟩
      have HM2 := Lib.hid hm2
      have hlen : m2.length < m.length := by
        rw [← hm2, hp, hh.out.1, List.drop_eq_getElem_cons hlt, Nm.made_length, Nm.made_length, Nm.encL]; omega
      have HN : Hid (m2 = Nm.made ((Nm.labsD a).drop (i + 1)) ∧ Nm.commonL (Nm.labsD b) ((Nm.labsD a).drop (i + 1)) = Nm.commonL (Nm.labsD b) (Nm.labsD a)) := Lib.hid ⟨by rw [← hm2]; exact hp, hcl⟩
      clear hund hx hv hd hvb hp hcl hm2 hh
      go_wp2_with (first
        | (go_at_call 31; refine (runder_any b m _ hb (by omega)).mono ?_; rw [HX.out]; rintro e w' ⟨rfl, b1⟩; replace bw := below_trans bw b1; clear b1)
        | (go_at_call 22; refine (rparent_any m _ (by omega)).mono ?_; rw [HM2.out]; rintro e w' ⟨rfl, b1⟩; replace bw := below_trans bw b1; clear b1))
      go_roundw
      case rel => exact ⟨i + 1, m2, hlt, rfl, by omega, bw, HN⟩
      case measure =>
        show m2.toArray.size < m.toArray.size
        simpa using hlen
    · have hcm : c = m := by
        rw [HC.out, ← hh.out.2, hh.out.1]
        congr 1
        cases hdd : (Nm.labsD a).drop i with
        | nil => rfl
        | cons l ls =>
          rw [Nm.commonL, if_pos]
          rw [← hdd]
          rw [hund] at hx
          simpa using hx
      have HCM := Lib.hid hcm
      clear hund hx hv hd hvb hcm hh
      go_wp2_with (go_at_call 31; refine (runder_any b m _ hb (by omega)).mono ?_; rw [HX.out]; rintro e w' ⟨rfl, b1⟩; replace bw := below_trans bw b1; clear b1)
      go_ret
      exact ⟨ret_str HCM.out.symm, bw⟩
end Go.Proofs.YtiodfiegknkceaaDoor
