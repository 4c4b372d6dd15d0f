/- 2 texts put together: Small, MCheck. -/
import Derived.Test.YtdodamkndigjkaaJB8
import Derived.Test.YtdodamkndigjkaaJB22
/- Whether a message is looked at: Records, Small. -/
namespace Go.Proofs.Ytdodamkndigjkaa
open Go.RowKit Go.Shelf
attribute [local go_sem] Oper.semAt_some

/-- What is known of records that are few and short. -/
structure FewR (l : List Rd.RR) (top : Nat) : Prop where
  len : l.length ≤ top
  all : ∀ r ∈ l, r.name.length ≤ top ∧ r.data.length ≤ top
def FewRet (l : List Rd.RR) (top : Nat) (w : World) (e : Ending) (w' : World) : Prop := ∃ b, e = .returned (.bool b) ∧ (b = true → FewR l top) ∧ Below w.heap.size w w'

set_option maxRecDepth 100000 in
set_option maxHeartbeats 8000000 in
theorem records_any (l : List Rd.RR) (top : Nat) (va : Value) (w : World) (ha : ReadR va l w) (hl : l.length ≤ 9223372036854775807) (hll : ∀ r ∈ l, r.name.length ≤ 9223372036854775807 ∧ r.data.length ≤ 9223372036854775807) (ht : top ≤ 10000) :
    Calls Try.prog 11 #[va, .int .i64 (top : Int)] w (FewRet l top w) := by
  obtain ⟨ao, cap, rfl, _⟩ := ha.form
  have HLL := Lib.hid hll
  clear hll
  go_enter Try.func11, Try.ntmps11
  go_wp2
  go_loopw [5, 6] (fun n i wr => ∃ k Nn : Nat, i = .int .i64 (k : Int) ∧ n = .int .i64 (Nn : Int) ∧ k ≤ l.length ∧ l.length ≤ Nn ∧ (Nn ≤ l.length ∨ Nn ≤ 30000) ∧ Hid (∀ j (h : j < l.length), j < k → l[j].name.length ≤ top ∧ l[j].data.length ≤ top) ∧ Below w.heap.size w wr) (fun _ i _ => l.length + 1 - (intOf i).toNat)
  case atStart => exact ⟨0, l.length, rfl, rfl, by omega, Nat.le_refl _, .inl (Nat.le_refl _), Lib.hid (fun j _ h => by omega), Below.refl _ w⟩
  case round =>
    obtain ⟨k, Nn, rfl, rfl, hk, hN, hN2, HJ0, hb⟩ := hrel
    have hNb : (Nn : Int) ≤ 9223372036854775807 := by omega
    clear hN2
    by_cases hlt : k < l.length
    · by_cases htop : Nn ≤ top
      · obtain ⟨g, f, rfl, x0, x1, x2, x3, x4⟩ := readR_at (readR_below ha hb) hlt
        have hll := HLL.out l[k] (List.getElem_mem hlt)
        have HJK := Lib.hid (fun (q : l[k].name.length ≤ top ∧ l[k].data.length ≤ top) => show ∀ j (h : j < l.length), j < k + 1 → l[j].name.length ≤ top ∧ l[j].data.length ≤ top from fun j h hj => by
          rcases Nat.lt_or_ge j k with h' | h'
          · exact HJ0.out j h h'
          · obtain rfl : j = k := by omega
            exact q)
        obtain ⟨⟨rn, rt, rc, rl, rd⟩, hpq⟩ : ∃ x, l[k] = x := ⟨_, rfl⟩
        rw [hpq] at x0 x4 hll HJK
        simp only at x0 x4 hll HJK
        clear hpq x1 x2 x3
        have hcase : top < rn.length ∨ (rn.length ≤ top ∧ top < rd.length) ∨ (rn.length ≤ top ∧ rd.length ≤ top) := by omega
        obtain ⟨hl1, hl2⟩ := hll
        rcases hcase with q1 | ⟨q1, q2⟩ | ⟨q1, q2⟩
        · go_wp2
          go_ret
          exact ⟨false, rfl, (fun h => nomatch h), hb⟩
        · go_wp2
          go_ret
          exact ⟨false, rfl, (fun h => nomatch h), hb⟩
        have HJ := Lib.hid (HJK.out ⟨q1, q2⟩)
        have HW1 : Hid (IntKind.i64.wrap ((Nn : Int) + (rn.length : Int)) = (Nn : Int) + (rn.length : Int)) := Lib.hid (IntWalk.i64_in _ (by omega))
        have HW2 : Hid (IntKind.i64.wrap ((Nn : Int) + (rn.length : Int) + (rd.length : Int)) = (Nn : Int) + (rn.length : Int) + (rd.length : Int)) := Lib.hid (IntWalk.i64_in _ (by omega))
        go_wp2_with fail
        have dW := (Below.refl wr.heap.size wr).drew
        replace x0 := keep_cell dW x0
        replace x4 := keep_cell dW x4
        clear dW
        refine wp_region_slots slotLe (slotPhi ((fun v _ => v = ?sx38) :: (fun v _ => v = ?sx39) :: (fun v _ => v = ?sx40) :: (fun v _ => v = ?sx41) :: (fun v _ => v = ?sx42) :: (fun v _ => v = ?sx43) :: (fun v _ => v = ?sx44) :: (fun v _ => v = ?sx45) :: (fun v _ => v = ?sx46) :: (fun v _ => v = ?sx47) :: (fun v _ => v = ?sx48) :: (fun v _ => v = ?sx49) :: (fun v _ => v = ?sx50) :: (fun v _ => v = ?sx51) :: (fun v _ => v = ?sx52) :: (fun v _ => v = ?sx5) :: [])) slotLe_refl slotLe_trans (slotPhi_stable ?stb) (by kernel_rfl) (by kernel_rfl) (by kernel_rfl) ?steps ?fin
        case stb =>
          refine ⟨by intro _ _ _ _ h; exact h, ?_⟩
          refine ⟨by intro _ _ _ _ h; exact h, ?_⟩
          refine ⟨by intro _ _ _ _ h; exact h, ?_⟩
          refine ⟨by intro _ _ _ _ h; exact h, ?_⟩
          refine ⟨by intro _ _ _ _ h; exact h, ?_⟩
          refine ⟨by intro _ _ _ _ h; exact h, ?_⟩
          refine ⟨by intro _ _ _ _ h; exact h, ?_⟩
          refine ⟨by intro _ _ _ _ h; exact h, ?_⟩
          refine ⟨by intro _ _ _ _ h; exact h, ?_⟩
          refine ⟨by intro _ _ _ _ h; exact h, ?_⟩
          refine ⟨by intro _ _ _ _ h; exact h, ?_⟩
          refine ⟨by intro _ _ _ _ h; exact h, ?_⟩
          refine ⟨by intro _ _ _ _ h; exact h, ?_⟩
          refine ⟨by intro _ _ _ _ h; exact h, ?_⟩
          refine ⟨by intro _ _ _ _ h; exact h, ?_⟩
          refine ⟨by intro _ _ _ _ h; exact h, ?_⟩
          exact trivial
        case steps =>
          refine ⟨?_, ?_⟩
          · intro a W K N hK
            have e5 : a.tmps[5]?.getD undef = .int .i64 (Nn : Int) := N.was' 5 _ (by kernel_rfl) rfl
            rw [if_pos (wanted_no rfl)]
            go_simp
            refine hK _ _ (slotLe_refl _) ?_
            exact rfl
          refine ⟨?_, ?_⟩
          · intro a W K N hK
            have e0 : a.tmps[0]?.getD undef = .slice (some ⟨g, f, none⟩) l.length cap := N.was' 0 _ (by kernel_rfl) rfl
            rw [if_pos (wanted_no rfl)]
            go_simp
            refine hK _ _ (slotLe_refl _) ?_
            exact rfl
          refine ⟨?_, ?_⟩
          · intro a W K N hK
            have e6 : a.tmps[6]?.getD undef = .int .i64 (k : Int) := N.was' 6 _ (by kernel_rfl) rfl
            rw [if_pos (wanted_no rfl)]
            go_simp
            refine hK _ _ (slotLe_refl _) ?_
            exact rfl
          refine ⟨?_, ?_⟩
          · intro a W K N hK
            have e39 : a.tmps[39]?.getD undef = _ := N.dep' 1 39 (by kernel_rfl)
            have e40 : a.tmps[40]?.getD undef = _ := N.dep' 2 40 (by kernel_rfl)
            rw [if_pos (wanted_no rfl)]
            go_simp
            refine hK _ _ (slotLe_refl _) ?_
            exact rfl
          refine ⟨?_, ?_⟩
          · intro a W K N hK
            have e41 : a.tmps[41]?.getD undef = _ := N.dep' 3 41 (by kernel_rfl)
            rw [if_pos (wanted_no rfl)]
            go_simp
            refine hK _ _ (slotLe_refl _) ?_
            exact rfl
          refine ⟨?_, ?_⟩
          · intro a W K N hK
            have e42 : a.tmps[42]?.getD undef = _ := N.dep' 4 42 (by kernel_rfl)
            rw [if_pos (wanted_no rfl)]
            have z0 := keep_cell N.le x0
            go_simp
            refine hK _ _ (slotLe_refl _) ?_
            exact rfl
          refine ⟨?_, ?_⟩
          · intro a W K N hK
            have e43 : a.tmps[43]?.getD undef = _ := N.dep' 5 43 (by kernel_rfl)
            rw [if_pos (wanted_no rfl)]
            go_simp
            refine hK _ _ (slotLe_refl _) ?_
            exact rfl
          refine ⟨?_, ?_⟩
          · intro a W K N hK
            have e38 : a.tmps[38]?.getD undef = _ := N.dep' 0 38 (by kernel_rfl)
            have e44 : a.tmps[44]?.getD undef = _ := N.dep' 6 44 (by kernel_rfl)
            rw [if_pos (wanted_no rfl)]
            have hw := HW1.out
            go_simp
            refine hK _ _ (slotLe_refl _) ?_
            exact rfl
          refine ⟨?_, ?_⟩
          · intro a W K N hK
            have e0 : a.tmps[0]?.getD undef = .slice (some ⟨g, f, none⟩) l.length cap := N.was' 0 _ (by kernel_rfl) rfl
            rw [if_pos (wanted_no rfl)]
            go_simp
            refine hK _ _ (slotLe_refl _) ?_
            exact rfl
          refine ⟨?_, ?_⟩
          · intro a W K N hK
            have e6 : a.tmps[6]?.getD undef = .int .i64 (k : Int) := N.was' 6 _ (by kernel_rfl) rfl
            rw [if_pos (wanted_no rfl)]
            go_simp
            refine hK _ _ (slotLe_refl _) ?_
            exact rfl
          refine ⟨?_, ?_⟩
          · intro a W K N hK
            have e46 : a.tmps[46]?.getD undef = _ := N.dep' 8 46 (by kernel_rfl)
            have e47 : a.tmps[47]?.getD undef = _ := N.dep' 9 47 (by kernel_rfl)
            rw [if_pos (wanted_no rfl)]
            go_simp
            refine hK _ _ (slotLe_refl _) ?_
            exact rfl
          refine ⟨?_, ?_⟩
          · intro a W K N hK
            have e48 : a.tmps[48]?.getD undef = _ := N.dep' 10 48 (by kernel_rfl)
            rw [if_pos (wanted_no rfl)]
            go_simp
            refine hK _ _ (slotLe_refl _) ?_
            exact rfl
          refine ⟨?_, ?_⟩
          · intro a W K N hK
            have e49 : a.tmps[49]?.getD undef = _ := N.dep' 11 49 (by kernel_rfl)
            rw [if_pos (wanted_no rfl)]
            have z4 := keep_cell N.le x4
            go_simp
            refine hK _ _ (slotLe_refl _) ?_
            exact rfl
          refine ⟨?_, ?_⟩
          · intro a W K N hK
            have e50 : a.tmps[50]?.getD undef = _ := N.dep' 12 50 (by kernel_rfl)
            rw [if_pos (wanted_no rfl)]
            go_simp
            refine hK _ _ (slotLe_refl _) ?_
            exact rfl
          refine ⟨?_, ?_⟩
          · intro a W K N hK
            have e45 : a.tmps[45]?.getD undef = _ := N.dep' 7 45 (by kernel_rfl)
            have e51 : a.tmps[51]?.getD undef = _ := N.dep' 13 51 (by kernel_rfl)
            rw [if_pos (wanted_no rfl)]
            have hw := HW2.out
            go_simp
            refine hK _ _ (slotLe_refl _) ?_
            exact rfl
          refine ⟨?_, ?_⟩
          · intro a W K N hK
            have e52 : a.tmps[52]?.getD undef = _ := N.dep' 14 52 (by kernel_rfl)
            rw [if_pos (wanted_no rfl)]
            go_simp
            refine hK _ _ (slotLe_refl _) ?_
            exact rfl
          exact trivial
        case fin =>
          intro W1 hW1
          simp only [FinAll, slotPhi, List.getD_cons_zero, List.getD_cons_succ, forall_eq, Act.put, List.setIfInBounds_toArray, List.set_cons_zero, List.set_cons_succ]
          have bW1 := below_trans hb (below_undrew hW1)
          go_wp2_with fail
          go_roundw
          case rel => exact ⟨k + 1, Nn + rn.length + rd.length, by go_num, by go_num, by omega, by omega, by omega, HJ, bW1⟩
          case measure => simp [intOf]; omega
      · go_wp2
        go_ret
        exact ⟨false, rfl, (fun h => nomatch h), hb⟩
    · obtain rfl : k = l.length := by omega
      have HF : Hid (Nn ≤ top → FewR l top) := Lib.hid (fun h => ⟨by omega, fun r hr => by
        obtain ⟨j, hj, rfl⟩ := List.getElem_of_mem hr
        exact HJ0.out j hj hj⟩)
      go_wp2
      all_goals go_ret
      all_goals exact ⟨_, rfl, fun h => HF.out (by simpa using h), hb⟩

/-- What is known of a message that is looked at. -/
structure SmallM (m : Ms.M) (top : Nat) : Prop where
  qs : m.qs.length ≤ 8
  names : ∀ q ∈ m.qs, q.name.length ≤ 400
  an : FewR m.an top
  ns : FewR m.ns top
  ad : FewR m.ad top
def SmallRet (m : Ms.M) (top : Nat) (w : World) (e : Ending) (w' : World) : Prop := ∃ b, e = .returned (.bool b) ∧ (b = true → SmallM m top) ∧ Below w.heap.size w w'
structure FitM (m : Ms.M) : Prop where
  qs : m.qs.length ≤ 9223372036854775807
  names : ∀ q ∈ m.qs, q.name.length ≤ 9223372036854775807
  an : m.an.length ≤ 9223372036854775807 ∧ ∀ r ∈ m.an, r.name.length ≤ 9223372036854775807 ∧ r.data.length ≤ 9223372036854775807
  ns : m.ns.length ≤ 9223372036854775807 ∧ ∀ r ∈ m.ns, r.name.length ≤ 9223372036854775807 ∧ r.data.length ≤ 9223372036854775807
  ad : m.ad.length ≤ 9223372036854775807 ∧ ∀ r ∈ m.ad, r.name.length ≤ 9223372036854775807 ∧ r.data.length ≤ 9223372036854775807

set_option maxRecDepth 100000 in
set_option maxHeartbeats 8000000 in
theorem small_msg (m : Ms.M) (top : Nat) (vq va vn vd : Value) (w : World) (ha : Lists m vq va vn vd w) (hm : FitM m) (ht : top ≤ 10000) :
    Calls Try.prog 10 #[msgV m vq va vn vd, .int .i64 (top : Int)] w (SmallRet m top w) := by
  have HA := Lib.hid ha
  have C1 := Lib.hid (fun W (h1 : ReadR va m.an W) => records_any m.an top va W h1 hm.an.1 hm.an.2 ht)
  have C2 := Lib.hid (fun W (h1 : ReadR vn m.ns W) => records_any m.ns top vn W h1 hm.ns.1 hm.ns.2 ht)
  have C3 := Lib.hid (fun W (h1 : ReadR vd m.ad W) => records_any m.ad top vd W h1 hm.ad.1 hm.ad.2 ht)
  have HSM := Lib.hid (fun (h0 : m.qs.length ≤ 8) (h1 : ∀ j (h : j < m.qs.length), j < m.qs.length → m.qs[j].name.length ≤ 400) (h2 : FewR m.an top) (h3 : FewR m.ns top) (h4 : FewR m.ad top) => show SmallM m top from ⟨h0, fun q hq => by
    obtain ⟨j, hj, rfl⟩ := List.getElem_of_mem hq
    exact h1 j hj hj, h2, h3, h4⟩)
  have HQ := Lib.hid hm.names
  have hql := hm.qs
  obtain ⟨aoq, capq, rfl, _⟩ := ha.qs.form
  clear ha hm
  obtain ⟨id, resp, opc, auth, cut, des, avl, code, qs, an, ns, ad, edns, size⟩ := m
  unfold msgV
  simp only at HQ hql C1 C2 C3 HSM ⊢
  have ka0 := Block.new w #[.int .i64 id, .bool resp, .int .i64 opc, .bool auth, .bool cut, .bool des, .bool avl, .int .i64 code, .slice aoq qs.length capq, va, vn, vd, .bool edns, .int .i64 size] 27
  have bl0 : Below w.heap.size w (w.alloc (.cells #[.int .i64 id, .bool resp, .int .i64 opc, .bool auth, .bool cut, .bool des, .bool avl, .int .i64 code, .slice aoq qs.length capq, va, vn, vd, .bool edns, .int .i64 size] 27)) := (Below.refl _ w).alloc (Nat.le_refl _) _
  have KA0 := Lib.hid ka0
  have BL0 := Lib.hid bl0
  clear ka0 bl0
  go_enter Try.func10, Try.ntmps10
  by_cases h8 : 8 < qs.length
  · go_wp2
    go_ret
    exact ⟨false, rfl, (fun h => nomatch h), BL0.out⟩
  go_wp2
  go_loopw [5] (fun i wr => ∃ k : Nat, i = .int .i64 (k : Int) ∧ k ≤ qs.length ∧ Hid (∀ j (h : j < qs.length), j < k → qs[j].name.length ≤ 400) ∧ Below w.heap.size w wr ∧ Block wr w.heap.size #[.int .i64 id, .bool resp, .int .i64 opc, .bool auth, .bool cut, .bool des, .bool avl, .int .i64 code, .slice aoq qs.length capq, va, vn, vd, .bool edns, .int .i64 size] 27) (fun i _ => qs.length + 1 - (intOf i).toNat)
  case atStart => exact ⟨0, rfl, by omega, Lib.hid (fun j _ h => by omega), BL0.out, KA0.out⟩
  case round =>
    obtain ⟨k, rfl, hk, HJ, hbl, ka⟩ := hrel
    have qa8 := ka.cell (i := 8) rfl
    by_cases hlt : k < qs.length
    · obtain ⟨g1, f1, rfl, x0, x1, x2⟩ := readQ_at (readQ_below HA.out.qs hbl) hlt
      have hln := HQ.out qs[k] (List.getElem_mem hlt)
      have HJ2 := Lib.hid (fun (q : qs[k].name.length ≤ 400) => show ∀ j (h : j < qs.length), j < k + 1 → qs[j].name.length ≤ 400 from fun j h hj => by
        rcases Nat.lt_or_ge j k with h' | h'
        · exact HJ.out j h h'
        · obtain rfl : j = k := by omega
          exact q)
      simp only at x0 x1 x2
      obtain ⟨⟨pa, pb, pc⟩, hpq⟩ : ∃ x, qs[k] = x := ⟨_, rfl⟩
      rw [hpq] at x0 hln HJ2
      simp only at x0 hln HJ2
      clear hpq x1 x2
      by_cases hn : 400 < pa.length
      · go_wp2
        go_ret
        exact ⟨false, rfl, (fun h => nomatch h), hbl⟩
      · have HJ3 := Lib.hid (HJ2.out (by omega))
        go_wp2
        go_roundw
        case rel => exact ⟨k + 1, by go_num, by omega, HJ3, hbl, ka⟩
        case measure => simp [intOf]; omega
    · obtain rfl : k = qs.length := by omega
      have qa9 := ka.cell (i := 9) rfl
      go_wp2_with fail
      refine (C1.out _ (HA.out.below hbl).an).mono ?_
      rintro e w1 ⟨b1, rfl, f1, y1⟩
      have F1 := Lib.hid f1
      clear f1 qa8 qa9
      replace ka := ka.below y1
      replace y1 := below_trans hbl y1
      cases b1
      · go_wp2
        go_ret
        exact ⟨false, rfl, (fun h => nomatch h), y1⟩
      have qa10 := ka.cell (i := 10) rfl
      go_wp2_with fail
      refine (C2.out _ (HA.out.below y1).ns).mono ?_
      rintro e w2 ⟨b2, rfl, f2, y2⟩
      have F2 := Lib.hid f2
      clear f2 qa10
      replace ka := ka.below y2
      replace y2 := below_trans y1 y2
      cases b2
      · go_wp2
        go_ret
        exact ⟨false, rfl, (fun h => nomatch h), y2⟩
      have qa11 := ka.cell (i := 11) rfl
      go_wp2_with fail
      refine (C3.out _ (HA.out.below y2).ad).mono ?_
      rintro e w3 ⟨b3, rfl, f3, y3⟩
      have F3 := Lib.hid f3
      clear f3
      replace y3 := below_trans y2 y3
      go_wp2
      go_ret
      exact ⟨b3, rfl, fun h => HSM.out (by omega) HJ.out (F1.out (by first | rfl | trivial)) (F2.out (by first | rfl | trivial)) (F3.out h), y3⟩
end Go.Proofs.Ytdodamkndigjkaa

/- Whether a message may be: isWithin, areAll, Check. -/
namespace Go.Proofs.Ytdodamkndigjkaa
open Go.RowKit Go.Shelf
attribute [local go_sem] Oper.semAt_some

def qV (q : Ms.Q) : Value := .agg #[.string ⟨q.name.toArray⟩, .int .i64 q.typ, .int .i64 q.cls]

def within (v most : Int) : Bool := decide (0 ≤ v ∧ v ≤ most)
theorem within_yes {v most : Int} (h0 : 0 ≤ v) (h1 : v ≤ most) : within v most = true := decide_eq_true ⟨h0, h1⟩
theorem within_no {v most : Int} (h : v < 0 ∨ most < v) : within v most = false := by unfold within; rw [decide_eq_false_iff_not]; omega
set_option maxHeartbeats 400000 in
theorem within_any (v most : Int) (w : World) :
    Calls Try.prog 52 #[.int .i64 v, .int .i64 most] w fun e w' => e = .returned (.bool (within v most)) ∧ w = w' := by
  by_cases h0 : 0 ≤ v
  · by_cases h1 : v ≤ most
    · have H := Lib.hid (within_yes h0 h1)
      go_enter Try.func52, Try.ntmps52
      go_wp2
      go_ret
      exact ⟨ret_bool H.out.symm, rfl⟩
    · have H := Lib.hid (within_no (v := v) (most := most) (.inr (by omega)))
      have g1 : decide (v ≤ most) = false := by rw [decide_eq_false_iff_not]; exact h1
      clear h1
      go_enter Try.func52, Try.ntmps52
      go_wp2
      go_ret
      exact ⟨ret_bool H.out.symm, rfl⟩
  · have H := Lib.hid (within_no (v := v) (most := most) (.inl (by omega)))
    have g1 : decide (0 ≤ v) = false := by rw [decide_eq_false_iff_not]; exact h0
    clear h0
    go_enter Try.func52, Try.ntmps52
    go_wp2
    go_ret
    exact ⟨ret_bool H.out.symm, rfl⟩

theorem checkQ_eq (q : Ms.Q) : Ms.checkQ q = (Nm.valid q.name && (within q.typ 65535 && within q.cls 65535)) := by
  unfold Ms.checkQ within
  rw [← Bool.decide_and]
  congr 2
  apply propext
  constructor <;> intro h <;> simp_all

set_option maxRecDepth 100000 in
set_option maxHeartbeats 2000000 in
theorem checkQ_any (q : Ms.Q) (w : World) (hn : q.name.length ≤ 100000) :
    Calls Try.prog 54 #[qV q] w fun e w' => e = .returned (.bool (Ms.checkQ q)) ∧ Below w.heap.size w w' := by
  have hE := checkQ_eq q
  obtain ⟨n, t, c⟩ := q
  simp only at *
  obtain ⟨R, hR⟩ : ∃ R, Ms.checkQ ⟨n, t, c⟩ = R := ⟨_, rfl⟩
  obtain ⟨x, hx⟩ : ∃ x, Nm.valid n = x := ⟨_, rfl⟩
  obtain ⟨y, hy⟩ : ∃ y, within t 65535 = y := ⟨_, rfl⟩
  obtain ⟨z, hz⟩ : ∃ z, within c 65535 = z := ⟨_, rfl⟩
  rw [hR, hx, hy, hz] at hE
  rw [hR]
  have HX := Lib.hid hx
  have HY := Lib.hid hy
  have HZ := Lib.hid hz
  clear hx hy hz hR
  unfold qV
  simp only
  have HE := Lib.hid hE
  clear hE
  cases x with
  | false =>
    go_enter Try.func54, Try.ntmps54
    go_wp2_with (go_at_call 74; refine (valid_any n _ hn).mono ?_; rw [HX.out]; rintro e w' ⟨rfl, rfl⟩)
    go_ret
    exact ⟨ret_bool HE.out.symm, (Below.refl _ w).alloc (Nat.le_refl _) _⟩
  | true => cases y with
    | false =>
      go_enter Try.func54, Try.ntmps54
      go_wp2_with (first
        | (go_at_call 74; refine (valid_any n _ hn).mono ?_; rw [HX.out]; rintro e w' ⟨rfl, rfl⟩)
        | (go_at_call 52; (with_reducible refine (within_any t _ _).mono ?_); rw [HY.out]; rintro e w' ⟨rfl, rfl⟩))
      go_ret
      exact ⟨ret_bool HE.out.symm, (Below.refl _ w).alloc (Nat.le_refl _) _⟩
    | true =>
      go_enter Try.func54, Try.ntmps54
      go_wp2_with (first
        | (go_at_call 74; refine (valid_any n _ hn).mono ?_; rw [HX.out]; rintro e w' ⟨rfl, rfl⟩)
        | (go_at_call 52; (with_reducible refine (within_any t _ _).mono ?_); rw [HY.out]; rintro e w' ⟨rfl, rfl⟩)
        | (go_at_call 52; (with_reducible refine (within_any c _ _).mono ?_); rw [HZ.out]; rintro e w' ⟨rfl, rfl⟩))
      go_ret
      exact ⟨ret_bool HE.out.symm, (Below.refl _ w).alloc (Nat.le_refl _) _⟩

theorem all_take {α : Type} {l : List α} {p : α → Bool} {k : Nat} (hk : k < l.length) (h : (l.take k).all p = true) (hp : p l[k] = true) : (l.take (k + 1)).all p = true := by
  rw [List.take_succ_eq_append_getElem hk, List.all_append, h]; simp [hp]
theorem all_not {α : Type} {l : List α} {p : α → Bool} {k : Nat} (hk : k < l.length) (hp : p l[k] = false) : l.all p = false := by
  rw [List.all_eq_false]; exact ⟨l[k], List.getElem_mem hk, by simp [hp]⟩

set_option maxRecDepth 100000 in
set_option maxHeartbeats 2000000 in
theorem areAllQ_any (l : List Ms.Q) (v : Value) (w : World) (hr : ReadQ v l w) (hl : l.length ≤ 100000) (hn : ∀ q ∈ l, q.name.length ≤ 100000) :
    Calls Try.prog 53 #[v, .int .i64 4, .func (.func 54) #[] #[]] w fun e w' => e = .returned (.bool (decide (l.length ≤ 4) && l.all Ms.checkQ)) ∧ Below w.heap.size w w' := by
  obtain ⟨ao, cap, rfl, _⟩ := hr.form
  obtain ⟨R, hR⟩ : ∃ R, (decide (l.length ≤ 4) && l.all Ms.checkQ) = R := ⟨_, rfl⟩
  rw [hR]
  have HR := Lib.hid hR
  have HN := Lib.hid hn
  clear hR hn
  by_cases h4 : l.length ≤ 4
  · go_enter Try.func53, Try.ntmps53
    go_wp2
    go_loopw [15] (fun i wr => ∃ k : Nat, i = .int .i64 (k : Int) ∧ k ≤ l.length ∧ Hid ((l.take k).all Ms.checkQ = true) ∧ Below w.heap.size w wr) (fun i _ => l.length + 1 - (intOf i).toNat)
    case atStart => exact ⟨0, rfl, by omega, Lib.hid rfl, Below.refl _ w⟩
    case round =>
      obtain ⟨k, rfl, hk, hh, hb⟩ := hrel
      by_cases hlt : k < l.length
      · obtain ⟨g, off, rfl, x0, x1, x2⟩ := readQ_at (readQ_below hr hb) hlt
        have hn := HN.out l[k] (List.getElem_mem hlt)
        have HS := Lib.hid (fun hp => all_take (p := Ms.checkQ) hlt hh.out hp)
        have HF := Lib.hid (fun hp => all_not (p := Ms.checkQ) hlt hp)
        obtain ⟨⟨pn, pt, pc⟩, hpq⟩ : ∃ x, l[k] = x := ⟨_, rfl⟩
        rw [hpq] at x0 x1 x2 hn HS HF
        simp only at x0 x1 x2 hn
        clear hpq
        obtain ⟨y, hy⟩ : ∃ y, Ms.checkQ ⟨pn, pt, pc⟩ = y := ⟨_, rfl⟩
        rw [hy] at HS HF
        have HY := Lib.hid hy
        clear hy
        have HC := Lib.hid (fun W => checkQ_any ⟨pn, pt, pc⟩ W hn)
        simp only [qV] at HC
        cases y with
        | true =>
          replace HS := Lib.hid (HS.out rfl)
          go_wp2_with (go_at_call 54; refine (HC.out _).mono ?_; rw [HY.out]; rintro e w1 ⟨rfl, b1⟩)
          go_roundw
          case rel => exact ⟨k + 1, by go_num, by omega, HS, below_trans hb (below_trans ((Below.refl _ _).alloc (Nat.le_refl _) _) b1)⟩
          case measure => simp [intOf]; omega
        | false =>
          replace HF := Lib.hid (HF.out rfl)
          go_wp2_with (go_at_call 54; refine (HC.out _).mono ?_; rw [HY.out]; rintro e w1 ⟨rfl, b1⟩)
          go_ret
          exact ⟨ret_bool (by rw [← HR.out, HF.out, Bool.and_false]), below_trans hb (below_trans ((Below.refl _ _).alloc (Nat.le_refl _) _) b1)⟩
      · obtain rfl : k = l.length := by omega
        have HA : Hid (R = true) := Lib.hid (by rw [← HR.out, decide_eq_true h4]; have := hh.out; rw [List.take_length] at this; rw [this]; rfl)
        go_wp2
        go_ret
        exact ⟨ret_bool HA.out.symm, hb⟩
  · have HA : Hid (R = false) := Lib.hid (by rw [← HR.out, decide_eq_false h4]; rfl)
    go_enter Try.func53, Try.ntmps53
    go_wp2
    go_ret
    exact ⟨ret_bool HA.out.symm, Below.refl _ w⟩
set_option maxRecDepth 100000 in
set_option maxHeartbeats 2000000 in
theorem areAllR_any (l : List Rd.RR) (v : Value) (w : World) (hr : ReadR v l w) (hl : l.length ≤ 100000) (hn : ∀ r ∈ l, r.name.length ≤ 100000 ∧ r.data.length ≤ 100000) :
    Calls Try.prog 55 #[v, .int .i64 64, .func (.func 56) #[] #[]] w fun e w' => e = .returned (.bool (decide (l.length ≤ 64) && l.all Rd.check)) ∧ Below w.heap.size w w' := by
  obtain ⟨ao, cap, rfl, _⟩ := hr.form
  obtain ⟨R, hR⟩ : ∃ R, (decide (l.length ≤ 64) && l.all Rd.check) = R := ⟨_, rfl⟩
  rw [hR]
  have HR := Lib.hid hR
  have HN := Lib.hid hn
  clear hR hn
  by_cases h4 : l.length ≤ 64
  · go_enter Try.func55, Try.ntmps55
    go_wp2
    go_loopw [15] (fun i wr => ∃ k : Nat, i = .int .i64 (k : Int) ∧ k ≤ l.length ∧ Hid ((l.take k).all Rd.check = true) ∧ Below w.heap.size w wr) (fun i _ => l.length + 1 - (intOf i).toNat)
    case atStart => exact ⟨0, rfl, by omega, Lib.hid rfl, Below.refl _ w⟩
    case round =>
      obtain ⟨k, rfl, hk, hh, hb⟩ := hrel
      by_cases hlt : k < l.length
      · obtain ⟨g, off, rfl, x0, x1, x2, x3, x4⟩ := readR_at (readR_below hr hb) hlt
        have hn := HN.out l[k] (List.getElem_mem hlt)
        have HS := Lib.hid (fun hp => all_take (p := Rd.check) hlt hh.out hp)
        have HF := Lib.hid (fun hp => all_not (p := Rd.check) hlt hp)
        obtain ⟨⟨pn, pt, pc, pl, pd⟩, hpq⟩ : ∃ x, l[k] = x := ⟨_, rfl⟩
        rw [hpq] at x0 x1 x2 x3 x4 hn HS HF
        simp only at x0 x1 x2 x3 x4 hn
        clear hpq
        obtain ⟨y, hy⟩ : ∃ y, Rd.check ⟨pn, pt, pc, pl, pd⟩ = y := ⟨_, rfl⟩
        rw [hy] at HS HF
        have HY := Lib.hid hy
        clear hy
        have HC := Lib.hid (fun W => check_any ⟨pn, pt, pc, pl, pd⟩ W hn.1 hn.2)
        simp only [rrV] at HC
        cases y with
        | true =>
          replace HS := Lib.hid (HS.out rfl)
          go_wp2_with (go_at_call 56; refine (HC.out _).mono ?_; rw [HY.out]; rintro e w1 ⟨rfl, b1⟩)
          go_roundw
          case rel => exact ⟨k + 1, by go_num, by omega, HS, below_trans hb (below_trans ((Below.refl _ _).alloc (Nat.le_refl _) _) b1)⟩
          case measure => simp [intOf]; omega
        | false =>
          replace HF := Lib.hid (HF.out rfl)
          go_wp2_with (go_at_call 56; refine (HC.out _).mono ?_; rw [HY.out]; rintro e w1 ⟨rfl, b1⟩)
          go_ret
          exact ⟨ret_bool (by rw [← HR.out, HF.out, Bool.and_false]), below_trans hb (below_trans ((Below.refl _ _).alloc (Nat.le_refl _) _) b1)⟩
      · obtain rfl : k = l.length := by omega
        have HA : Hid (R = true) := Lib.hid (by rw [← HR.out, decide_eq_true h4]; have := hh.out; rw [List.take_length] at this; rw [this]; rfl)
        go_wp2
        go_ret
        exact ⟨ret_bool HA.out.symm, hb⟩
  · have HA : Hid (R = false) := Lib.hid (by rw [← HR.out, decide_eq_false h4]; rfl)
    go_enter Try.func55, Try.ntmps55
    go_wp2
    go_ret
    exact ⟨ret_bool HA.out.symm, Below.refl _ w⟩
end Go.Proofs.Ytdodamkndigjkaa
