/- The document's own Parts and Known (freshetref1). -/
import Derived.Test.YtdodamkndigjkaaJB3
import Derived.Test.YtdodamkndigjkaaJB5
import Derived.Test.YtdodamkndigjkaaJB6
/- The document's own Parts and Known (freshetref1). -/
namespace Go.Proofs.Ytdodamkndigjkaa
open Go.RowKit Go.Shelf
attribute [local go_sem] Oper.semAt_some

def endV (at' z : Nat) : Value := if z = 0 then .tuple #[.int .i64 0, .bool false] else .tuple #[.int .i64 ((at' + z : Nat) : Int), .bool true]
theorem endV_zero (at' : Nat) : endV at' 0 = .tuple #[.int .i64 0, .bool false] := rfl
theorem endV_some (at' k e : Nat) (h : at' + (k + 1) = e) : endV at' (k + 1) = .tuple #[.int .i64 (e : Int), .bool true] := by subst h; rfl
def NoName (d : List UInt8) (at' n : Nat) : Prop := ∀ j, j < n → j < (d.drop at').length → Nm.valid ((d.drop at').take (j + 1)) = false
theorem NoName.step {d : List UInt8} {at' n : Nat} (h : NoName d at' n) (hv : Nm.valid ((d.drop at').take (n + 1)) = false) : NoName d at' (n + 1) := fun j hj hl => by
  by_cases e : j = n
  · subst e; exact hv
  · exact h j (by omega) hl
theorem NoName.nsz {d : List UInt8} {at' n : Nat} (h : NoName d at' n) (hl : (d.drop at').length ≤ n ∨ 255 ≤ n) : Rd.nsz (d.drop at') = 0 :=
  Rd.nsz_none fun k hk => by
    by_cases e : k < n
    · exact h k e hk
    · cases hv : Nm.valid ((d.drop at').take (k + 1))
      · rfl
      · have := Rd.valid_len hv
        rw [List.length_take] at this
        omega

set_option maxRecDepth 100000 in
set_option maxHeartbeats 1000000 in
theorem end_any (d : List UInt8) (at' : Nat) (w : World) (hs : d.length ≤ 100000) (ha : at' ≤ 100000) :
    Calls Try.prog 90 #[.string ⟨d.toArray⟩, .int .i64 (at' : Int)] w fun e w' => e = .returned (endV at' (Rd.nsz (d.drop at'))) ∧ Below w.heap.size w w' := by
  obtain ⟨R, hR⟩ : ∃ R, Rd.nsz (d.drop at') = R := ⟨_, rfl⟩
  have HR := Lib.hid hR
  rw [hR]
  clear hR
  go_enter Try.func90, Try.ntmps90
  go_wp2
  go_loopw [6] (fun k wr => ∃ e : Nat, e ≤ 200000 ∧ at' ≤ e ∧ e ≤ at' + 257 ∧ k = .int .i64 (e : Int) ∧ Hid (NoName d at' (e - at')) ∧ Below w.heap.size w wr) (fun k _ => d.length + 1 - (intOf k).toNat)
  case atStart => exact ⟨at', by omega, by omega, by omega, rfl, Lib.hid (fun j hj => by omega), Below.refl _ _⟩
  case round =>
    obtain ⟨e, he, hae, hae2, rfl, hv, hb⟩ := hrel
    by_cases hlt : e < d.length
    · have hsl := run_cut (P := Try.prog) Try.underlying9 (l := d) (l' := (d.drop at').take (e - at' + 1)) (lo := (at' : Int)) (hi := (e : Int) + 1) (by omega) (by omega) (by omega) (by congr 1; omega) wr
      have hl1 : ((d.drop at').take (e - at' + 1)).length ≤ 100000 := by rw [List.length_take, List.length_drop]; omega
      obtain ⟨x, hx⟩ : ∃ x, Nm.valid ((d.drop at').take (e - at' + 1)) = x := ⟨_, rfl⟩
      have HX := Lib.hid hx
      cases x
      · have HN := Lib.hid (hv.out.step hx)
        clear hx
        by_cases h255 : 255 < e - at'
        · have HZ : Hid (R = 0) := Lib.hid (by rw [← HR.out]; exact hv.out.nsz (.inr (by omega)))
          have h255' : 255 < (e : Int) - (at' : Int) := by omega
          go_wp2_with (go_at_call 65; refine (rvalid_any _ _ hl1).mono ?_; rw [HX.out]; rintro e w' ⟨rfl, b1⟩)
          go_ret2
          exact ⟨by rw [HZ.out]; rfl, below_trans hb b1⟩
        · have h255' : ¬ 255 < (e : Int) - (at' : Int) := by omega
          go_wp2_with (go_at_call 65; refine (rvalid_any _ _ hl1).mono ?_; rw [HX.out]; rintro e w' ⟨rfl, b1⟩)
          go_roundw
          case rel => exact ⟨e + 1, by omega, by omega, by omega, by go_num, Lib.hid (by rw [show e + 1 - at' = e - at' + 1 from by omega]; exact HN.out), below_trans hb b1⟩
          case measure => simp [intOf]; omega
      · have HZ : Hid (R = e - at' + 1) := Lib.hid (by
          rw [← HR.out]
          exact Rd.nsz_some (by rw [List.length_drop]; omega) hx (fun j hj => hv.out j hj (by rw [List.length_drop]; omega)))
        clear hx
        go_wp2_with (go_at_call 65; refine (rvalid_any _ _ hl1).mono ?_; rw [HX.out]; rintro e w' ⟨rfl, b1⟩)
        go_ret2
        exact ⟨by rw [HZ.out]; rw [endV_some at' _ (e + 1) (by omega)]; rfl, below_trans hb b1⟩
    · have HZ : Hid (R = 0) := Lib.hid (by rw [← HR.out]; exact hv.out.nsz (.inl (by rw [List.length_drop]; omega)))
      go_wp2
      go_ret2
      exact ⟨by rw [HZ.out]; rfl, hb⟩

/-- What Parts of the document's own gives. -/
def PartsRet (t : Int) (d : List UInt8) (w : World) (e : Ending) (w' : World) : Prop :=
  ∃ v : Value, e = .returned (.tuple #[v, .bool (Rd.dataOk t d)]) ∧ ReadP v (Rd.partsD t d) w' ∧ Below w.heap.size w w'
theorem partsRet_none {t : Int} {d : List UInt8} {w w' : World} (h : Rd.parts t d = none) (hb : Below w.heap.size w w') : PartsRet t d w (.returned (.tuple #[.slice none 0 0, .bool false])) w' := by
  obtain ⟨h1, h2⟩ := Rd.partsD_none h
  exact ⟨_, by rw [h1], by rw [h2]; exact readP_nil _, hb⟩
theorem partsRet_some {t : Int} {d : List UInt8} {w w' : World} {ps : List (Nat × Nat)} {v : Value} (h : Rd.parts t d = some ps) (hr : ReadP v ps w') (hb : Below w.heap.size w w') : PartsRet t d w (.returned (.tuple #[v, .bool true])) w' := by
  obtain ⟨h1, h2⟩ := Rd.partsD_some h
  exact ⟨_, by rw [h1], by rw [h2]; exact hr, hb⟩
theorem partsRet_if {t : Int} {d : List UInt8} {w w' : World} {b : Bool} (h : Rd.parts t d = if b then some [] else none) (hb : Below w.heap.size w w') : PartsRet t d w (.returned (.tuple #[.slice none 0 0, .bool b])) w' := by
  cases b
  · exact partsRet_none h hb
  · exact partsRet_some h (readP_nil _) hb

set_option maxRecDepth 100000 in
set_option maxHeartbeats 8000000 in
theorem rparts_any (t : Int) (d : List UInt8) (w : World) (hs : d.length ≤ 100000) :
    Calls Try.prog 64 #[.int .i64 t, .string ⟨d.toArray⟩] w (PartsRet t d w) := by
  by_cases hl : 1000 < d.length
  · have H := Lib.hid (Rd.parts_long (t := t) hl)
    go_enter Try.func64, Try.ntmps64
    go_wp2
    go_ret2
    exact partsRet_none H.out (Below.refl _ _)
  have hcase : t = 1 ∨ t = 28 ∨ t = 16 ∨ (Rd.lay t = none ∧ t ≠ 16 ∧ t ≠ 1 ∧ t ≠ 28 ∧ t ≠ 2 ∧ t ≠ 5 ∧ t ≠ 12 ∧ t ≠ 15 ∧ t ≠ 33 ∧ t ≠ 6) ∨ ∃ a n b : Nat, Hid (Rd.lay t = some (a, n, b)) ∧ ((t = 2 ∧ a = 0 ∧ n = 1 ∧ b = 0) ∨ (t = 5 ∧ a = 0 ∧ n = 1 ∧ b = 0) ∨ (t = 12 ∧ a = 0 ∧ n = 1 ∧ b = 0) ∨ (t = 15 ∧ a = 2 ∧ n = 1 ∧ b = 0) ∨ (t = 33 ∧ a = 6 ∧ n = 1 ∧ b = 0) ∨ (t = 6 ∧ a = 0 ∧ n = 2 ∧ b = 20)) := by
    by_cases h2 : t = 2
    · exact .inr (.inr (.inr (.inr ⟨0, 1, 0, Lib.hid (by rw [h2]; rfl), by omega⟩)))
    by_cases h5 : t = 5
    · exact .inr (.inr (.inr (.inr ⟨0, 1, 0, Lib.hid (by rw [h5]; rfl), by omega⟩)))
    by_cases h12 : t = 12
    · exact .inr (.inr (.inr (.inr ⟨0, 1, 0, Lib.hid (by rw [h12]; rfl), by omega⟩)))
    by_cases h15 : t = 15
    · exact .inr (.inr (.inr (.inr ⟨2, 1, 0, Lib.hid (by rw [h15]; rfl), by omega⟩)))
    by_cases h33 : t = 33
    · exact .inr (.inr (.inr (.inr ⟨6, 1, 0, Lib.hid (by rw [h33]; rfl), by omega⟩)))
    by_cases h6 : t = 6
    · exact .inr (.inr (.inr (.inr ⟨0, 2, 20, Lib.hid (by rw [h6]; rfl), by omega⟩)))
    by_cases h1 : t = 1
    · exact .inl h1
    by_cases h28 : t = 28
    · exact .inr (.inl h28)
    by_cases h16 : t = 16
    · exact .inr (.inr (.inl h16))
    exact .inr (.inr (.inr (.inl ⟨by unfold Rd.lay; simp [h1, h28, h2, h5, h12, h15, h33, h6], h16, h1, h28, h2, h5, h12, h15, h33, h6⟩)))
  rcases hcase with rfl | rfl | rfl | ⟨hy, h16, h1, h28, h2, h5, h12, h15, h33, h6⟩ | ⟨a, n, b, HY, hcase⟩
  · have H : Hid (Rd.parts 1 d = if ((d.length : Int) == 4) then some [] else none) := Lib.hid (by
      rw [Rd.parts_plain (a := 4) rfl (by decide) hl]
      by_cases h : d.length = 4
      · rw [if_pos h.symm, if_pos (by rw [beq_iff_eq]; omega)]
      · rw [if_neg (fun e => h e.symm), if_neg (by rw [beq_iff_eq]; omega)])
    go_enter Try.func64, Try.ntmps64
    go_wp2
    go_ret2
    exact partsRet_if H.out (Below.refl _ _)
  · have H : Hid (Rd.parts 28 d = if ((d.length : Int) == 16) then some [] else none) := Lib.hid (by
      rw [Rd.parts_plain (a := 16) rfl (by decide) hl]
      by_cases h : d.length = 16
      · rw [if_pos h.symm, if_pos (by rw [beq_iff_eq]; omega)]
      · rw [if_neg (fun e => h e.symm), if_neg (by rw [beq_iff_eq]; omega)])
    go_enter Try.func64, Try.ntmps64
    go_wp2
    go_ret2
    exact partsRet_if H.out (Below.refl _ _)
  · have H := Lib.hid (Rd.parts_txt hl)
    go_enter Try.func64, Try.ntmps64
    go_wp2
    go_loop [9] (fun i => ∃ k : Nat, k ≤ 100400 ∧ i = .int .i64 (k : Int) ∧ Hid (Rd.TextAt d k)) (fun i => d.length + 1 - (intOf i).toNat)
    case atStart => exact ⟨0, by omega, rfl, Lib.hid (Rd.TextAt.zero _)⟩
    case round =>
      obtain ⟨k, hk, rfl, hv⟩ := hrel
      by_cases hlt : k < d.length
      · have hc : ((⟨d.toArray⟩ : ByteArray)[k]'hlt) = d[k] := rfl
        have hst := Lib.hid (hv.out.step hlt)
        have hc255 : d[k].toNat ≤ 255 := by have := d[k].toNat_lt; omega
        go_wp2
        go_round
        case rel => exact ⟨k + (1 + d[k].toNat), by omega, by go_num, hst⟩
        case measure => simp [intOf]; omega
      · have HN := Lib.hid (hv.out.done (by omega))
        by_cases h0 : 0 < d.length
        · have HT : Hid (Rd.parts 16 d = if ((k : Int) == (d.length : Int)) then some [] else none) := Lib.hid (by
            rw [H.out]
            have e : Rd.texts d = ((k : Int) == (d.length : Int)) := by
              unfold Rd.texts; rw [HN.out, Bool.eq_iff_iff]
              have : d ≠ [] := fun e => by rw [e] at h0; simp at h0
              simp [this]
              omega
            rw [e])
          go_wp2
          go_ret2
          exact partsRet_if HT.out (Below.refl _ _)
        · have HT : Hid (Rd.parts 16 d = none) := Lib.hid (by
            rw [H.out]
            have e : d = [] := List.length_eq_zero_iff.1 (by omega)
            subst e
            rfl)
          have hd : decide (0 < d.length) = false := by simpa using h0
          clear h0
          go_wp2
          go_ret2
          exact partsRet_none HT.out (Below.refl _ _)
  · have H := Lib.hid (Rd.parts_other hy h16 hl)
    replace h1 := beq_eq_false_iff_ne.2 h1
    replace h28 := beq_eq_false_iff_ne.2 h28
    replace h16 := beq_eq_false_iff_ne.2 h16
    replace h2 := beq_eq_false_iff_ne.2 h2
    replace h5 := beq_eq_false_iff_ne.2 h5
    replace h12 := beq_eq_false_iff_ne.2 h12
    replace h15 := beq_eq_false_iff_ne.2 h15
    replace h33 := beq_eq_false_iff_ne.2 h33
    replace h6 := beq_eq_false_iff_ne.2 h6
    clear hy
    go_enter Try.func64, Try.ntmps64
    go_wp2
    go_ret2
    exact partsRet_some H.out (readP_nil _) (Below.refl _ _)
  · obtain ⟨M, hM⟩ : ∃ M, Rd.run d n a = M := ⟨_, rfl⟩
    have HM := Lib.hid hM
    have HP : Hid (Rd.parts t d = Rd.ofRun d b M) := Lib.hid (by
      rw [← hM]
      exact Rd.parts_lay HY.out (by omega) hl)
    have hb20 : b ≤ 20 := by omega
    have hn2 : n ≤ 2 := by omega
    have ha16 : a ≤ 16 := by omega
    clear hM HY
    rcases hcase with ⟨rfl, rfl, rfl, rfl⟩ | ⟨rfl, rfl, rfl, rfl⟩ | ⟨rfl, rfl, rfl, rfl⟩ | ⟨rfl, rfl, rfl, rfl⟩ | ⟨rfl, rfl, rfl, rfl⟩ | ⟨rfl, rfl, rfl, rfl⟩
    · refine (callsIn_wide (n := 8)).1 ?_
      refine callsIn_of_wp Try.func64 rfl trivial ?_ rfl
      simp only [Try.ntmps64, List.size_toArray, List.length_cons, List.length_nil, Nat.reduceAdd, Nat.reduceSub, Array.replicate_succ, Array.replicate_zero, List.push_toArray, List.append_toArray, List.nil_append, List.cons_append]
      gi_wp2
      gi_loopw [10, 11, 12] (fun l x i wr => ∃ (v : Value) (ps : List (Nat × Nat)) (e k : Nat), l = v ∧ x = .int .i64 (e : Int) ∧ i = .int .i64 (k : Int) ∧ k ≤ 1 ∧ e ≤ 16 + 300 * k ∧ ps.length ≤ k ∧ OwnK encP 2 135 w.heap.size v ps wr ∧ Below w.heap.size w wr ∧ Hid (M = (Rd.run d (1 - k) e).map (fun y => (ps ++ y.1, y.2)))) (fun _ _ i _ => 1 + 1 - (intOf i).toNat)
      case atStart => exact ⟨_, [], 0, 0, rfl, rfl, rfl, by omega, by omega, by simp, ownK_nil _ _ _ _ _, Below.refl _ _, Lib.hid (by rw [← HM.out]; simp)⟩
      case round =>
        obtain ⟨v, ps, e, k, rfl, rfl, rfl, hk, he, hps, ho, hb, hh⟩ := hrel
        have hwr := hb.size
        by_cases hlt : k < 1
        · obtain ⟨z, hz⟩ : ∃ z, Rd.nsz (d.drop e) = z := ⟨_, rfl⟩
          have hzl := (Rd.nsz_le (d.drop e)).2
          rw [hz] at hzl
          have HZ := Lib.hid hz
          obtain ⟨m, hm⟩ : ∃ m, 1 - k = m + 1 := ⟨1 - k - 1, by omega⟩
          by_cases h0 : z = 0
          · have HE : Hid (endV e z = .tuple #[.int .i64 0, .bool false]) := Lib.hid (by rw [h0]; rfl)
            have HN : Hid (Rd.parts 2 d = none) := Lib.hid (by
              rw [HP.out, hh.out, hm, Rd.run_zero (by rw [hz]; exact h0)]; rfl)
            clear hz hm h0 hh
            gi_wp2_with (refine ⟨trivial, ?_⟩; gi_at_call 90; refine (callsIn_wide.2 (end_any d e _ hs (by omega))).mono ?_; rw [HZ.out, HE.out]; rintro e w' ⟨rfl, b1⟩)
            go_ret2
            exact partsRet_none HN.out (below_trans hb b1)
          · obtain ⟨f, hf⟩ : ∃ f, e + z = f := ⟨_, rfl⟩
            have HE : Hid (endV e z = .tuple #[.int .i64 (f : Int), .bool true]) := Lib.hid (by
              unfold endV; rw [if_neg h0, hf])
            have hfz : f ≤ e + 255 := by omega
            have hef : e ≤ f := by omega
            have HC : Hid (encP (e, z) = [.int .i64 (e : Int), .int .i64 ((f : Int) - (e : Int))]) := Lib.hid (by
              unfold encP; rw [show ((f : Int) - (e : Int)) = (z : Int) from by omega])
            have HN : Hid (M = (Rd.run d (1 - (k + 1)) f).map (fun y => ((ps ++ [(e, z)]) ++ y.1, y.2))) := Lib.hid (by
              rw [hh.out, hm, Rd.run_succ hz h0, hf, show 1 - (k + 1) = m from by omega, Option.map_map]
              congr 1
              funext y
              simp)
            clear hz hm h0 hh hf
            gi_wp2_with (first
              | (refine ⟨trivial, ?_⟩; gi_at_call 90; refine (callsIn_wide.2 (end_any d e _ hs (by omega))).mono ?_; rw [HZ.out, HE.out]; rintro e1 w1 ⟨rfl, b1⟩; replace ho := ownK_below ho b1; replace hb := below_trans hb b1; have hw1 := hb.size)
              | (gi_at_builtin; refine wpListIn_apk _ rfl _ _ 109 rfl encP 2 encP_len (by omega) encP_one w.heap.size 135 _ 16 Try.underlying109 infoP rfl _ ps rfl (ownK_alloc ho _) ⟨_, 0, none⟩ 1 1 [(e, z)] rfl rfl (fun j u hj => cells_new _ [.int .i64 (e : Int), .int .i64 ((f : Int) - (e : Int))] _ j u (by rw [← HC.out]; simpa using hj)) (by omega) (by omega) (by simp; omega) ?_; intro v2 w2 ho2 hg2 _; refine Hid.out ?_))
            refine Lib.hid ?_
            have hb2 : Below w.heap.size w w2 := hb.trans ((((Below.refl _ w1).alloc hw1 _)).trans (below_ownK (ownK_alloc ho _) hg2 (by simp; omega)))
            gi_wp2
            go_roundw
            case rel => exact ⟨v2, ps ++ [(e, z)], f, k + 1, rfl, rfl, by go_num, by omega, by omega, by simp; omega, ho2, hb2, HN⟩
            case measure => simp [intOf]; omega
        · obtain rfl : k = 1 := by omega
          have HE : Hid (M = some (ps, e)) := Lib.hid (by rw [hh.out]; simp [Rd.run])
          clear hh
          by_cases hend : e + 0 = d.length
          · have HN : Hid (Rd.parts 2 d = some ps) := Lib.hid (by rw [HP.out, HE.out]; exact if_pos hend)
            have hbq : ((e : Int) != (d.length : Int)) = false := by rw [bne_eq_false_iff_eq]; omega
            clear hend
            gi_wp2
            go_ret2
            exact partsRet_some HN.out (readP_own ho) hb
          · have HN : Hid (Rd.parts 2 d = none) := Lib.hid (by rw [HP.out, HE.out]; exact if_neg hend)
            have hbq : ((e : Int) != (d.length : Int)) = true := by rw [bne_iff_ne]; omega
            clear hend
            gi_wp2
            go_ret2
            exact partsRet_none HN.out hb
    · refine (callsIn_wide (n := 8)).1 ?_
      refine callsIn_of_wp Try.func64 rfl trivial ?_ rfl
      simp only [Try.ntmps64, List.size_toArray, List.length_cons, List.length_nil, Nat.reduceAdd, Nat.reduceSub, Array.replicate_succ, Array.replicate_zero, List.push_toArray, List.append_toArray, List.nil_append, List.cons_append]
      gi_wp2
      gi_loopw [10, 11, 12] (fun l x i wr => ∃ (v : Value) (ps : List (Nat × Nat)) (e k : Nat), l = v ∧ x = .int .i64 (e : Int) ∧ i = .int .i64 (k : Int) ∧ k ≤ 1 ∧ e ≤ 16 + 300 * k ∧ ps.length ≤ k ∧ OwnK encP 2 135 w.heap.size v ps wr ∧ Below w.heap.size w wr ∧ Hid (M = (Rd.run d (1 - k) e).map (fun y => (ps ++ y.1, y.2)))) (fun _ _ i _ => 1 + 1 - (intOf i).toNat)
      case atStart => exact ⟨_, [], 0, 0, rfl, rfl, rfl, by omega, by omega, by simp, ownK_nil _ _ _ _ _, Below.refl _ _, Lib.hid (by rw [← HM.out]; simp)⟩
      case round =>
        obtain ⟨v, ps, e, k, rfl, rfl, rfl, hk, he, hps, ho, hb, hh⟩ := hrel
        have hwr := hb.size
        by_cases hlt : k < 1
        · obtain ⟨z, hz⟩ : ∃ z, Rd.nsz (d.drop e) = z := ⟨_, rfl⟩
          have hzl := (Rd.nsz_le (d.drop e)).2
          rw [hz] at hzl
          have HZ := Lib.hid hz
          obtain ⟨m, hm⟩ : ∃ m, 1 - k = m + 1 := ⟨1 - k - 1, by omega⟩
          by_cases h0 : z = 0
          · have HE : Hid (endV e z = .tuple #[.int .i64 0, .bool false]) := Lib.hid (by rw [h0]; rfl)
            have HN : Hid (Rd.parts 5 d = none) := Lib.hid (by
              rw [HP.out, hh.out, hm, Rd.run_zero (by rw [hz]; exact h0)]; rfl)
            clear hz hm h0 hh
            gi_wp2_with (refine ⟨trivial, ?_⟩; gi_at_call 90; refine (callsIn_wide.2 (end_any d e _ hs (by omega))).mono ?_; rw [HZ.out, HE.out]; rintro e w' ⟨rfl, b1⟩)
            go_ret2
            exact partsRet_none HN.out (below_trans hb b1)
          · obtain ⟨f, hf⟩ : ∃ f, e + z = f := ⟨_, rfl⟩
            have HE : Hid (endV e z = .tuple #[.int .i64 (f : Int), .bool true]) := Lib.hid (by
              unfold endV; rw [if_neg h0, hf])
            have hfz : f ≤ e + 255 := by omega
            have hef : e ≤ f := by omega
            have HC : Hid (encP (e, z) = [.int .i64 (e : Int), .int .i64 ((f : Int) - (e : Int))]) := Lib.hid (by
              unfold encP; rw [show ((f : Int) - (e : Int)) = (z : Int) from by omega])
            have HN : Hid (M = (Rd.run d (1 - (k + 1)) f).map (fun y => ((ps ++ [(e, z)]) ++ y.1, y.2))) := Lib.hid (by
              rw [hh.out, hm, Rd.run_succ hz h0, hf, show 1 - (k + 1) = m from by omega, Option.map_map]
              congr 1
              funext y
              simp)
            clear hz hm h0 hh hf
            gi_wp2_with (first
              | (refine ⟨trivial, ?_⟩; gi_at_call 90; refine (callsIn_wide.2 (end_any d e _ hs (by omega))).mono ?_; rw [HZ.out, HE.out]; rintro e1 w1 ⟨rfl, b1⟩; replace ho := ownK_below ho b1; replace hb := below_trans hb b1; have hw1 := hb.size)
              | (gi_at_builtin; refine wpListIn_apk _ rfl _ _ 109 rfl encP 2 encP_len (by omega) encP_one w.heap.size 135 _ 16 Try.underlying109 infoP rfl _ ps rfl (ownK_alloc ho _) ⟨_, 0, none⟩ 1 1 [(e, z)] rfl rfl (fun j u hj => cells_new _ [.int .i64 (e : Int), .int .i64 ((f : Int) - (e : Int))] _ j u (by rw [← HC.out]; simpa using hj)) (by omega) (by omega) (by simp; omega) ?_; intro v2 w2 ho2 hg2 _; refine Hid.out ?_))
            refine Lib.hid ?_
            have hb2 : Below w.heap.size w w2 := hb.trans ((((Below.refl _ w1).alloc hw1 _)).trans (below_ownK (ownK_alloc ho _) hg2 (by simp; omega)))
            gi_wp2
            go_roundw
            case rel => exact ⟨v2, ps ++ [(e, z)], f, k + 1, rfl, rfl, by go_num, by omega, by omega, by simp; omega, ho2, hb2, HN⟩
            case measure => simp [intOf]; omega
        · obtain rfl : k = 1 := by omega
          have HE : Hid (M = some (ps, e)) := Lib.hid (by rw [hh.out]; simp [Rd.run])
          clear hh
          by_cases hend : e + 0 = d.length
          · have HN : Hid (Rd.parts 5 d = some ps) := Lib.hid (by rw [HP.out, HE.out]; exact if_pos hend)
            have hbq : ((e : Int) != (d.length : Int)) = false := by rw [bne_eq_false_iff_eq]; omega
            clear hend
            gi_wp2
            go_ret2
            exact partsRet_some HN.out (readP_own ho) hb
          · have HN : Hid (Rd.parts 5 d = none) := Lib.hid (by rw [HP.out, HE.out]; exact if_neg hend)
            have hbq : ((e : Int) != (d.length : Int)) = true := by rw [bne_iff_ne]; omega
            clear hend
            gi_wp2
            go_ret2
            exact partsRet_none HN.out hb
    · refine (callsIn_wide (n := 8)).1 ?_
      refine callsIn_of_wp Try.func64 rfl trivial ?_ rfl
      simp only [Try.ntmps64, List.size_toArray, List.length_cons, List.length_nil, Nat.reduceAdd, Nat.reduceSub, Array.replicate_succ, Array.replicate_zero, List.push_toArray, List.append_toArray, List.nil_append, List.cons_append]
      gi_wp2
      gi_loopw [10, 11, 12] (fun l x i wr => ∃ (v : Value) (ps : List (Nat × Nat)) (e k : Nat), l = v ∧ x = .int .i64 (e : Int) ∧ i = .int .i64 (k : Int) ∧ k ≤ 1 ∧ e ≤ 16 + 300 * k ∧ ps.length ≤ k ∧ OwnK encP 2 135 w.heap.size v ps wr ∧ Below w.heap.size w wr ∧ Hid (M = (Rd.run d (1 - k) e).map (fun y => (ps ++ y.1, y.2)))) (fun _ _ i _ => 1 + 1 - (intOf i).toNat)
      case atStart => exact ⟨_, [], 0, 0, rfl, rfl, rfl, by omega, by omega, by simp, ownK_nil _ _ _ _ _, Below.refl _ _, Lib.hid (by rw [← HM.out]; simp)⟩
      case round =>
        obtain ⟨v, ps, e, k, rfl, rfl, rfl, hk, he, hps, ho, hb, hh⟩ := hrel
        have hwr := hb.size
        by_cases hlt : k < 1
        · obtain ⟨z, hz⟩ : ∃ z, Rd.nsz (d.drop e) = z := ⟨_, rfl⟩
          have hzl := (Rd.nsz_le (d.drop e)).2
          rw [hz] at hzl
          have HZ := Lib.hid hz
          obtain ⟨m, hm⟩ : ∃ m, 1 - k = m + 1 := ⟨1 - k - 1, by omega⟩
          by_cases h0 : z = 0
          · have HE : Hid (endV e z = .tuple #[.int .i64 0, .bool false]) := Lib.hid (by rw [h0]; rfl)
            have HN : Hid (Rd.parts 12 d = none) := Lib.hid (by
              rw [HP.out, hh.out, hm, Rd.run_zero (by rw [hz]; exact h0)]; rfl)
            clear hz hm h0 hh
            gi_wp2_with (refine ⟨trivial, ?_⟩; gi_at_call 90; refine (callsIn_wide.2 (end_any d e _ hs (by omega))).mono ?_; rw [HZ.out, HE.out]; rintro e w' ⟨rfl, b1⟩)
            go_ret2
            exact partsRet_none HN.out (below_trans hb b1)
          · obtain ⟨f, hf⟩ : ∃ f, e + z = f := ⟨_, rfl⟩
            have HE : Hid (endV e z = .tuple #[.int .i64 (f : Int), .bool true]) := Lib.hid (by
              unfold endV; rw [if_neg h0, hf])
            have hfz : f ≤ e + 255 := by omega
            have hef : e ≤ f := by omega
            have HC : Hid (encP (e, z) = [.int .i64 (e : Int), .int .i64 ((f : Int) - (e : Int))]) := Lib.hid (by
              unfold encP; rw [show ((f : Int) - (e : Int)) = (z : Int) from by omega])
            have HN : Hid (M = (Rd.run d (1 - (k + 1)) f).map (fun y => ((ps ++ [(e, z)]) ++ y.1, y.2))) := Lib.hid (by
              rw [hh.out, hm, Rd.run_succ hz h0, hf, show 1 - (k + 1) = m from by omega, Option.map_map]
              congr 1
              funext y
              simp)
            clear hz hm h0 hh hf
            gi_wp2_with (first
              | (refine ⟨trivial, ?_⟩; gi_at_call 90; refine (callsIn_wide.2 (end_any d e _ hs (by omega))).mono ?_; rw [HZ.out, HE.out]; rintro e1 w1 ⟨rfl, b1⟩; replace ho := ownK_below ho b1; replace hb := below_trans hb b1; have hw1 := hb.size)
              | (gi_at_builtin; refine wpListIn_apk _ rfl _ _ 109 rfl encP 2 encP_len (by omega) encP_one w.heap.size 135 _ 16 Try.underlying109 infoP rfl _ ps rfl (ownK_alloc ho _) ⟨_, 0, none⟩ 1 1 [(e, z)] rfl rfl (fun j u hj => cells_new _ [.int .i64 (e : Int), .int .i64 ((f : Int) - (e : Int))] _ j u (by rw [← HC.out]; simpa using hj)) (by omega) (by omega) (by simp; omega) ?_; intro v2 w2 ho2 hg2 _; refine Hid.out ?_))
            refine Lib.hid ?_
            have hb2 : Below w.heap.size w w2 := hb.trans ((((Below.refl _ w1).alloc hw1 _)).trans (below_ownK (ownK_alloc ho _) hg2 (by simp; omega)))
            gi_wp2
            go_roundw
            case rel => exact ⟨v2, ps ++ [(e, z)], f, k + 1, rfl, rfl, by go_num, by omega, by omega, by simp; omega, ho2, hb2, HN⟩
            case measure => simp [intOf]; omega
        · obtain rfl : k = 1 := by omega
          have HE : Hid (M = some (ps, e)) := Lib.hid (by rw [hh.out]; simp [Rd.run])
          clear hh
          by_cases hend : e + 0 = d.length
          · have HN : Hid (Rd.parts 12 d = some ps) := Lib.hid (by rw [HP.out, HE.out]; exact if_pos hend)
            have hbq : ((e : Int) != (d.length : Int)) = false := by rw [bne_eq_false_iff_eq]; omega
            clear hend
            gi_wp2
            go_ret2
            exact partsRet_some HN.out (readP_own ho) hb
          · have HN : Hid (Rd.parts 12 d = none) := Lib.hid (by rw [HP.out, HE.out]; exact if_neg hend)
            have hbq : ((e : Int) != (d.length : Int)) = true := by rw [bne_iff_ne]; omega
            clear hend
            gi_wp2
            go_ret2
            exact partsRet_none HN.out hb
    · refine (callsIn_wide (n := 8)).1 ?_
      refine callsIn_of_wp Try.func64 rfl trivial ?_ rfl
      simp only [Try.ntmps64, List.size_toArray, List.length_cons, List.length_nil, Nat.reduceAdd, Nat.reduceSub, Array.replicate_succ, Array.replicate_zero, List.push_toArray, List.append_toArray, List.nil_append, List.cons_append]
      gi_wp2
      gi_loopw [10, 11, 12] (fun l x i wr => ∃ (v : Value) (ps : List (Nat × Nat)) (e k : Nat), l = v ∧ x = .int .i64 (e : Int) ∧ i = .int .i64 (k : Int) ∧ k ≤ 1 ∧ e ≤ 16 + 300 * k ∧ ps.length ≤ k ∧ OwnK encP 2 135 w.heap.size v ps wr ∧ Below w.heap.size w wr ∧ Hid (M = (Rd.run d (1 - k) e).map (fun y => (ps ++ y.1, y.2)))) (fun _ _ i _ => 1 + 1 - (intOf i).toNat)
      case atStart => exact ⟨_, [], 2, 0, rfl, rfl, rfl, by omega, by omega, by simp, ownK_nil _ _ _ _ _, Below.refl _ _, Lib.hid (by rw [← HM.out]; simp)⟩
      case round =>
        obtain ⟨v, ps, e, k, rfl, rfl, rfl, hk, he, hps, ho, hb, hh⟩ := hrel
        have hwr := hb.size
        by_cases hlt : k < 1
        · obtain ⟨z, hz⟩ : ∃ z, Rd.nsz (d.drop e) = z := ⟨_, rfl⟩
          have hzl := (Rd.nsz_le (d.drop e)).2
          rw [hz] at hzl
          have HZ := Lib.hid hz
          obtain ⟨m, hm⟩ : ∃ m, 1 - k = m + 1 := ⟨1 - k - 1, by omega⟩
          by_cases h0 : z = 0
          · have HE : Hid (endV e z = .tuple #[.int .i64 0, .bool false]) := Lib.hid (by rw [h0]; rfl)
            have HN : Hid (Rd.parts 15 d = none) := Lib.hid (by
              rw [HP.out, hh.out, hm, Rd.run_zero (by rw [hz]; exact h0)]; rfl)
            clear hz hm h0 hh
            gi_wp2_with (refine ⟨trivial, ?_⟩; gi_at_call 90; refine (callsIn_wide.2 (end_any d e _ hs (by omega))).mono ?_; rw [HZ.out, HE.out]; rintro e w' ⟨rfl, b1⟩)
            go_ret2
            exact partsRet_none HN.out (below_trans hb b1)
          · obtain ⟨f, hf⟩ : ∃ f, e + z = f := ⟨_, rfl⟩
            have HE : Hid (endV e z = .tuple #[.int .i64 (f : Int), .bool true]) := Lib.hid (by
              unfold endV; rw [if_neg h0, hf])
            have hfz : f ≤ e + 255 := by omega
            have hef : e ≤ f := by omega
            have HC : Hid (encP (e, z) = [.int .i64 (e : Int), .int .i64 ((f : Int) - (e : Int))]) := Lib.hid (by
              unfold encP; rw [show ((f : Int) - (e : Int)) = (z : Int) from by omega])
            have HN : Hid (M = (Rd.run d (1 - (k + 1)) f).map (fun y => ((ps ++ [(e, z)]) ++ y.1, y.2))) := Lib.hid (by
              rw [hh.out, hm, Rd.run_succ hz h0, hf, show 1 - (k + 1) = m from by omega, Option.map_map]
              congr 1
              funext y
              simp)
            clear hz hm h0 hh hf
            gi_wp2_with (first
              | (refine ⟨trivial, ?_⟩; gi_at_call 90; refine (callsIn_wide.2 (end_any d e _ hs (by omega))).mono ?_; rw [HZ.out, HE.out]; rintro e1 w1 ⟨rfl, b1⟩; replace ho := ownK_below ho b1; replace hb := below_trans hb b1; have hw1 := hb.size)
              | (gi_at_builtin; refine wpListIn_apk _ rfl _ _ 109 rfl encP 2 encP_len (by omega) encP_one w.heap.size 135 _ 16 Try.underlying109 infoP rfl _ ps rfl (ownK_alloc ho _) ⟨_, 0, none⟩ 1 1 [(e, z)] rfl rfl (fun j u hj => cells_new _ [.int .i64 (e : Int), .int .i64 ((f : Int) - (e : Int))] _ j u (by rw [← HC.out]; simpa using hj)) (by omega) (by omega) (by simp; omega) ?_; intro v2 w2 ho2 hg2 _; refine Hid.out ?_))
            refine Lib.hid ?_
            have hb2 : Below w.heap.size w w2 := hb.trans ((((Below.refl _ w1).alloc hw1 _)).trans (below_ownK (ownK_alloc ho _) hg2 (by simp; omega)))
            gi_wp2
            go_roundw
            case rel => exact ⟨v2, ps ++ [(e, z)], f, k + 1, rfl, rfl, by go_num, by omega, by omega, by simp; omega, ho2, hb2, HN⟩
            case measure => simp [intOf]; omega
        · obtain rfl : k = 1 := by omega
          have HE : Hid (M = some (ps, e)) := Lib.hid (by rw [hh.out]; simp [Rd.run])
          clear hh
          by_cases hend : e + 0 = d.length
          · have HN : Hid (Rd.parts 15 d = some ps) := Lib.hid (by rw [HP.out, HE.out]; exact if_pos hend)
            have hbq : ((e : Int) != (d.length : Int)) = false := by rw [bne_eq_false_iff_eq]; omega
            clear hend
            gi_wp2
            go_ret2
            exact partsRet_some HN.out (readP_own ho) hb
          · have HN : Hid (Rd.parts 15 d = none) := Lib.hid (by rw [HP.out, HE.out]; exact if_neg hend)
            have hbq : ((e : Int) != (d.length : Int)) = true := by rw [bne_iff_ne]; omega
            clear hend
            gi_wp2
            go_ret2
            exact partsRet_none HN.out hb
    · refine (callsIn_wide (n := 8)).1 ?_
      refine callsIn_of_wp Try.func64 rfl trivial ?_ rfl
      simp only [Try.ntmps64, List.size_toArray, List.length_cons, List.length_nil, Nat.reduceAdd, Nat.reduceSub, Array.replicate_succ, Array.replicate_zero, List.push_toArray, List.append_toArray, List.nil_append, List.cons_append]
      gi_wp2
      gi_loopw [10, 11, 12] (fun l x i wr => ∃ (v : Value) (ps : List (Nat × Nat)) (e k : Nat), l = v ∧ x = .int .i64 (e : Int) ∧ i = .int .i64 (k : Int) ∧ k ≤ 1 ∧ e ≤ 16 + 300 * k ∧ ps.length ≤ k ∧ OwnK encP 2 135 w.heap.size v ps wr ∧ Below w.heap.size w wr ∧ Hid (M = (Rd.run d (1 - k) e).map (fun y => (ps ++ y.1, y.2)))) (fun _ _ i _ => 1 + 1 - (intOf i).toNat)
      case atStart => exact ⟨_, [], 6, 0, rfl, rfl, rfl, by omega, by omega, by simp, ownK_nil _ _ _ _ _, Below.refl _ _, Lib.hid (by rw [← HM.out]; simp)⟩
      case round =>
        obtain ⟨v, ps, e, k, rfl, rfl, rfl, hk, he, hps, ho, hb, hh⟩ := hrel
        have hwr := hb.size
        by_cases hlt : k < 1
        · obtain ⟨z, hz⟩ : ∃ z, Rd.nsz (d.drop e) = z := ⟨_, rfl⟩
          have hzl := (Rd.nsz_le (d.drop e)).2
          rw [hz] at hzl
          have HZ := Lib.hid hz
          obtain ⟨m, hm⟩ : ∃ m, 1 - k = m + 1 := ⟨1 - k - 1, by omega⟩
          by_cases h0 : z = 0
          · have HE : Hid (endV e z = .tuple #[.int .i64 0, .bool false]) := Lib.hid (by rw [h0]; rfl)
            have HN : Hid (Rd.parts 33 d = none) := Lib.hid (by
              rw [HP.out, hh.out, hm, Rd.run_zero (by rw [hz]; exact h0)]; rfl)
            clear hz hm h0 hh
            gi_wp2_with (refine ⟨trivial, ?_⟩; gi_at_call 90; refine (callsIn_wide.2 (end_any d e _ hs (by omega))).mono ?_; rw [HZ.out, HE.out]; rintro e w' ⟨rfl, b1⟩)
            go_ret2
            exact partsRet_none HN.out (below_trans hb b1)
          · obtain ⟨f, hf⟩ : ∃ f, e + z = f := ⟨_, rfl⟩
            have HE : Hid (endV e z = .tuple #[.int .i64 (f : Int), .bool true]) := Lib.hid (by
              unfold endV; rw [if_neg h0, hf])
            have hfz : f ≤ e + 255 := by omega
            have hef : e ≤ f := by omega
            have HC : Hid (encP (e, z) = [.int .i64 (e : Int), .int .i64 ((f : Int) - (e : Int))]) := Lib.hid (by
              unfold encP; rw [show ((f : Int) - (e : Int)) = (z : Int) from by omega])
            have HN : Hid (M = (Rd.run d (1 - (k + 1)) f).map (fun y => ((ps ++ [(e, z)]) ++ y.1, y.2))) := Lib.hid (by
              rw [hh.out, hm, Rd.run_succ hz h0, hf, show 1 - (k + 1) = m from by omega, Option.map_map]
              congr 1
              funext y
              simp)
            clear hz hm h0 hh hf
            gi_wp2_with (first
              | (refine ⟨trivial, ?_⟩; gi_at_call 90; refine (callsIn_wide.2 (end_any d e _ hs (by omega))).mono ?_; rw [HZ.out, HE.out]; rintro e1 w1 ⟨rfl, b1⟩; replace ho := ownK_below ho b1; replace hb := below_trans hb b1; have hw1 := hb.size)
              | (gi_at_builtin; refine wpListIn_apk _ rfl _ _ 109 rfl encP 2 encP_len (by omega) encP_one w.heap.size 135 _ 16 Try.underlying109 infoP rfl _ ps rfl (ownK_alloc ho _) ⟨_, 0, none⟩ 1 1 [(e, z)] rfl rfl (fun j u hj => cells_new _ [.int .i64 (e : Int), .int .i64 ((f : Int) - (e : Int))] _ j u (by rw [← HC.out]; simpa using hj)) (by omega) (by omega) (by simp; omega) ?_; intro v2 w2 ho2 hg2 _; refine Hid.out ?_))
            refine Lib.hid ?_
            have hb2 : Below w.heap.size w w2 := hb.trans ((((Below.refl _ w1).alloc hw1 _)).trans (below_ownK (ownK_alloc ho _) hg2 (by simp; omega)))
            gi_wp2
            go_roundw
            case rel => exact ⟨v2, ps ++ [(e, z)], f, k + 1, rfl, rfl, by go_num, by omega, by omega, by simp; omega, ho2, hb2, HN⟩
            case measure => simp [intOf]; omega
        · obtain rfl : k = 1 := by omega
          have HE : Hid (M = some (ps, e)) := Lib.hid (by rw [hh.out]; simp [Rd.run])
          clear hh
          by_cases hend : e + 0 = d.length
          · have HN : Hid (Rd.parts 33 d = some ps) := Lib.hid (by rw [HP.out, HE.out]; exact if_pos hend)
            have hbq : ((e : Int) != (d.length : Int)) = false := by rw [bne_eq_false_iff_eq]; omega
            clear hend
            gi_wp2
            go_ret2
            exact partsRet_some HN.out (readP_own ho) hb
          · have HN : Hid (Rd.parts 33 d = none) := Lib.hid (by rw [HP.out, HE.out]; exact if_neg hend)
            have hbq : ((e : Int) != (d.length : Int)) = true := by rw [bne_iff_ne]; omega
            clear hend
            gi_wp2
            go_ret2
            exact partsRet_none HN.out hb
    · refine (callsIn_wide (n := 8)).1 ?_
      refine callsIn_of_wp Try.func64 rfl trivial ?_ rfl
      simp only [Try.ntmps64, List.size_toArray, List.length_cons, List.length_nil, Nat.reduceAdd, Nat.reduceSub, Array.replicate_succ, Array.replicate_zero, List.push_toArray, List.append_toArray, List.nil_append, List.cons_append]
      gi_wp2
      gi_loopw [10, 11, 12] (fun l x i wr => ∃ (v : Value) (ps : List (Nat × Nat)) (e k : Nat), l = v ∧ x = .int .i64 (e : Int) ∧ i = .int .i64 (k : Int) ∧ k ≤ 2 ∧ e ≤ 16 + 300 * k ∧ ps.length ≤ k ∧ OwnK encP 2 135 w.heap.size v ps wr ∧ Below w.heap.size w wr ∧ Hid (M = (Rd.run d (2 - k) e).map (fun y => (ps ++ y.1, y.2)))) (fun _ _ i _ => 2 + 1 - (intOf i).toNat)
      case atStart => exact ⟨_, [], 0, 0, rfl, rfl, rfl, by omega, by omega, by simp, ownK_nil _ _ _ _ _, Below.refl _ _, Lib.hid (by rw [← HM.out]; simp)⟩
      case round =>
        obtain ⟨v, ps, e, k, rfl, rfl, rfl, hk, he, hps, ho, hb, hh⟩ := hrel
        have hwr := hb.size
        by_cases hlt : k < 2
        · obtain ⟨z, hz⟩ : ∃ z, Rd.nsz (d.drop e) = z := ⟨_, rfl⟩
          have hzl := (Rd.nsz_le (d.drop e)).2
          rw [hz] at hzl
          have HZ := Lib.hid hz
          obtain ⟨m, hm⟩ : ∃ m, 2 - k = m + 1 := ⟨2 - k - 1, by omega⟩
          by_cases h0 : z = 0
          · have HE : Hid (endV e z = .tuple #[.int .i64 0, .bool false]) := Lib.hid (by rw [h0]; rfl)
            have HN : Hid (Rd.parts 6 d = none) := Lib.hid (by
              rw [HP.out, hh.out, hm, Rd.run_zero (by rw [hz]; exact h0)]; rfl)
            clear hz hm h0 hh
            gi_wp2_with (refine ⟨trivial, ?_⟩; gi_at_call 90; refine (callsIn_wide.2 (end_any d e _ hs (by omega))).mono ?_; rw [HZ.out, HE.out]; rintro e w' ⟨rfl, b1⟩)
            go_ret2
            exact partsRet_none HN.out (below_trans hb b1)
          · obtain ⟨f, hf⟩ : ∃ f, e + z = f := ⟨_, rfl⟩
            have HE : Hid (endV e z = .tuple #[.int .i64 (f : Int), .bool true]) := Lib.hid (by
              unfold endV; rw [if_neg h0, hf])
            have hfz : f ≤ e + 255 := by omega
            have hef : e ≤ f := by omega
            have HC : Hid (encP (e, z) = [.int .i64 (e : Int), .int .i64 ((f : Int) - (e : Int))]) := Lib.hid (by
              unfold encP; rw [show ((f : Int) - (e : Int)) = (z : Int) from by omega])
            have HN : Hid (M = (Rd.run d (2 - (k + 1)) f).map (fun y => ((ps ++ [(e, z)]) ++ y.1, y.2))) := Lib.hid (by
              rw [hh.out, hm, Rd.run_succ hz h0, hf, show 2 - (k + 1) = m from by omega, Option.map_map]
              congr 1
              funext y
              simp)
            clear hz hm h0 hh hf
            gi_wp2_with (first
              | (refine ⟨trivial, ?_⟩; gi_at_call 90; refine (callsIn_wide.2 (end_any d e _ hs (by omega))).mono ?_; rw [HZ.out, HE.out]; rintro e1 w1 ⟨rfl, b1⟩; replace ho := ownK_below ho b1; replace hb := below_trans hb b1; have hw1 := hb.size)
              | (gi_at_builtin; refine wpListIn_apk _ rfl _ _ 109 rfl encP 2 encP_len (by omega) encP_one w.heap.size 135 _ 16 Try.underlying109 infoP rfl _ ps rfl (ownK_alloc ho _) ⟨_, 0, none⟩ 1 1 [(e, z)] rfl rfl (fun j u hj => cells_new _ [.int .i64 (e : Int), .int .i64 ((f : Int) - (e : Int))] _ j u (by rw [← HC.out]; simpa using hj)) (by omega) (by omega) (by simp; omega) ?_; intro v2 w2 ho2 hg2 _; refine Hid.out ?_))
            refine Lib.hid ?_
            have hb2 : Below w.heap.size w w2 := hb.trans ((((Below.refl _ w1).alloc hw1 _)).trans (below_ownK (ownK_alloc ho _) hg2 (by simp; omega)))
            gi_wp2
            go_roundw
            case rel => exact ⟨v2, ps ++ [(e, z)], f, k + 1, rfl, rfl, by go_num, by omega, by omega, by simp; omega, ho2, hb2, HN⟩
            case measure => simp [intOf]; omega
        · obtain rfl : k = 2 := by omega
          have HE : Hid (M = some (ps, e)) := Lib.hid (by rw [hh.out]; simp [Rd.run])
          clear hh
          by_cases hend : e + 20 = d.length
          · have HN : Hid (Rd.parts 6 d = some ps) := Lib.hid (by rw [HP.out, HE.out]; exact if_pos hend)
            have hbq : ((e : Int) + 20 != (d.length : Int)) = false := by rw [bne_eq_false_iff_eq]; omega
            clear hend
            gi_wp2
            go_ret2
            exact partsRet_some HN.out (readP_own ho) hb
          · have HN : Hid (Rd.parts 6 d = none) := Lib.hid (by rw [HP.out, HE.out]; exact if_neg hend)
            have hbq : ((e : Int) + 20 != (d.length : Int)) = true := by rw [bne_iff_ne]; omega
            clear hend
            gi_wp2
            go_ret2
            exact partsRet_none HN.out hb
end Go.Proofs.Ytdodamkndigjkaa
