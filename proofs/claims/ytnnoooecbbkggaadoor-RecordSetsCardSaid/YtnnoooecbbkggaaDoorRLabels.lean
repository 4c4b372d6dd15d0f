/- The document's own Labels (freshetref1). -/
import Derived.Test.YtnnoooecbbkggaaDoorOrderMath
import Derived.Test.YtnnoooecbbkggaaDoorValid
import Derived.OwnWalkIn
import Derived.TacticsInMore
import Derived.LoopNIn
import Derived.LoopIn
namespace Go.Proofs.YtnnoooecbbkggaaDoor
open Go.RowKit Go.Shelf
attribute [local go_sem] Oper.semAt_some

namespace Nm
theorem validU_encs_app : ∀ {ls : List (List UInt8)} (_ : good ls) (r : List UInt8), validU (encs ls ++ r) = validU r
  | [], _, _ => rfl
  | l :: ls, g, r => by
    obtain ⟨h1, h2⟩ := g l (by simp)
    have hlen : (encs (l :: ls) ++ r) = UInt8.ofNat l.length :: (l ++ (encs ls ++ r)) := by simp [encs]
    rw [hlen, validU_cons, if_neg (ofNat_ne h1 h2), ofNat_toNat h2, if_neg (by simp; omega), List.drop_left' rfl]
    exact validU_encs_app (fun x hx => g x (List.mem_cons_of_mem _ hx)) r
/-- Labels read so far, and what is left. -/
structure ReadTo (n : List UInt8) (ls : List (List UInt8)) : Prop where
  good : good ls
  le : encL ls ≤ n.length
  eq : n = encs ls ++ n.drop (encL ls)
theorem ReadTo.zero (n : List UInt8) : ReadTo n [] := ⟨(fun _ h => by cases h), Nat.zero_le _, rfl⟩
theorem ReadTo.valid {n : List UInt8} {ls : List (List UInt8)} (h : ReadTo n ls) (hn : ¬ 255 < n.length) : Nm.valid n = validU (n.drop (encL ls)) := by
  rw [valid_of_short hn]
  conv => lhs; rw [h.eq]
  exact validU_encs_app h.good _
theorem ReadTo.stop {n : List UInt8} {ls : List (List UInt8)} (h : ReadTo n ls) (hn : ¬ 255 < n.length) (hk : ¬ encL ls < n.length) : Nm.valid n = false := by
  rw [h.valid hn, List.drop_of_length_le (by omega)]; rfl
theorem ReadTo.zero_at {n : List UInt8} {ls : List (List UInt8)} (h : ReadTo n ls) (hn : ¬ 255 < n.length) (hk : encL ls < n.length) (h0 : n[encL ls] = 0) : Nm.valid n = decide (encL ls + 1 = n.length) := by
  rw [h.valid hn, drop_cons hk, h0, validU_cons, if_pos rfl, Bool.eq_iff_iff]
  simp only [List.isEmpty_iff, List.drop_eq_nil_iff, decide_eq_true_eq]
  omega
theorem ReadTo.labsD {n : List UInt8} {ls : List (List UInt8)} (h : ReadTo n ls) (hn : ¬ 255 < n.length) (hk : encL ls < n.length) (h0 : n[encL ls] = 0) (hv : Nm.valid n = true) : ls = labsD n := by
  rw [h.zero_at hn hk h0, decide_eq_true_eq] at hv
  have e : n = made ls := by
    rw [made_encs]
    conv => lhs; rw [h.eq, drop_cons hk, h0, List.drop_of_length_le (by omega)]
  have := labs_iff.2 ⟨e, h.good, by omega⟩
  unfold Nm.labsD
  rw [this]; rfl
theorem ReadTo.bad {n : List UInt8} {ls : List (List UInt8)} (h : ReadTo n ls) (hn : ¬ 255 < n.length) (hk : encL ls < n.length) (h0 : n[encL ls] ≠ 0) (hb : 63 < n[encL ls].toNat ∨ n.length < encL ls + 1 + n[encL ls].toNat) : Nm.valid n = false := by
  rw [h.valid hn, drop_cons hk, validU_cons, if_neg h0, if_pos (by rw [List.length_drop]; omega)]
theorem ReadTo.step {n : List UInt8} {ls : List (List UInt8)} (h : ReadTo n ls) (hk : encL ls < n.length) (h0 : n[encL ls] ≠ 0) (h1 : n[encL ls].toNat ≤ 63) (h2 : encL ls + 1 + n[encL ls].toNat ≤ n.length) :
    ReadTo n (ls ++ [(n.drop (encL ls + 1)).take n[encL ls].toNat]) ∧ encL (ls ++ [(n.drop (encL ls + 1)).take n[encL ls].toNat]) = encL ls + 1 + n[encL ls].toNat := by
  have h3 : 1 ≤ n[encL ls].toNat := by
    rcases Nat.eq_zero_or_pos n[encL ls].toNat with e | e
    · exact absurd (by rw [← UInt8.toNat_inj]; exact e) h0
    · exact e
  have hl : ((n.drop (encL ls + 1)).take n[encL ls].toNat).length = n[encL ls].toNat := by
    rw [List.length_take, List.length_drop]; omega
  have he : encL (ls ++ [(n.drop (encL ls + 1)).take n[encL ls].toNat]) = encL ls + 1 + n[encL ls].toNat := by
    rw [encL_append]; simp only [encL, hl]; omega
  refine ⟨⟨fun x hx => ?_, by omega, ?_⟩, he⟩
  · rcases List.mem_append.1 hx with hx | hx
    · exact h.good x hx
    · rw [List.mem_singleton] at hx
      subst hx
      rw [hl]; exact ⟨h3, h1⟩
  · rw [he]
    conv => lhs; rw [h.eq, drop_cons hk]
    rw [encs_append]
    simp only [encs, hl, List.append_nil, List.append_assoc, List.cons_append]
    congr 1
    rw [show UInt8.ofNat n[encL ls].toNat = n[encL ls] from by simp]
    congr 1
    conv => lhs; rw [← List.take_append_drop n[encL ls].toNat (n.drop (encL ls + 1))]
    rw [List.drop_drop]
end Nm

/-- What Labels of the document's own gives. -/
def LabRet (n : List UInt8) (w : World) (e : Ending) (w' : World) : Prop :=
  ∃ (v : Value) (L : List (List UInt8)), e = .returned (.tuple #[v, .bool (Nm.valid n)]) ∧ OwnE encS 9 w.heap.size v L w' ∧ Below w.heap.size w w' ∧ (Nm.valid n = true → L = Nm.labsD n) ∧ L.length ≤ 255

set_option maxRecDepth 100000 in
set_option maxHeartbeats 4000000 in
theorem rlabels_any (n : List UInt8) (w : World) (hs : n.length ≤ 100000) :
    Calls Tryd.prog 60 #[.string ⟨n.toArray⟩] w (LabRet n w) := by
  by_cases h255 : 255 < n.length
  · have H : Nm.valid n = false := by simp [Nm.valid, Nm.labs, h255]
    have HH := Lib.hid H
    clear H
    go_enter Tryd.func60, Tryd.ntmps60
    go_wp2
    go_ret2
    exact ⟨.slice none 0 0, [], by rw [HH.out]; rfl, ownE_nil _ _ _ _, Below.refl _ _, (fun h => by rw [HH.out] at h; cases h), by simp⟩
  refine (callsIn_wide (n := 8)).1 ?_
  refine callsIn_of_wp Tryd.func60 rfl trivial ?_ rfl
  simp only [Tryd.ntmps60, List.size_toArray, List.length_cons, List.length_nil, Nat.reduceAdd, Nat.reduceSub, Array.replicate_succ, Array.replicate_zero, List.push_toArray, List.append_toArray, List.nil_append, List.cons_append]
  gi_wp2
  gi_loopw [4, 5] (fun v i wr => ∃ (v1 : Value) (k : Nat) (L : List (List UInt8)), v = v1 ∧ i = .int .i64 (k : Int) ∧ k ≤ n.length ∧ L.length ≤ k ∧ OwnE encS 9 w.heap.size v1 L wr ∧ Below w.heap.size w wr ∧ Hid (k = Nm.encL L ∧ Nm.ReadTo n L)) (fun _ i _ => n.length + 1 - (intOf i).toNat)
  case atStart => exact ⟨_, 0, [], rfl, rfl, by omega, by simp, ownE_nil _ _ _ _, Below.refl _ _, Lib.hid ⟨rfl, Nm.ReadTo.zero n⟩⟩
  case round =>
    obtain ⟨v1, k, L, rfl, rfl, hk, hLk, ho, hb, hh⟩ := hrel
    have hwr := hb.size
    by_cases hlt : k < n.length
    · have hc : ((⟨n.toArray⟩ : ByteArray)[k]'hlt) = n[k] := rfl
      obtain ⟨c, hcc⟩ : ∃ c, c = n[k] := ⟨_, rfl⟩
      have hc255 : c.toNat ≤ 255 := by have := c.toNat_lt; omega
      have hw : wrap64 (c.toNat : Int) = (c.toNat : Int) := by unfold wrap64; omega
      rw [← hcc] at hc
      by_cases h0 : c = 0
      · have t1 : ((c.toNat : Int) == 0) = true := by rw [h0]; rfl
        have hz : n[Nm.encL L]'(by rw [← hh.out.1]; exact hlt) = 0 := by rw [← h0, hcc]; congr 1; exact hh.out.1.symm
        have HV := Lib.hid (hh.out.2.zero_at h255 (by rw [← hh.out.1]; exact hlt) hz)
        have HL := Lib.hid (hh.out.2.labsD h255 (by rw [← hh.out.1]; exact hlt) hz)
        have HK := Lib.hid hh.out.1
        clear hcc hz hh h0
        gi_wp2
        go_ret2
        refine ⟨u4, L, ?_, ho, hb, HL.out, by omega⟩
        rw [HV.out, ← HK.out, show decide (k + 1 = n.length) = ((k : Int) == (n.length : Int) - 1) from by rw [Bool.eq_iff_iff, decide_eq_true_eq, beq_iff_eq]; omega]
        rfl
      · have t1 : ((c.toNat : Int) == 0) = false := nbeqI (b := 0) h0
        have h0' : n[Nm.encL L]'(by rw [← hh.out.1]; exact hlt) = c := by rw [hcc]; congr 1; exact hh.out.1.symm
        by_cases hbad : 63 < c.toNat ∨ n.length < k + 1 + c.toNat
        · have HV := Lib.hid (hh.out.2.bad h255 (by rw [← hh.out.1]; exact hlt) (by rw [h0']; exact h0) (by rw [h0', ← hh.out.1]; exact hbad))
          clear hcc hh h0 h0'
          have hcase : 63 < c.toNat ∨ (c.toNat ≤ 63 ∧ n.length < k + 1 + c.toNat) := by omega
          clear hbad
          rcases hcase with hb1 | ⟨hb1, hb2⟩
          all_goals
            gi_wp2
            go_ret2
            exact ⟨.slice none 0 0, [], by rw [HV.out]; rfl, ownE_nil _ _ _ _, hb, (fun h => by rw [HV.out] at h; cases h), by simp⟩
        · have hb1 : c.toNat ≤ 63 := by omega
          have hb2 : k + 1 + c.toNat ≤ n.length := by omega
          have hst := hh.out.2.step (by rw [← hh.out.1]; exact hlt) (by rw [h0']; exact h0) (by rw [h0']; exact hb1) (by rw [h0', ← hh.out.1]; exact hb2)
          rw [h0', ← hh.out.1] at hst
          obtain ⟨l, hl⟩ : ∃ l, l = (n.drop (k + 1)).take c.toNat := ⟨_, rfl⟩
          have hsl := run_cut (P := Tryd.prog) Tryd.underlying9 (l := n) (l' := l) (lo := (k : Int) + 1) (hi := (k : Int) + 1 + (c.toNat : Int)) (by omega) (by omega) (by omega) (by rw [hl]; congr 1; omega) wr
          rw [← hl] at hst
          have HS := Lib.hid hst
          clear hcc hh h0 h0' hbad hst hl
          gi_wp2_with (gi_at_builtin; refine wpListIn_apd _ rfl _ _ 52 rfl encS encS_one w.heap.size 9 _ 16 Tryd.underlying52 infoStr rfl u4 L rfl (ownE_alloc ho _) ⟨_, 0, none⟩ 1 1 [l] rfl rfl (cell_one_new _ _ _) (by omega) (by omega) (by simp; omega) ?_; intro v2 w2 ho2 ha2 hn2; refine Hid.out ?_)
          refine Lib.hid ?_
          gi_wp2
          go_roundw
          case rel => exact ⟨v2, k + 1 + c.toNat, L ++ [l], rfl, by go_num, by omega, by simp; omega, ho2, hb.trans (ha2.of_alloc hwr).below, Lib.hid ⟨HS.out.2.symm, HS.out.1⟩⟩
          case measure => simp [intOf]; omega
    · have HV := Lib.hid (hh.out.2.stop h255 (by rw [← hh.out.1]; exact hlt))
      clear hh
      gi_wp2
      go_ret2
      exact ⟨.slice none 0 0, [], by rw [HV.out]; rfl, ownE_nil _ _ _ _, hb, (fun h => by rw [HV.out] at h; cases h), by simp⟩
end Go.Proofs.YtnnoooecbbkggaaDoor
