/- 7 texts put together: Valid, RLabels, RValid, FoldMath, Fold, RFold, Harn. -/
import Derived.WalkKit
import Derived.Test.YtdbaocphglijbaaDoorProg
import Derived.Lib.Hide
import Derived.BigQuiet
import Derived.Deep.QuietTactic
import Derived.OwnWalkIn
import Derived.TacticsInMore
import Derived.LoopNIn
import Derived.LoopIn
import Derived.Lib.ConvBytes
import Derived.Lib.AtoiErrMem
import Derived.Test.YtdbaocphglijbaaDoorJB14
import Derived.Test.YtdbaocphglijbaaDoorJB17
import Derived.Test.YtdbaocphglijbaaDoorJB18
/- What Valid answers. -/
namespace Go.Proofs.YtdbaocphglijbaaDoor
open Go.RowKit


set_option maxHeartbeats 400000 in
theorem valid_any (n : List UInt8) (w : World) (hs : n.length ≤ 100000) :
    Calls Tryd.prog 72 #[.string ⟨n.toArray⟩] w fun e w' => e = .returned (.bool (Nm.valid n)) ∧ w = w' := by
  by_cases h255 : 255 < n.length
  · have H : Nm.valid n = false := by simp [Nm.valid, Nm.labs, h255]
    have HH := Lib.hid H
    clear H
    go_enter Tryd.func72, Tryd.ntmps72
    go_wp2
    go_ret
    exact ⟨ret_bool HH.out.symm, rfl⟩
  · go_enter Tryd.func72, Tryd.ntmps72
    go_wp2
    go_loop [3] (fun i => ∃ k : Nat, k ≤ 400 ∧ i = .int .i64 k ∧ Nm.ValidAt n k) (fun i => n.length + 1 - (intOf i).toNat)
    case atStart => exact ⟨0, by omega, rfl, Nm.validAt_zero n⟩
    case round =>
      obtain ⟨k, hk, rfl, hv⟩ := hrel
      have HV := Lib.hid hv
      clear hv
      by_cases hlt : k < n.length
      · have hc : ((⟨n.toArray⟩ : ByteArray)[k]'hlt) = n[k] := rfl
        go_wp2
        · go_ret
          rename_i h63 _
          exact ⟨ret_bool (by rw [Nm.valid_of_short h255, HV.out.big hlt (by omega)]), rfl⟩
        · rename_i h0 h63
          rw [bne_iff_ne] at h0
          have h0' : n[k] ≠ 0 := fun e => h0 (by rw [e]; rfl)
          exact ⟨⟨k + (1 + n[k].toNat), by omega, by go_num, HV.out.step hlt h0' (by omega)⟩, by simp [intOf]; omega⟩
        · rename_i h0 _
          have h0' : n[k] = 0 := by rw [bne_eq_false_iff_eq] at h0; rw [← UInt8.toNat_inj]; simpa using h0
          go_ret
          exact ⟨ret_bool (by rw [Nm.valid_of_short h255, HV.out.zero hlt h0', Bool.eq_iff_iff]; simp; omega), rfl⟩
      · go_wp2
        go_ret
        exact ⟨ret_bool (by rw [Nm.valid_of_short h255, HV.out.stop (by omega), beq_eq_false_iff_ne]; omega), rfl⟩
end Go.Proofs.YtdbaocphglijbaaDoor

/- The document's own Labels (freshetref1). -/
namespace Go.Proofs.YtdbaocphglijbaaDoor
open Go.RowKit Go.Shelf
attribute [local go_sem] Oper.semAt_some

namespace Nm
theorem validU_encs_app : ∀ {ls : List (List UInt8)} (_ : good ls) (r : List UInt8), validU (encs ls ++ r) = validU r
  | [], _, _ => rfl
  | l :: ls, g, r => by
    obtain ⟨h1, h2⟩ := g l (by simp)
    have hlen : (encs (l :: ls) ++ r) = UInt8.ofNat l.length :: (l ++ (encs ls ++ r)) := by simp [encs]
    rw [hlen, validU_cons, if_neg (ofNat_ne h1 h2), ofNat_toNat h2, if_neg (by simp; omega), List.drop_left' rfl]
    exact validU_encs_app (fun x hx => g x (List.mem_cons_of_mem _ hx)) r
/-- Labels read so far, and what is left. -/
structure ReadTo (n : List UInt8) (ls : List (List UInt8)) : Prop where
  good : good ls
  le : encL ls ≤ n.length
  eq : n = encs ls ++ n.drop (encL ls)
theorem ReadTo.zero (n : List UInt8) : ReadTo n [] := ⟨(fun _ h => by cases h), Nat.zero_le _, rfl⟩
theorem ReadTo.valid {n : List UInt8} {ls : List (List UInt8)} (h : ReadTo n ls) (hn : ¬ 255 < n.length) : Nm.valid n = validU (n.drop (encL ls)) := by
  rw [valid_of_short hn]
  conv => lhs; rw [h.eq]
  exact validU_encs_app h.good _
theorem ReadTo.stop {n : List UInt8} {ls : List (List UInt8)} (h : ReadTo n ls) (hn : ¬ 255 < n.length) (hk : ¬ encL ls < n.length) : Nm.valid n = false := by
  rw [h.valid hn, List.drop_of_length_le (by omega)]; rfl
theorem ReadTo.zero_at {n : List UInt8} {ls : List (List UInt8)} (h : ReadTo n ls) (hn : ¬ 255 < n.length) (hk : encL ls < n.length) (h0 : n[encL ls] = 0) : Nm.valid n = decide (encL ls + 1 = n.length) := by
  rw [h.valid hn, drop_cons hk, h0, validU_cons, if_pos rfl, Bool.eq_iff_iff]
  simp only [List.isEmpty_iff, List.drop_eq_nil_iff, decide_eq_true_eq]
  omega
theorem ReadTo.labsD {n : List UInt8} {ls : List (List UInt8)} (h : ReadTo n ls) (hn : ¬ 255 < n.length) (hk : encL ls < n.length) (h0 : n[encL ls] = 0) (hv : Nm.valid n = true) : ls = labsD n := by
  rw [h.zero_at hn hk h0, decide_eq_true_eq] at hv
  have e : n = made ls := by
    rw [made_encs]
    conv => lhs; rw [h.eq, drop_cons hk, h0, List.drop_of_length_le (by omega)]
  have := labs_iff.2 ⟨e, h.good, by omega⟩
  unfold Nm.labsD
  rw [this]; rfl
theorem ReadTo.bad {n : List UInt8} {ls : List (List UInt8)} (h : ReadTo n ls) (hn : ¬ 255 < n.length) (hk : encL ls < n.length) (h0 : n[encL ls] ≠ 0) (hb : 63 < n[encL ls].toNat ∨ n.length < encL ls + 1 + n[encL ls].toNat) : Nm.valid n = false := by
  rw [h.valid hn, drop_cons hk, validU_cons, if_neg h0, if_pos (by rw [List.length_drop]; omega)]
theorem ReadTo.step {n : List UInt8} {ls : List (List UInt8)} (h : ReadTo n ls) (hk : encL ls < n.length) (h0 : n[encL ls] ≠ 0) (h1 : n[encL ls].toNat ≤ 63) (h2 : encL ls + 1 + n[encL ls].toNat ≤ n.length) :
    ReadTo n (ls ++ [(n.drop (encL ls + 1)).take n[encL ls].toNat]) ∧ encL (ls ++ [(n.drop (encL ls + 1)).take n[encL ls].toNat]) = encL ls + 1 + n[encL ls].toNat := by
  have h3 : 1 ≤ n[encL ls].toNat := by
    rcases Nat.eq_zero_or_pos n[encL ls].toNat with e | e
    · exact absurd (by rw [← UInt8.toNat_inj]; exact e) h0
    · exact e
  have hl : ((n.drop (encL ls + 1)).take n[encL ls].toNat).length = n[encL ls].toNat := by
    rw [List.length_take, List.length_drop]; omega
  have he : encL (ls ++ [(n.drop (encL ls + 1)).take n[encL ls].toNat]) = encL ls + 1 + n[encL ls].toNat := by
    rw [encL_append]; simp only [encL, hl]; omega
  refine ⟨⟨fun x hx => ?_, by omega, ?_⟩, he⟩
  · rcases List.mem_append.1 hx with hx | hx
    · exact h.good x hx
    · rw [List.mem_singleton] at hx
      subst hx
      rw [hl]; exact ⟨h3, h1⟩
  · rw [he]
    conv => lhs; rw [h.eq, drop_cons hk]
    rw [encs_append]
    simp only [encs, hl, List.append_nil, List.append_assoc, List.cons_append]
    congr 1
    rw [show UInt8.ofNat n[encL ls].toNat = n[encL ls] from by simp]
    congr 1
    conv => lhs; rw [← List.take_append_drop n[encL ls].toNat (n.drop (encL ls + 1))]
    rw [List.drop_drop]
end Nm

/-- What Labels of the document's own gives. -/
def LabRet (n : List UInt8) (w : World) (e : Ending) (w' : World) : Prop :=
  ∃ (v : Value) (L : List (List UInt8)), e = .returned (.tuple #[v, .bool (Nm.valid n)]) ∧ OwnE encS 9 w.heap.size v L w' ∧ Below w.heap.size w w' ∧ (Nm.valid n = true → L = Nm.labsD n) ∧ L.length ≤ 255

set_option maxRecDepth 100000 in
set_option maxHeartbeats 4000000 in
theorem rlabels_any (n : List UInt8) (w : World) (hs : n.length ≤ 100000) :
    Calls Tryd.prog 81 #[.string ⟨n.toArray⟩] w (LabRet n w) := by
  by_cases h255 : 255 < n.length
  · have H : Nm.valid n = false := by simp [Nm.valid, Nm.labs, h255]
    have HH := Lib.hid H
    clear H
    go_enter Tryd.func81, Tryd.ntmps81
    go_wp2
    go_ret2
    exact ⟨.slice none 0 0, [], by rw [HH.out]; rfl, ownE_nil _ _ _ _, Below.refl _ _, (fun h => by rw [HH.out] at h; cases h), by simp⟩
  refine (callsIn_wide (n := 8)).1 ?_
  refine callsIn_of_wp Tryd.func81 rfl trivial ?_ rfl
  simp only [Tryd.ntmps81, List.size_toArray, List.length_cons, List.length_nil, Nat.reduceAdd, Nat.reduceSub, Array.replicate_succ, Array.replicate_zero, List.push_toArray, List.append_toArray, List.nil_append, List.cons_append]
  gi_wp2
  gi_loopw [4, 5] (fun v i wr => ∃ (v1 : Value) (k : Nat) (L : List (List UInt8)), v = v1 ∧ i = .int .i64 (k : Int) ∧ k ≤ n.length ∧ L.length ≤ k ∧ OwnE encS 9 w.heap.size v1 L wr ∧ Below w.heap.size w wr ∧ Hid (k = Nm.encL L ∧ Nm.ReadTo n L)) (fun _ i _ => n.length + 1 - (intOf i).toNat)
  case atStart => exact ⟨_, 0, [], rfl, rfl, by omega, by simp, ownE_nil _ _ _ _, Below.refl _ _, Lib.hid ⟨rfl, Nm.ReadTo.zero n⟩⟩
  case round =>
    obtain ⟨v1, k, L, rfl, rfl, hk, hLk, ho, hb, hh⟩ := hrel
    have hwr := hb.size
    by_cases hlt : k < n.length
    · have hc : ((⟨n.toArray⟩ : ByteArray)[k]'hlt) = n[k] := rfl
      obtain ⟨c, hcc⟩ : ∃ c, c = n[k] := ⟨_, rfl⟩
      have hc255 : c.toNat ≤ 255 := by have := c.toNat_lt; omega
      have hw : wrap64 (c.toNat : Int) = (c.toNat : Int) := by unfold wrap64; omega
      rw [← hcc] at hc
      by_cases h0 : c = 0
      · have t1 : ((c.toNat : Int) == 0) = true := by rw [h0]; rfl
        have hz : n[Nm.encL L]'(by rw [← hh.out.1]; exact hlt) = 0 := by rw [← h0, hcc]; congr 1; exact hh.out.1.symm
        have HV := Lib.hid (hh.out.2.zero_at h255 (by rw [← hh.out.1]; exact hlt) hz)
        have HL := Lib.hid (hh.out.2.labsD h255 (by rw [← hh.out.1]; exact hlt) hz)
        have HK := Lib.hid hh.out.1
        clear hcc hz hh h0
        gi_wp2
        go_ret2
        refine ⟨u4, L, ?_, ho, hb, HL.out, by omega⟩
        rw [HV.out, ← HK.out, show decide (k + 1 = n.length) = ((k : Int) == (n.length : Int) - 1) from by rw [Bool.eq_iff_iff, decide_eq_true_eq, beq_iff_eq]; omega]
        rfl
      · have t1 : ((c.toNat : Int) == 0) = false := nbeqI (b := 0) h0
        have h0' : n[Nm.encL L]'(by rw [← hh.out.1]; exact hlt) = c := by rw [hcc]; congr 1; exact hh.out.1.symm
        by_cases hbad : 63 < c.toNat ∨ n.length < k + 1 + c.toNat
        · have HV := Lib.hid (hh.out.2.bad h255 (by rw [← hh.out.1]; exact hlt) (by rw [h0']; exact h0) (by rw [h0', ← hh.out.1]; exact hbad))
          clear hcc hh h0 h0'
          have hcase : 63 < c.toNat ∨ (c.toNat ≤ 63 ∧ n.length < k + 1 + c.toNat) := by omega
          clear hbad
          rcases hcase with hb1 | ⟨hb1, hb2⟩
          all_goals
            gi_wp2
            go_ret2
            exact ⟨.slice none 0 0, [], by rw [HV.out]; rfl, ownE_nil _ _ _ _, hb, (fun h => by rw [HV.out] at h; cases h), by simp⟩
        · have hb1 : c.toNat ≤ 63 := by omega
          have hb2 : k + 1 + c.toNat ≤ n.length := by omega
          have hst := hh.out.2.step (by rw [← hh.out.1]; exact hlt) (by rw [h0']; exact h0) (by rw [h0']; exact hb1) (by rw [h0', ← hh.out.1]; exact hb2)
          rw [h0', ← hh.out.1] at hst
          obtain ⟨l, hl⟩ : ∃ l, l = (n.drop (k + 1)).take c.toNat := ⟨_, rfl⟩
          have hsl := run_cut (P := Tryd.prog) Tryd.underlying9 (l := n) (l' := l) (lo := (k : Int) + 1) (hi := (k : Int) + 1 + (c.toNat : Int)) (by omega) (by omega) (by omega) (by rw [hl]; congr 1; omega) wr
          rw [← hl] at hst
          have HS := Lib.hid hst
          clear hcc hh h0 h0' hbad hst hl
          gi_wp2_with (gi_at_builtin; refine wpListIn_apd _ rfl _ _ 82 rfl encS encS_one w.heap.size 9 _ 16 Tryd.underlying82 infoStr rfl u4 L rfl (ownE_alloc ho _) ⟨_, 0, none⟩ 1 1 [l] rfl rfl (cell_one_new _ _ _) (by omega) (by omega) (by simp; omega) ?_; intro v2 w2 ho2 ha2 hn2; refine Hid.out ?_)
          refine Lib.hid ?_
          gi_wp2
          go_roundw
          case rel => exact ⟨v2, k + 1 + c.toNat, L ++ [l], rfl, by go_num, by omega, by simp; omega, ho2, hb.trans (ha2.of_alloc hwr).below, Lib.hid ⟨HS.out.2.symm, HS.out.1⟩⟩
          case measure => simp [intOf]; omega
    · have HV := Lib.hid (hh.out.2.stop h255 (by rw [← hh.out.1]; exact hlt))
      clear hh
      gi_wp2
      go_ret2
      exact ⟨.slice none 0 0, [], by rw [HV.out]; rfl, ownE_nil _ _ _ _, hb, (fun h => by rw [HV.out] at h; cases h), by simp⟩
end Go.Proofs.YtdbaocphglijbaaDoor

/- The document's own Valid (freshetref1). -/
namespace Go.Proofs.YtdbaocphglijbaaDoor
open Go.RowKit Go.Shelf
attribute [local go_sem] Oper.semAt_some

set_option maxRecDepth 100000 in
theorem rvalid_any (n : List UInt8) (w : World) (hs : n.length ≤ 100000) :
    Calls Tryd.prog 45 #[.string ⟨n.toArray⟩] w fun e w' => e = .returned (.bool (Nm.valid n)) ∧ Below w.heap.size w w' := by
  obtain ⟨x, hx⟩ : ∃ x, Nm.valid n = x := ⟨_, rfl⟩
  have HX := Lib.hid hx
  rw [hx]
  clear hx
  go_enter Tryd.func45, Tryd.ntmps45
  go_wp2_with (go_at_call 81; refine (rlabels_any n _ hs).mono ?_; rintro e w1 ⟨v, L, rfl, ho, b1, hL, hl⟩; rw [HX.out])
  go_ret
  exact ⟨rfl, b1⟩
end Go.Proofs.YtdbaocphglijbaaDoor

/- Plain mathematics of folding. -/
namespace Go.Proofs.YtdbaocphglijbaaDoor
namespace Nm
def foldTo (n : List UInt8) (k : Nat) : List UInt8 := (folded n).take k ++ n.drop k
theorem foldTo_length (n : List UInt8) (k : Nat) : (foldTo n k).length = n.length := by
  simp [foldTo, folded_length]; omega
theorem foldTo_zero (n : List UInt8) : foldTo n 0 = n := by simp [foldTo]
theorem foldTo_end (n : List UInt8) : foldTo n n.length = folded n := by simp [foldTo, ← folded_length n]
theorem foldTo_get {n : List UInt8} {k : Nat} (h : k < n.length) : (foldTo n k)[k]'(by rw [foldTo_length]; exact h) = n[k] := by
  unfold foldTo
  rw [List.getElem_append_right (by rw [List.length_take, folded_length]; omega)]
  simp [folded_length, Nat.min_eq_left (Nat.le_of_lt h)]
theorem foldTo_set {n : List UInt8} {k : Nat} (h : k < n.length) : (foldTo n k).set k (small n[k]) = foldTo n (k + 1) := by
  have hl : ((folded n).take k).length = k := by rw [List.length_take, folded_length]; omega
  have hF : k < (folded n).length := by rw [folded_length]; exact h
  have hg : (folded n)[k] = small n[k] := by simp [folded]
  unfold foldTo
  rw [List.set_append_right k (small n[k]) (by omega), hl, Nat.sub_self, drop_cons h, List.set_cons_zero, List.take_succ_eq_append_getElem hF, hg, List.append_assoc]
  rfl
def fold (n : List UInt8) : List UInt8 := if valid n then folded n else n
end Nm
end Go.Proofs.YtdbaocphglijbaaDoor

/- Fold. -/
namespace Go.Proofs.YtdbaocphglijbaaDoor
open Go.RowKit Go.Shelf
attribute [local go_sem] Oper.semAt_some

/-- A row of bytes that may be written. -/
def Row8 (g : Nat) (L : List UInt8) (W : World) : Prop := ∀ (j : Nat) (h : j < L.length), W.cell? ⟨g, j, none⟩ = some (.int .u8 (L[j].toNat : Int)) ∧ W.frozen? ⟨g, j, none⟩ = false
theorem Row8.set {g k : Nat} {L : List UInt8} {W : World} (h : Row8 g L W) (hk : k < L.length) (c : UInt8) : Row8 g (L.set k c) (W.setCell ⟨g, k, none⟩ (.int .u8 (c.toNat : Int))) := by
  intro j hj
  rw [List.length_set] at hj
  obtain ⟨h1, h2⟩ := h j hj
  refine ⟨?_, by rw [World.frozen?_setCell]; exact h2⟩
  by_cases e : j = k
  · subst e
    rw [World.cell?_setCell_same' _ _ _ (by rw [h1]; rfl)]
    simp
  · rw [World.cell?_setCell_other _ _ _ _ (by intro e'; cases e'; exact e rfl), h1, List.getElem_set_ne (Ne.symm e)]
theorem row8_conv (w : World) (e : TypeId) (l : List UInt8) : Row8 w.heap.size l (Lib.bytesWorld w e ⟨l.toArray⟩) := by
  intro j hj
  have hs : j < (⟨l.toArray⟩ : ByteArray).size := by show j < l.toArray.size; simpa using hj
  refine ⟨?_, ?_⟩
  · rw [Lib.bytesWorld_cell w e ⟨l.toArray⟩ j hs]
    simp [List.getD, hj]
  · simp [World.frozen?, Lib.bytesWorld_at_new]
    have : l.length ≤ (Lib.bytesCells w e ⟨l.toArray⟩).size := by simp [Lib.bytesCells]
    omega
theorem Row8.str {g cap : Nat} {L : List UInt8} {W : World} (h : Row8 g L W) {src dst e : TypeId} {P : Program} (hs : P.underlying src = some (.slice e)) (he : P.underlying e = some (.int .u8)) (hd : P.underlying dst = some .string) :
    (convert src dst (.slice (some ⟨g, 0, none⟩) L.length cap)).run P W = .ok (.string ⟨L.toArray⟩) W :=
  run_convert_bytes_back W src dst e ⟨g, 0, none⟩ cap L hs he hd (fun j hj => by
    have e : (⟨g, 0, none⟩ : Addr).add j = ⟨g, j, none⟩ := by unfold Addr.add; split <;> simp_all
    rw [e]; exact (h j hj).1)


set_option maxHeartbeats 400000 in
theorem small_any (c : UInt8) (w : World) :
    Calls Tryd.prog 98 #[.int .u8 (c.toNat : Int)] w fun e w' => e = .returned (.int .u8 ((Nm.small c).toNat : Int)) ∧ w = w' := by
  by_cases h1 : 65 ≤ c.toNat
  · by_cases h2 : c.toNat ≤ 90
    · have H := Lib.hid (Nm.small_yes h1 h2)
      go_enter Tryd.func98, Tryd.ntmps98
      go_wp2
      go_ret
      exact ⟨ret_int H.out.symm, rfl⟩
    · have H := Lib.hid (Nm.small_no (c := c) (by omega))
      go_enter Tryd.func98, Tryd.ntmps98
      go_wp2
      go_ret
      exact ⟨ret_int (by rw [H.out]), rfl⟩
  · have H := Lib.hid (Nm.small_no (c := c) (by omega))
    go_enter Tryd.func98, Tryd.ntmps98
    go_wp2
    go_ret
    exact ⟨ret_int (by rw [H.out]), rfl⟩

set_option maxRecDepth 100000 in
set_option maxHeartbeats 2000000 in
theorem fold_any (n : List UInt8) (w : World) (hs : n.length ≤ 100000) :
    Calls Tryd.prog 73 #[.string ⟨n.toArray⟩] w fun e w' => e = .returned (.string ⟨(Nm.fold n).toArray⟩) ∧ Below w.heap.size w w' := by
  cases hv : Nm.valid n
  · have H := Lib.hid (show Nm.fold n = n by unfold Nm.fold; rw [hv]; rfl)
    have HV := Lib.hid hv
    clear hv
    go_enter Tryd.func73, Tryd.ntmps73
    go_wp2_with (first | (go_at_call 72; refine (valid_any n _ hs).mono ?_; rw [HV.out]; rintro e w' ⟨rfl, rfl⟩) | (go_at_call 97; refine (clone_any n _ (by omega)).mono ?_; rintro e w2 ⟨rfl, hb⟩))
    go_ret
    exact ⟨ret_str H.out.symm, hb⟩
  · have H := Lib.hid (show Nm.fold n = Nm.folded n by unfold Nm.fold; rw [hv]; rfl)
    have HV := Lib.hid hv
    clear hv
    have hcv := Lib.run_convert_string_bytes (P := Tryd.prog) w 9 34 5 ⟨n.toArray⟩ Tryd.underlying9 Tryd.underlying34 Tryd.underlying5
    have hr0 := row8_conv w 5 n
    have hb0 := Lib.bytesWorld_below w 5 ⟨n.toArray⟩
    have hsz : (⟨n.toArray⟩ : ByteArray).size = n.length := by show n.toArray.size = _; simp
    generalize grownCap w (⟨n.toArray⟩ : ByteArray).size 0 5 = cap at hcv
    rw [hsz] at hcv
    generalize Lib.bytesWorld w 5 ⟨n.toArray⟩ = W0 at *
    clear hsz
    go_enter Tryd.func73, Tryd.ntmps73
    go_wp2_with (go_at_call 72; refine (valid_any n _ hs).mono ?_; rw [HV.out]; rintro e w' ⟨rfl, rfl⟩)
    go_loopw [15] (fun i wr => ∃ k : Nat, k ≤ n.length ∧ i = .int .i64 k ∧ Hid (Row8 w.heap.size (Nm.foldTo n k) wr) ∧ Below w.heap.size w wr) (fun i _ => n.length + 1 - (intOf i).toNat)
    case atStart => exact ⟨0, by omega, rfl, Lib.hid (by rw [Nm.foldTo_zero]; exact hr0), hb0⟩
    case round =>
      obtain ⟨k, hk, rfl, hr, hb⟩ := hrel
      by_cases hlt : k < n.length
      · obtain ⟨c1, f1⟩ := hr.out k (by rw [Nm.foldTo_length]; exact hlt)
        rw [Nm.foldTo_get hlt] at c1
        go_wp2_with (go_at_call 98; refine (small_any n[k] _).mono ?_; rintro e w' ⟨rfl, rfl⟩)
        go_roundw
        case rel => exact ⟨k + 1, by omega, by go_num, Lib.hid (by rw [← Nm.foldTo_set hlt]; exact hr.out.set (by rw [Nm.foldTo_length]; exact hlt) _), hb.setCell (p := ⟨w.heap.size, k, none⟩) (Nat.le_refl _) _⟩
        case measure => simp [intOf]; omega
      · obtain rfl : k = n.length := by omega
        have hst := (hr.out).str (cap := cap) (src := 34) (dst := 9) (P := Tryd.prog) Tryd.underlying34 Tryd.underlying5 Tryd.underlying9
        rw [Nm.foldTo_length, Nm.foldTo_end] at hst
        go_wp2
        go_ret
        exact ⟨ret_str H.out.symm, hb⟩
end Go.Proofs.YtdbaocphglijbaaDoor

/- The document's own Fold (freshetref1). -/
namespace Go.Proofs.YtdbaocphglijbaaDoor
open Go.RowKit Go.Shelf
attribute [local go_sem] Oper.semAt_some

set_option maxRecDepth 100000 in
set_option maxHeartbeats 2000000 in
theorem rfold_any (n : List UInt8) (w : World) (hs : n.length ≤ 100000) :
    Calls Tryd.prog 46 #[.string ⟨n.toArray⟩] w fun e w' => e = .returned (.string ⟨(Nm.fold n).toArray⟩) ∧ Below w.heap.size w w' := by
  cases hv : Nm.valid n
  · have H := Lib.hid (show Nm.fold n = n by unfold Nm.fold; rw [hv]; rfl)
    have HV := Lib.hid hv
    clear hv
    go_enter Tryd.func46, Tryd.ntmps46
    go_wp2_with (go_at_call 45; refine (rvalid_any n _ hs).mono ?_; rw [HV.out]; rintro e w' ⟨rfl, hb⟩)
    go_ret
    exact ⟨ret_str H.out.symm, hb⟩
  · have H := Lib.hid (show Nm.fold n = Nm.folded n by unfold Nm.fold; rw [hv]; rfl)
    have HV := Lib.hid hv
    clear hv
    go_enter Tryd.func46, Tryd.ntmps46
    go_wp2_with fail
    refine (rvalid_any n _ hs).mono ?_
    rw [HV.out]
    rintro e w1 ⟨rfl, b1⟩
    have hcv := Lib.run_convert_string_bytes (P := Tryd.prog) w1 9 34 5 ⟨n.toArray⟩ Tryd.underlying9 Tryd.underlying34 Tryd.underlying5
    have hr0 := row8_conv w1 5 n
    have hb0 := below_trans b1 (Lib.bytesWorld_below w1 5 ⟨n.toArray⟩)
    have hsz : (⟨n.toArray⟩ : ByteArray).size = n.length := by show n.toArray.size = _; simp
    generalize grownCap w1 (⟨n.toArray⟩ : ByteArray).size 0 5 = cap at hcv
    rw [hsz] at hcv
    generalize Lib.bytesWorld w1 5 ⟨n.toArray⟩ = W0 at *
    clear hsz
    have hw1 := b1.size
    go_wp2
    go_loopw [4] (fun i wr => ∃ k : Nat, k ≤ n.length ∧ i = .int .i64 k ∧ Hid (Row8 w1.heap.size (Nm.foldTo n k) wr) ∧ Below w.heap.size w wr) (fun i _ => n.length + 1 - (intOf i).toNat)
    case atStart => exact ⟨0, by omega, rfl, Lib.hid (by rw [Nm.foldTo_zero]; exact hr0), hb0⟩
    case round =>
      obtain ⟨k, hk, rfl, hr, hb⟩ := hrel
      by_cases hlt : k < n.length
      · obtain ⟨c1, f1⟩ := hr.out k (by rw [Nm.foldTo_length]; exact hlt)
        rw [Nm.foldTo_get hlt] at c1
        have hst := Lib.hid (Nm.foldTo_set hlt)
        have hset := Lib.hid (fun c => hr.out.set (by rw [Nm.foldTo_length]; exact hlt) (c := c) (k := k))
        have hskip : Hid (Nm.small n[k] = n[k] → Row8 w1.heap.size (Nm.foldTo n (k + 1)) wr) := Lib.hid (fun e => by
          have := hr.out
          rw [← hst.out, e, ← Nm.foldTo_get hlt, List.set_getElem_self]
          exact this)
        obtain ⟨c, hcc⟩ : ∃ c, c = n[k] := ⟨_, rfl⟩
        rw [← hcc] at c1 hst hskip
        have hc255 : c.toNat ≤ 255 := by have := c.toNat_lt; omega
        clear hcc
        by_cases h : 65 ≤ c.toNat ∧ c.toNat ≤ 90
        · have h1 := hset.out (Nm.small c)
          rw [hst.out, Nm.small_yes h.1 h.2] at h1
          have H1 := Lib.hid h1
          obtain ⟨h2, h3⟩ := h
          clear h1
          go_wp2
          go_roundw
          case rel => exact ⟨k + 1, by omega, by go_num, H1, hb.setCell (p := ⟨w1.heap.size, k, none⟩) hw1 _⟩
          case measure => simp [intOf]; omega
        · have H1 := Lib.hid (hskip.out (Nm.small_no h))
          have hcase : c.toNat < 65 ∨ (65 ≤ c.toNat ∧ 90 < c.toNat) := by omega
          clear h
          rcases hcase with h1 | ⟨h1, h2⟩
          all_goals
            go_wp2
            go_roundw
            case rel => exact ⟨k + 1, by omega, by go_num, H1, hb⟩
            case measure => simp [intOf]; omega
      · obtain rfl : k = n.length := by omega
        have hst := (hr.out).str (cap := cap) (src := 34) (dst := 9) (P := Tryd.prog) Tryd.underlying34 Tryd.underlying5 Tryd.underlying9
        rw [Nm.foldTo_length, Nm.foldTo_end] at hst
        go_wp2
        go_ret
        exact ⟨ret_str H.out.symm, hb⟩

end Go.Proofs.YtdbaocphglijbaaDoor

/- Handles: the arena's iterator. -/
set_option maxRecDepth 100000
namespace Go.Proofs.YtdbaocphglijbaaDoor
open Go.RowKit Go.Shelf
attribute [local go_sem] Oper.semAt_some
theorem blk_own {W W' : World} {row : Option Nat} {k : Nat} {l : List Value} {t : TypeId} (h : Blk W k l t) (hg : W.grownBy W' row) (hr : ∀ r, row = some r → ∃ o : Obj, W.heap[r]? = some o ∧ o.isCells = false) : Blk W' k l t :=
  h.kept (hg.block k h.lt (fun e => by
    obtain ⟨o, ho, hc⟩ := hr k e.symm
    rw [show W.heap[k]? = _ from h] at ho
    cases ho
    cases hc))
theorem are_own {A : Nat} {L : Loc} {S : Ar.St} {f : Nat → Prop} {W W' : World} {row : Option Nat} (h : ArE A L S f W) (hg : W.grownBy W' row) (hr : ∀ r, row = some r → ∃ o : Obj, W.heap[r]? = some o ∧ o.isCells = false) : ArE A L S f W' :=
  ⟨blk_own h.box hg hr, blk_own h.mem hg hr, blk_own h.pl hg hr, blk_own h.us hg hr, blk_own h.nd hg hr, h.cap, h.cm, h.fA, h.fM, h.fP, h.fU, h.fN, fun k e => Nat.lt_of_lt_of_le (h.fb k e) hg.size⟩
theorem KH.up {A : Nat} {L : Loc} {S : Ar.St} {B B' : Nat} {W W' : World} (h : KH A L S B W W') (hb : B ≤ B') : KH A L S B' W W' := ⟨fun k l t hk b => h.1 k l t (by omega) b, h.2⟩
def toHN (S : Ar.St) (x : Nat × Nat) : Nat × Nat := (x.1, (Ar.headAt S.mem x.2).size)
namespace Ar
/-- What Handles tells. -/
def told (S : St) : List (Nat × Nat) := (tabl S S.pl.length).map (toHN S)
end Ar
set_option maxHeartbeats 64000000 in
theorem handles1_in (m l Bn A : Nat) (L : Loc) (S : Ar.St) (f : Nat → Prop) (hm : 4 ≤ m) (hs : Ar.Sane S) (hP : ∀ x ∈ Ar.tabl S S.pl.length, x.2 + 8 ≤ S.mem.length) (J Jx : List (Nat × Nat) → World → Prop) (W : World) (hJ : OwnBk W.heap.size J) (hJx : OwnBk W.heap.size Jx)
    (hY : ∀ pre x W1, J pre W1 → pre.length < 1000000 → pre ++ [x] <+: Ar.told S → YieldAt Fence.wide (m - 1) Tryd.prog l (encHP x) W1 fun e W' =>
      (e = .returned (.bool true) ∧ J (pre ++ [x]) W' ∧ KH A L S Bn W1 W' ∧ KeepsBk W.heap.size W1 W') ∨ (e = .returned (.bool false) ∧ Jx (pre ++ [x]) W' ∧ KeepsBk W.heap.size W1 W'))
    (hB : Blk W Bn [.pointer (some ⟨A, 0, none⟩)] 25) (hA : ArE A L S f W) (h0 : J [] W) :
    CallsIn Fence.wide m Tryd.prog 93 #[.func (.yield l) #[] #[], .pointer (some ⟨Bn, 0, none⟩)] W fun e W' => (∃ v, e = .returned v) ∧
      ((∃ ys, ys = Ar.told S ∧ J ys W') ∨ (∃ pre, pre <+: Ar.told S ∧ Jx pre W')) := by
  have hm1 : 1 ≤ m := by omega
  have hm2 : 1 ≤ m - 1 := by omega
  have hm3 : 1 ≤ m - 1 - 1 := by omega
  have hBl := hB.lt
  refine callsIn_of_wp_marks Tryd.func93 rfl trivial ?_ rfl
  simp only [Tryd.ntmps93, List.size_toArray, List.length_cons, List.length_nil, Nat.reduceAdd, Nat.reduceSub, Array.replicate_succ, Array.replicate_zero, List.push_toArray, List.append_toArray, List.nil_append, List.cons_append]
  have b1 := hB.alloc (.cells #[.func (.yield l) #[] #[]] 133)
  have c1 := b1.cell (i := 0) rfl
  have y1 := Blk.new W [.func (.yield l) #[] #[]] 133
  have a1 := hA.below ((Below.refl _ W).alloc (Nat.le_refl _) (.cells #[.func (.yield l) #[] #[]] 133))
  have j1 := hJ.alloc (.cells #[.func (.yield l) #[] #[]] 133) h0
  have s1 : (W.alloc (.cells #[.func (.yield l) #[] #[]] 133)).heap.size = W.heap.size + 1 := World.size_alloc _ _
  gi_wp2_with (refine ⟨trivial, ?_⟩; gi_at_call 94; refine (callsIn_wide.2 (all_any A _)).mono ?_; rintro e w' ⟨rfl, rfl⟩)
  have b2 := b1.alloc (.cells #[.pointer (some ⟨A, 2, none⟩)] 125)
  have y2 := y1.alloc (.cells #[.pointer (some ⟨A, 2, none⟩)] 125)
  have t2 := Blk.new (W.alloc (.cells #[.func (.yield l) #[] #[]] 133)) [.pointer (some ⟨A, 2, none⟩)] 125
  have a2 := a1.below ((Below.refl _ _).alloc (Nat.le_refl _) (.cells #[.pointer (some ⟨A, 2, none⟩)] 125))
  have j2 := hJ.alloc (.cells #[.pointer (some ⟨A, 2, none⟩)] 125) j1
  have s2 : ((W.alloc (.cells #[.func (.yield l) #[] #[]] 133)).alloc (.cells #[.pointer (some ⟨A, 2, none⟩)] 125)).heap.size = W.heap.size + 2 := by rw [World.size_alloc, s1]
  rw [s1] at t2
  clear b1 c1 y1 a1 j1 s1
  generalize ((W.alloc (.cells #[.func (.yield l) #[] #[]] 133)).alloc (.cells #[.pointer (some ⟨A, 2, none⟩)] 125)) = W0 at *
  refine wpIn_rangeFunc_ownB rfl (by omega) (gf := 104) (lb := #[.pointer (some ⟨W.heap.size + 1, 0, none⟩)]) (by rfl) trivial (enters_of Tryd.func104 (by kernel_rfl) rfl)
    (all_stops _ (by omega) (W.heap.size + 1) A L S f hs _ t2 a2) kh_t kh_b (Below.refl _ _) (fun _ => rfl)
    (fun pre W' => J (pre.map (toHN S)) W' ∧ ArE A L S f W' ∧ Blk W' Bn [.pointer (some ⟨A, 0, none⟩)] 25 ∧ Blk W' W.heap.size [.func (.yield l) #[] #[]] 133)
    (fun c pre W' => Jx (pre.map (toHN S)) W' ∧ c = .ret)
    (fun s X Y row hs hg hr => ⟨hJ _ X Y row hs.1 hg (fun r e => ⟨by have := (hr r e).1; omega, (hr r e).2⟩), are_own hs.2.1 hg (fun r e => bookC (hr r e).2), blk_own hs.2.2.1 hg (fun r e => bookC (hr r e).2), blk_own hs.2.2.2 hg (fun r e => bookC (hr r e).2)⟩)
    (fun c s X Y row hs hg hr => ⟨hJx _ X Y row hs.1 hg (fun r e => ⟨by have := (hr r e).1; omega, (hr r e).2⟩), hs.2⟩)
    ⟨j2, a2, b2, y2⟩
    (fun x => { tmps := #[.func (.yield l) #[] #[], .pointer (some ⟨Bn, 0, none⟩), .pointer (some ⟨W.heap.size, 0, none⟩), .int .i64 (x.1 : Int), .int .i64 (x.2 : Int), .pointer (some ⟨A, 0, none⟩), .bool false, .pointer (some ⟨A, 0, none⟩), .pointer (some ⟨A, 0, none⟩), .pointer (some ⟨A, 2, none⟩), .func (.func 104) #[] #[.pointer (some ⟨W.heap.size + 1, 0, none⟩)], .int .i64 (x.1 : Int), .int .i64 (x.2 : Int), undef, undef, undef, undef, undef, undef, undef, undef], defers := [] }) ?assign ?body ?done ?stop
  case assign =>
    intro l x W K hK
    unfold encHP
    gi_wp2
    exact hK
  case body =>
    have hF1 : Fence.wide.fn 59 := trivial
    have hmx : Tryd.prog.follows .mixedOrders = true := by kernel_rfl
    rintro l1 pre x W1 ⟨hJ1, hA1, hx1, hx2⟩ hlen hsp
    have d1 := hx1.cell (i := 0) rfl
    have d2 := hx2.cell (i := 0) rfl
    have hmem := hP x (hsp.subset (by simp))
    have hhd : ∀ W', ArE A L S f W' → Calls Tryd.prog 59 #[.pointer (some ⟨A, 0, none⟩), .int .i64 (x.2 : Int)] W' _ := fun W' h => head_agg A L S f _ x.2 (Ar.headAt S.mem x.2) W' rfl h hs.mem hmem rfl
    have hfd := field_head (Ar.headAt S.mem x.2)
    have hpl : (pre.map (toHN S)).length < 1000000 := by rw [List.length_map]; exact hlen
    have hyr : ∀ W2, Below W1.heap.size W1 W2 → J (pre.map (toHN S)) W2 := fun W2 hb => hJ _ W1 W2 none hJ1 ⟨hb.os, hb.tape, hb.output, hb.size, fun k hk _ => hb.block k hk⟩ (fun r e => by cases e)
    have hspl : pre.map (toHN S) ++ [toHN S x] <+: Ar.told S := by
      have h := List.IsPrefix.map (toHN S) hsp
      rw [List.map_append] at h
      exact h
    have HSpl := Lib.hid hspl
    have HHD := Lib.hid hhd
    have HYr := Lib.hid hyr
    have HPl := Lib.hid hpl
    have HA1 := Lib.hid hA1
    have hxs : (toHN S x).1 = x.1 ∧ (toHN S x).2 = (Ar.headAt S.mem x.2).size := ⟨rfl, rfl⟩
    have HXS := Lib.hid hxs
    have HYY := Lib.hid hY
    clear hspl hsp hhd hyr hpl hA1 hxs hY hmem
    generalize Ar.headAt S.mem x.2 = p at *
    gi_wp2
    gi_region_with_o (first
      | (gi_at_call 59; refine (CallsIn.inRound l1 (callsIn_wide.2 (HHD.out _ (HA1.out.below ((Below.refl W1.heap.size W1).drew))))).mono ?_; rintro e W2 ⟨rfl, hb2⟩; have hbb := ((Below.refl W1.heap.size W1).drew).trans hb2; have e2 := (hx2.kept (hbb.block _ hx2.lt)).cell (i := 0) rfl; have e1 := (hx1.kept (hbb.block _ hx1.lt)).cell (i := 0) rfl; obtain ⟨fn, tmps, assign, body, hy, hR⟩ := HYY.out _ (toHN S x) W2 (HYr.out W2 hbb) HPl.out HSpl.out; unfold encHP at hy; rw [HXS.out.1, HXS.out.2] at hy)
      | (refine (roundIn_any hR).mono ?_; intro e W3 hor; obtain ⟨bb, rfl, hbb3⟩ := one_of hor))
    all_goals
      have hfin := hbb3.out
      clear hbb3
      have hkb : KeepsBk W0.heap.size W1 W3 := by
        have hkf : KeepsBk W.heap.size W2 W3 := hfin.elim (fun h => h.2.2.2) (fun h => h.2.2)
        have hkg : KeepsBk W0.heap.size W1 W2 := ⟨hbb.size, fun k o _ hk _ => (hbb.block k (Array.getElem?_eq_some_iff.1 hk).1).trans hk⟩
        exact hkg.trans ⟨hkf.size, fun k o hk => hkf.same k o (by omega)⟩
      cases bb
      · obtain ⟨hJ3, _⟩ := (hfin.resolve_left (fun h => by cases h.1)).2
        gi_wp2
        exact ⟨by first | exact hkb | (rw [← s2]; exact hkb), by simpa using hJ3, rfl⟩
      · obtain ⟨hJ3, hk3, _⟩ := (hfin.resolve_right (fun h => by cases h.1)).2
        have hkh : KH A L S Bn W1 W3 := kh_t (KH.below hbb) hk3
        have hA3 := hkh.2 _ HA1.out
        have hx13 := hkh.1 _ _ _ (Nat.le_refl _) hx1
        have hx23 := hkh.1 _ _ _ (by omega) hx2
        gi_wp2
        exact ⟨by first | exact hkb | (rw [← s2]; exact hkb), hkh.up (by omega), by simpa using hJ3, hA3, hx13, hx23⟩
  case done =>
    rintro D ys W2 hD hS ⟨hJ1, hA1, hx1, hx2⟩ hK
    gi_wp2
    refine ⟨by simp, .inl ⟨_, _, rfl, run_takeDeferred hK, ?_⟩⟩
    exact ⟨_, results_none rfl _ _ _, ⟨_, rfl⟩, .inl ⟨ys.map (toHN S), by rw [hS]; rfl, hJ.putObj _ hJ1 (by omega) hK rfl⟩⟩
  case stop =>
    rintro D c pre W2 hD hSp ⟨hJ1, rfl⟩ hK
    gi_wp2
    refine ⟨by simp, .inl ⟨_, _, rfl, run_takeDeferred hK, ?_⟩⟩
    exact ⟨_, results_none rfl _ _ _, ⟨_, rfl⟩, .inr ⟨pre.map (toHN S), List.IsPrefix.map (toHN S) hSp, hJx.putObj _ hJ1 (by omega) hK rfl⟩⟩
theorem handles_stops (m : Nat) (hm : 4 ≤ m) (Bn A : Nat) (L : Loc) (S : Ar.St) (f : Nat → Prop) (hs : Ar.Sane S) (hP : ∀ x ∈ Ar.tabl S S.pl.length, x.2 + 8 ≤ S.mem.length) (w : World) (hB : Blk w Bn [.pointer (some ⟨A, 0, none⟩)] 25) (hA : ArE A L S f w) :
    SeqStopsB Fence.wide m Tryd.prog 93 #[.pointer (some ⟨Bn, 0, none⟩)] encHP (KH A L S Bn) (fun ys => ys = Ar.told S) (fun pre => pre <+: Ar.told S) 1000000 w :=
  fun l J Jx W hW hJ hJx hY h0 => handles1_in m l Bn A L S f hm hs hP J Jx W hJ hJx hY (hB.kept (hW.block _ hB.lt)) (hA.below hW) h0
set_option maxHeartbeats 1000000 in
theorem handles_any (a : Option Addr) (w : World) :
    Calls Tryd.prog 69 #[.pointer a] w fun e w' => e = .returned (.func (.func 93) #[] #[.pointer (some ⟨w.heap.size, 0, none⟩)]) ∧ w' = w.alloc (.cells #[.pointer a] 25) := by
  go_enter Tryd.func69, Tryd.ntmps69
  go_wp2
  go_ret
  exact ⟨rfl, rfl⟩
end Go.Proofs.YtdbaocphglijbaaDoor
