/- 5 texts put together: Data, RLabels, RValid, Fold, RFold. -/
import Derived.OwnWalkIn
import Derived.TacticsInMore
import Derived.LoopNIn
import Derived.LoopIn
import Derived.Lib.ConvBytes
import Derived.Lib.AtoiErrMem
import Derived.Test.YtdodamkndigjkaaJB2
import Derived.Test.YtdodamkndigjkaaJB4
/- Whether data may be: nameSize, areTexts, fits, Data. -/
namespace Go.Proofs.Ytdodamkndigjkaa
open Go.RowKit Go.Shelf
attribute [local go_sem] Oper.semAt_some

theorem drop_get {d : List UInt8} {a k : Nat} (h : k < (d.drop a).length) : (d.drop a)[k] = d[a + k]'(by rw [List.length_drop] at h; omega) := List.getElem_drop

set_option maxRecDepth 100000 in
set_option maxHeartbeats 1000000 in
/-- nameSize, at a place within bounds, or beyond them. -/
theorem nameSize_any (d : List UInt8) (at' : Nat) (w : World) (hs : d.length ≤ 100000) (ha : at' ≤ 100000) :
    Calls Try.prog 114 #[.string ⟨d.toArray⟩, .int .i64 (at' : Int)] w fun e w' => e = .returned (.int .i64 (Rd.nsz (d.drop at') : Int)) ∧ w = w' := by
  go_enter Try.func114, Try.ntmps114
  go_wp2
  go_loop [5] (fun i => ∃ e : Nat, e ≤ 200400 ∧ at' ≤ e ∧ i = .int .i64 (e : Int) ∧ Hid (Rd.At (d.drop at') (e - at'))) (fun i => d.length + 1 - (intOf i).toNat)
  case atStart => exact ⟨at', by omega, by omega, rfl, Lib.hid (by rw [Nat.sub_self]; exact Rd.At.zero _)⟩
  case round =>
    obtain ⟨e, he, hae, rfl, hv⟩ := hrel
    by_cases hlt : e < d.length
    · have hlt' : e - at' < (d.drop at').length := by rw [List.length_drop]; omega
      have hc : ((⟨d.toArray⟩ : ByteArray)[e]'hlt) = d[e] := rfl
      have hg : (d.drop at')[e - at'] = d[e] := by rw [drop_get hlt']; congr 1; omega
      obtain ⟨c, hcc⟩ : ∃ c, c = d[e] := ⟨_, rfl⟩
      rw [← hcc] at hc hg
      have hc255 : c.toNat ≤ 255 := by have := c.toNat_lt; omega
      by_cases h0 : c = 0
      · subst h0
        have hsl := run_cut (P := Try.prog) Try.underlying9 (l := d) (l' := (d.drop at').take (e - at' + 1)) (lo := (at' : Int)) (hi := (e : Int) + 1) (by omega) (by omega) (by omega) (by congr 1; omega) w
        have hl1 : ((d.drop at').take (e - at' + 1)).length ≤ 100000 := by rw [List.length_take, List.length_drop]; omega
        obtain ⟨x, hx⟩ : ∃ x, Nm.valid ((d.drop at').take (e - at' + 1)) = x := ⟨_, rfl⟩
        have HX := Lib.hid hx
        have hn : x = false ∧ Hid (Rd.nsz (d.drop at') = 0) ∨ x = true ∧ Hid (Rd.nsz (d.drop at') = e - at' + 1) := by
          cases x
          · exact .inl ⟨rfl, Lib.hid (hv.out.no hlt' hg hx)⟩
          · exact .inr ⟨rfl, Lib.hid (hv.out.yes hlt' hg hx)⟩
        have HC := Lib.hid hcc
        clear hx hg hcc
        rcases hn with ⟨rfl, HN⟩ | ⟨rfl, HN⟩
        all_goals
          go_wp2_with (go_at_call 74; refine (valid_any _ _ hl1).mono ?_; rw [HX.out]; rintro e w' ⟨rfl, rfl⟩)
          go_ret
          exact ⟨ret_int (by rw [HN.out]; omega), rfl⟩
      · have t1 : ((c.toNat : Int) != 0) = true := by rw [bne_iff_ne]; intro e; exact h0 (by rw [← UInt8.toNat_inj]; simpa using e)
        have hst := Lib.hid (hv.out.step hlt' (by rw [hg]; exact h0))
        have HG := Lib.hid hg
        clear hg hcc
        go_wp2
        go_round
        case rel => exact ⟨e + (1 + c.toNat), by omega, by omega, by go_num, Lib.hid (by
          have h := hst.out
          rw [HG.out, show e - at' + (1 + c.toNat) = e + (1 + c.toNat) - at' from by omega] at h
          exact h)⟩
        case measure => simp [intOf]; omega
    · have HN := Lib.hid (hv.out.stop (by rw [List.length_drop]; omega))
      go_wp2
      go_ret
      exact ⟨ret_int (by rw [HN.out]; rfl), rfl⟩

set_option maxRecDepth 100000 in
set_option maxHeartbeats 1000000 in
theorem areTexts_any (d : List UInt8) (w : World) (hs : d.length ≤ 100000) :
    Calls Try.prog 99 #[.string ⟨d.toArray⟩] w fun e w' => e = .returned (.bool (Rd.texts d)) ∧ w = w' := by
  go_enter Try.func99, Try.ntmps99
  go_wp2
  go_loop [3] (fun i => ∃ k : Nat, k ≤ 100400 ∧ i = .int .i64 (k : Int) ∧ Hid (Rd.TextAt d k)) (fun i => d.length + 1 - (intOf i).toNat)
  case atStart => exact ⟨0, by omega, rfl, Lib.hid (Rd.TextAt.zero _)⟩
  case round =>
    obtain ⟨k, hk, rfl, hv⟩ := hrel
    by_cases hlt : k < d.length
    · have hc : ((⟨d.toArray⟩ : ByteArray)[k]'hlt) = d[k] := rfl
      have hst := Lib.hid (hv.out.step hlt)
      have hc255 : d[k].toNat ≤ 255 := by have := d[k].toNat_lt; omega
      go_wp2
      go_round
      case rel => exact ⟨k + (1 + d[k].toNat), by omega, by go_num, hst⟩
      case measure => simp [intOf]; omega
    · have HN := Lib.hid (hv.out.done (by omega))
      have HT : Hid (Rd.texts d = (!d.isEmpty && (k : Int) == (d.length : Int))) := Lib.hid (by
        unfold Rd.texts; rw [HN.out, Bool.eq_iff_iff]
        simp
        omega)
      go_wp2
      all_goals
        go_ret
        first | exact ⟨ret_bool HT.out.symm, rfl⟩ | exact ⟨rfl, rfl⟩

namespace Rd
theorem fitsL_zero (d : List UInt8) (e b : Nat) : fitsL d e 0 b = (e + b == d.length) := rfl
theorem fitsL_none {d : List UInt8} {e n b : Nat} (h : nsz (d.drop e) = 0) : fitsL d e (n + 1) b = false := by
  unfold fitsL; simp [run, h]
theorem fitsL_some {d : List UInt8} {e n b : Nat} (h : nsz (d.drop e) ≠ 0) : fitsL d e (n + 1) b = fitsL d (e + nsz (d.drop e)) n b := by
  unfold fitsL; simp only [run]; rw [if_neg h]
  cases run d n (e + nsz (d.drop e)) with
  | none => rfl
  | some x => rfl
theorem dataOk_lay {t : Int} {d : List UInt8} {a n b : Nat} (h : lay t = some (a, n, b)) (h16 : t ≠ 16) (hl : ¬ 1000 < d.length) : dataOk t d = fitsL d a n b := by
  unfold dataOk parts fitsL
  rw [if_neg hl, if_neg h16, h]
  show (match run d n a with | none => none | some (ps, e) => if e + b = d.length then some ps else none).isSome = _
  cases run d n a with
  | none => rfl
  | some x =>
    obtain ⟨ps, e⟩ := x
    show (if e + b = d.length then some ps else none).isSome = (e + b == d.length)
    by_cases h : e + b = d.length <;> simp [h]
theorem dataOk_none {t : Int} {d : List UInt8} (h : lay t = none) (h16 : t ≠ 16) (hl : ¬ 1000 < d.length) : dataOk t d = true := by
  unfold dataOk parts
  rw [if_neg hl, if_neg h16, h]; rfl
theorem dataOk_txt {d : List UInt8} (hl : ¬ 1000 < d.length) : dataOk 16 d = texts d := by
  unfold dataOk parts
  rw [if_neg hl, if_pos rfl]
  cases texts d <;> rfl
theorem dataOk_long {t : Int} {d : List UInt8} (hl : 1000 < d.length) : dataOk t d = false := by
  unfold dataOk parts
  rw [if_pos hl]; rfl
theorem lay_bounds {t : Int} {a n b : Nat} (h : lay t = some (a, n, b)) : a ≤ 16 ∧ n ≤ 2 ∧ b ≤ 20 := by
  unfold lay at h
  repeat (split at h; · simp at h; omega)
  cases h
end Rd

set_option maxRecDepth 100000 in
set_option maxHeartbeats 1000000 in
theorem fits_any (a n b : Nat) (d : List UInt8) (w : World) (ha : a ≤ 16) (hn : n ≤ 2) (hb' : b ≤ 20) (hs : d.length ≤ 100000) :
    Calls Try.prog 101 #[layL a n b, .string ⟨d.toArray⟩] w fun e w' => e = .returned (.bool (Rd.fitsL d a n b)) ∧ Below w.heap.size w w' := by
  obtain ⟨R, hR⟩ : ∃ R, Rd.fitsL d a n b = R := ⟨_, rfl⟩
  have HR := Lib.hid hR
  rw [hR]
  clear hR
  unfold layL
  go_enter Try.func101, Try.ntmps101
  go_wp2
  go_loop [5, 11] (fun e k => ∃ (x y : Nat), x ≤ 100000 ∧ y ≤ n ∧ e = .int .i64 (x : Int) ∧ k = .int .i64 (y : Int) ∧ Hid (Rd.fitsL d x (n - y) b = R)) (fun _ k => n + 1 - (intOf k).toNat)
  case atStart => exact ⟨a, 0, by omega, by omega, rfl, rfl, Lib.hid (by rw [Nat.sub_zero]; exact HR.out)⟩
  case round =>
    obtain ⟨x, y, hx, hy, rfl, rfl, hv⟩ := hrel
    by_cases hlt : y < n
    · obtain ⟨m, hm⟩ : ∃ m, n - y = m + 1 := ⟨n - y - 1, by omega⟩
      obtain ⟨z, hz⟩ : ∃ z, Rd.nsz (d.drop x) = z := ⟨_, rfl⟩
      have hzl := Rd.nsz_le (d.drop x)
      rw [List.length_drop, hz] at hzl
      have HZ := Lib.hid hz
      have hm' : n - (y + 1) = m := by omega
      by_cases h0 : z = 0
      · subst h0
        have HF : Hid (R = false) := Lib.hid (by rw [← hv.out, hm, Rd.fitsL_none hz])
        clear hz hm hm'
        go_wp2_with (go_at_call 114; refine (nameSize_any d x _ hs (by omega)).mono ?_; rw [HZ.out]; rintro e w' ⟨rfl, rfl⟩)
        go_ret
        exact ⟨ret_bool HF.out.symm, (Below.refl _ w).alloc (Nat.le_refl _) _⟩
      · have HF : Hid (Rd.fitsL d (x + z) (n - (y + 1)) b = R) := Lib.hid (by rw [hm', ← hv.out, hm, Rd.fitsL_some (by rw [hz]; exact h0), hz])
        have t1 : ((z : Int) == 0) = false := by rw [beq_eq_false_iff_ne]; omega
        clear hz hm hm'
        go_wp2_with (go_at_call 114; refine (nameSize_any d x _ hs (by omega)).mono ?_; rw [HZ.out]; rintro e w' ⟨rfl, rfl⟩)
        go_round
        case rel => exact ⟨x + z, y + 1, by omega, by omega, by go_num, by go_num, HF⟩
        case measure => simp [intOf]; omega
    · have HF : Hid (R = ((x : Int) + (b : Int) == (d.length : Int))) := Lib.hid (by
        rw [← hv.out, show n - y = 0 from by omega, Rd.fitsL_zero, Bool.eq_iff_iff]
        simp
        omega)
      go_wp2
      go_ret
      exact ⟨ret_bool HF.out.symm, (Below.refl _ w).alloc (Nat.le_refl _) _⟩

set_option maxRecDepth 100000 in
set_option maxHeartbeats 1000000 in
theorem data_any (t : Int) (d : List UInt8) (w : World) (hs : d.length ≤ 100000) :
    Calls Try.prog 83 #[.int .i64 t, .string ⟨d.toArray⟩] w fun e w' => e = .returned (.bool (Rd.dataOk t d)) ∧ Below w.heap.size w w' := by
  by_cases hl : 1000 < d.length
  · have H := Lib.hid (Rd.dataOk_long (t := t) hl)
    go_enter Try.func83, Try.ntmps83
    go_wp2
    go_ret
    exact ⟨ret_bool H.out.symm, Below.refl _ _⟩
  · by_cases h16 : t = 16
    · subst h16
      have H := Lib.hid (Rd.dataOk_txt hl)
      go_enter Try.func83, Try.ntmps83
      go_wp2_with (go_at_call 99; refine (areTexts_any d _ hs).mono ?_; rintro e w' ⟨rfl, rfl⟩)
      go_ret
      exact ⟨ret_bool H.out.symm, Below.refl _ _⟩
    · obtain ⟨R, hR⟩ : ∃ R, Rd.dataOk t d = R := ⟨_, rfl⟩
      have t16 := beq_eq_false_iff_ne.2 h16
      rw [hR]
      cases hy : Rd.lay t with
      | none =>
        have H : Hid (R = true) := Lib.hid (by rw [← hR, Rd.dataOk_none hy h16 hl])
        have HY := Lib.hid hy
        clear h16 hR hy
        go_enter Try.func83, Try.ntmps83
        go_wp2_with fail
        refine (layoutOf_any t _).mono ?_
        rintro e w1 ⟨rfl, b1⟩
        rw [HY.out]
        simp only [layV, layL, Option.isSome_none]
        go_wp2
        go_ret
        exact ⟨ret_bool H.out.symm, b1.alloc b1.size _⟩
      | some x =>
        obtain ⟨a, n, b⟩ := x
        have H := Lib.hid (show Rd.fitsL d a n b = R by rw [← hR, Rd.dataOk_lay hy h16 hl])
        obtain ⟨ha, hn, hb'⟩ := Rd.lay_bounds hy
        have HY := Lib.hid hy
        clear h16 hR hy
        go_enter Try.func83, Try.ntmps83
        go_wp2_with fail
        refine (layoutOf_any t _).mono ?_
        rintro e w1 ⟨rfl, b1⟩
        rw [HY.out]
        simp only [layV, layL, Option.isSome_some]
        go_wp2_with (go_at_call 101; refine (fits_any a n b d _ ha hn hb' hs).mono ?_; rw [H.out]; rintro e w' ⟨rfl, b2⟩)
        go_ret
        exact ⟨rfl, (b1.alloc b1.size _).trans (b2.mono (by have := b1.size; simp; omega))⟩
end Go.Proofs.Ytdodamkndigjkaa

/- The document's own Labels (freshetref1). -/
namespace Go.Proofs.Ytdodamkndigjkaa
open Go.RowKit Go.Shelf
attribute [local go_sem] Oper.semAt_some

namespace Nm
theorem validU_encs_app : ∀ {ls : List (List UInt8)} (_ : good ls) (r : List UInt8), validU (encs ls ++ r) = validU r
  | [], _, _ => rfl
  | l :: ls, g, r => by
    obtain ⟨h1, h2⟩ := g l (by simp)
    have hlen : (encs (l :: ls) ++ r) = UInt8.ofNat l.length :: (l ++ (encs ls ++ r)) := by simp [encs]
    rw [hlen, validU_cons, if_neg (ofNat_ne h1 h2), ofNat_toNat h2, if_neg (by simp; omega), List.drop_left' rfl]
    exact validU_encs_app (fun x hx => g x (List.mem_cons_of_mem _ hx)) r
/-- Labels read so far, and what is left. -/
structure ReadTo (n : List UInt8) (ls : List (List UInt8)) : Prop where
  good : good ls
  le : encL ls ≤ n.length
  eq : n = encs ls ++ n.drop (encL ls)
theorem ReadTo.zero (n : List UInt8) : ReadTo n [] := ⟨(fun _ h => by cases h), Nat.zero_le _, rfl⟩
theorem ReadTo.valid {n : List UInt8} {ls : List (List UInt8)} (h : ReadTo n ls) (hn : ¬ 255 < n.length) : Nm.valid n = validU (n.drop (encL ls)) := by
  rw [valid_of_short hn]
  conv => lhs; rw [h.eq]
  exact validU_encs_app h.good _
theorem ReadTo.stop {n : List UInt8} {ls : List (List UInt8)} (h : ReadTo n ls) (hn : ¬ 255 < n.length) (hk : ¬ encL ls < n.length) : Nm.valid n = false := by
  rw [h.valid hn, List.drop_of_length_le (by omega)]; rfl
theorem ReadTo.zero_at {n : List UInt8} {ls : List (List UInt8)} (h : ReadTo n ls) (hn : ¬ 255 < n.length) (hk : encL ls < n.length) (h0 : n[encL ls] = 0) : Nm.valid n = decide (encL ls + 1 = n.length) := by
  rw [h.valid hn, drop_cons hk, h0, validU_cons, if_pos rfl, Bool.eq_iff_iff]
  simp only [List.isEmpty_iff, List.drop_eq_nil_iff, decide_eq_true_eq]
  omega
theorem ReadTo.labsD {n : List UInt8} {ls : List (List UInt8)} (h : ReadTo n ls) (hn : ¬ 255 < n.length) (hk : encL ls < n.length) (h0 : n[encL ls] = 0) (hv : Nm.valid n = true) : ls = labsD n := by
  rw [h.zero_at hn hk h0, decide_eq_true_eq] at hv
  have e : n = made ls := by
    rw [made_encs]
    conv => lhs; rw [h.eq, drop_cons hk, h0, List.drop_of_length_le (by omega)]
  have := labs_iff.2 ⟨e, h.good, by omega⟩
  unfold Nm.labsD
  rw [this]; rfl
theorem ReadTo.bad {n : List UInt8} {ls : List (List UInt8)} (h : ReadTo n ls) (hn : ¬ 255 < n.length) (hk : encL ls < n.length) (h0 : n[encL ls] ≠ 0) (hb : 63 < n[encL ls].toNat ∨ n.length < encL ls + 1 + n[encL ls].toNat) : Nm.valid n = false := by
  rw [h.valid hn, drop_cons hk, validU_cons, if_neg h0, if_pos (by rw [List.length_drop]; omega)]
theorem ReadTo.step {n : List UInt8} {ls : List (List UInt8)} (h : ReadTo n ls) (hk : encL ls < n.length) (h0 : n[encL ls] ≠ 0) (h1 : n[encL ls].toNat ≤ 63) (h2 : encL ls + 1 + n[encL ls].toNat ≤ n.length) :
    ReadTo n (ls ++ [(n.drop (encL ls + 1)).take n[encL ls].toNat]) ∧ encL (ls ++ [(n.drop (encL ls + 1)).take n[encL ls].toNat]) = encL ls + 1 + n[encL ls].toNat := by
  have h3 : 1 ≤ n[encL ls].toNat := by
    rcases Nat.eq_zero_or_pos n[encL ls].toNat with e | e
    · exact absurd (by rw [← UInt8.toNat_inj]; exact e) h0
    · exact e
  have hl : ((n.drop (encL ls + 1)).take n[encL ls].toNat).length = n[encL ls].toNat := by
    rw [List.length_take, List.length_drop]; omega
  have he : encL (ls ++ [(n.drop (encL ls + 1)).take n[encL ls].toNat]) = encL ls + 1 + n[encL ls].toNat := by
    rw [encL_append]; simp only [encL, hl]; omega
  refine ⟨⟨fun x hx => ?_, by omega, ?_⟩, he⟩
  · rcases List.mem_append.1 hx with hx | hx
    · exact h.good x hx
    · rw [List.mem_singleton] at hx
      subst hx
      rw [hl]; exact ⟨h3, h1⟩
  · rw [he]
    conv => lhs; rw [h.eq, drop_cons hk]
    rw [encs_append]
    simp only [encs, hl, List.append_nil, List.append_assoc, List.cons_append]
    congr 1
    rw [show UInt8.ofNat n[encL ls].toNat = n[encL ls] from by simp]
    congr 1
    conv => lhs; rw [← List.take_append_drop n[encL ls].toNat (n.drop (encL ls + 1))]
    rw [List.drop_drop]
end Nm

/-- What Labels of the document's own gives. -/
def LabRet (n : List UInt8) (w : World) (e : Ending) (w' : World) : Prop :=
  ∃ (v : Value) (L : List (List UInt8)), e = .returned (.tuple #[v, .bool (Nm.valid n)]) ∧ OwnE encS 9 w.heap.size v L w' ∧ Below w.heap.size w w' ∧ (Nm.valid n = true → L = Nm.labsD n) ∧ L.length ≤ 255

set_option maxRecDepth 100000 in
set_option maxHeartbeats 4000000 in
theorem rlabels_any (n : List UInt8) (w : World) (hs : n.length ≤ 100000) :
    Calls Try.prog 91 #[.string ⟨n.toArray⟩] w (LabRet n w) := by
  by_cases h255 : 255 < n.length
  · have H : Nm.valid n = false := by simp [Nm.valid, Nm.labs, h255]
    have HH := Lib.hid H
    clear H
    go_enter Try.func91, Try.ntmps91
    go_wp2
    go_ret2
    exact ⟨.slice none 0 0, [], by rw [HH.out]; rfl, ownE_nil _ _ _ _, Below.refl _ _, (fun h => by rw [HH.out] at h; cases h), by simp⟩
  refine (callsIn_wide (n := 8)).1 ?_
  refine callsIn_of_wp Try.func91 rfl trivial ?_ rfl
  simp only [Try.ntmps91, List.size_toArray, List.length_cons, List.length_nil, Nat.reduceAdd, Nat.reduceSub, Array.replicate_succ, Array.replicate_zero, List.push_toArray, List.append_toArray, List.nil_append, List.cons_append]
  gi_wp2
  gi_loopw [4, 5] (fun v i wr => ∃ (v1 : Value) (k : Nat) (L : List (List UInt8)), v = v1 ∧ i = .int .i64 (k : Int) ∧ k ≤ n.length ∧ L.length ≤ k ∧ OwnE encS 9 w.heap.size v1 L wr ∧ Below w.heap.size w wr ∧ Hid (k = Nm.encL L ∧ Nm.ReadTo n L)) (fun _ i _ => n.length + 1 - (intOf i).toNat)
  case atStart => exact ⟨_, 0, [], rfl, rfl, by omega, by simp, ownE_nil _ _ _ _, Below.refl _ _, Lib.hid ⟨rfl, Nm.ReadTo.zero n⟩⟩
  case round =>
    obtain ⟨v1, k, L, rfl, rfl, hk, hLk, ho, hb, hh⟩ := hrel
    have hwr := hb.size
    by_cases hlt : k < n.length
    · have hc : ((⟨n.toArray⟩ : ByteArray)[k]'hlt) = n[k] := rfl
      obtain ⟨c, hcc⟩ : ∃ c, c = n[k] := ⟨_, rfl⟩
      have hc255 : c.toNat ≤ 255 := by have := c.toNat_lt; omega
      have hw : wrap64 (c.toNat : Int) = (c.toNat : Int) := by unfold wrap64; omega
      rw [← hcc] at hc
      by_cases h0 : c = 0
      · have t1 : ((c.toNat : Int) == 0) = true := by rw [h0]; rfl
        have hz : n[Nm.encL L]'(by rw [← hh.out.1]; exact hlt) = 0 := by rw [← h0, hcc]; congr 1; exact hh.out.1.symm
        have HV := Lib.hid (hh.out.2.zero_at h255 (by rw [← hh.out.1]; exact hlt) hz)
        have HL := Lib.hid (hh.out.2.labsD h255 (by rw [← hh.out.1]; exact hlt) hz)
        have HK := Lib.hid hh.out.1
        clear hcc hz hh h0
        gi_wp2
        go_ret2
        refine ⟨u4, L, ?_, ho, hb, HL.out, by omega⟩
        rw [HV.out, ← HK.out, show decide (k + 1 = n.length) = ((k : Int) == (n.length : Int) - 1) from by rw [Bool.eq_iff_iff, decide_eq_true_eq, beq_iff_eq]; omega]
        rfl
      · have t1 : ((c.toNat : Int) == 0) = false := nbeqI (b := 0) h0
        have h0' : n[Nm.encL L]'(by rw [← hh.out.1]; exact hlt) = c := by rw [hcc]; congr 1; exact hh.out.1.symm
        by_cases hbad : 63 < c.toNat ∨ n.length < k + 1 + c.toNat
        · have HV := Lib.hid (hh.out.2.bad h255 (by rw [← hh.out.1]; exact hlt) (by rw [h0']; exact h0) (by rw [h0', ← hh.out.1]; exact hbad))
          clear hcc hh h0 h0'
          have hcase : 63 < c.toNat ∨ (c.toNat ≤ 63 ∧ n.length < k + 1 + c.toNat) := by omega
          clear hbad
          rcases hcase with hb1 | ⟨hb1, hb2⟩
          all_goals
            gi_wp2
            go_ret2
            exact ⟨.slice none 0 0, [], by rw [HV.out]; rfl, ownE_nil _ _ _ _, hb, (fun h => by rw [HV.out] at h; cases h), by simp⟩
        · have hb1 : c.toNat ≤ 63 := by omega
          have hb2 : k + 1 + c.toNat ≤ n.length := by omega
          have hst := hh.out.2.step (by rw [← hh.out.1]; exact hlt) (by rw [h0']; exact h0) (by rw [h0']; exact hb1) (by rw [h0', ← hh.out.1]; exact hb2)
          rw [h0', ← hh.out.1] at hst
          obtain ⟨l, hl⟩ : ∃ l, l = (n.drop (k + 1)).take c.toNat := ⟨_, rfl⟩
          have hsl := run_cut (P := Try.prog) Try.underlying9 (l := n) (l' := l) (lo := (k : Int) + 1) (hi := (k : Int) + 1 + (c.toNat : Int)) (by omega) (by omega) (by omega) (by rw [hl]; congr 1; omega) wr
          rw [← hl] at hst
          have HS := Lib.hid hst
          clear hcc hh h0 h0' hbad hst hl
          gi_wp2_with (gi_at_builtin; refine wpListIn_apd _ rfl _ _ 136 rfl encS encS_one w.heap.size 9 _ 16 Try.underlying136 infoStr rfl u4 L rfl (ownE_alloc ho _) ⟨_, 0, none⟩ 1 1 [l] rfl rfl (cell_one_new _ _ _) (by omega) (by omega) (by simp; omega) ?_; intro v2 w2 ho2 ha2 hn2; refine Hid.out ?_)
          refine Lib.hid ?_
          gi_wp2
          go_roundw
          case rel => exact ⟨v2, k + 1 + c.toNat, L ++ [l], rfl, by go_num, by omega, by simp; omega, ho2, hb.trans (ha2.of_alloc hwr).below, Lib.hid ⟨HS.out.2.symm, HS.out.1⟩⟩
          case measure => simp [intOf]; omega
    · have HV := Lib.hid (hh.out.2.stop h255 (by rw [← hh.out.1]; exact hlt))
      clear hh
      gi_wp2
      go_ret2
      exact ⟨.slice none 0 0, [], by rw [HV.out]; rfl, ownE_nil _ _ _ _, hb, (fun h => by rw [HV.out] at h; cases h), by simp⟩
end Go.Proofs.Ytdodamkndigjkaa

/- The document's own Valid (freshetref1). -/
namespace Go.Proofs.Ytdodamkndigjkaa
open Go.RowKit Go.Shelf
attribute [local go_sem] Oper.semAt_some

set_option maxRecDepth 100000 in
theorem rvalid_any (n : List UInt8) (w : World) (hs : n.length ≤ 100000) :
    Calls Try.prog 65 #[.string ⟨n.toArray⟩] w fun e w' => e = .returned (.bool (Nm.valid n)) ∧ Below w.heap.size w w' := by
  obtain ⟨x, hx⟩ : ∃ x, Nm.valid n = x := ⟨_, rfl⟩
  have HX := Lib.hid hx
  rw [hx]
  clear hx
  go_enter Try.func65, Try.ntmps65
  go_wp2_with (go_at_call 91; refine (rlabels_any n _ hs).mono ?_; rintro e w1 ⟨v, L, rfl, ho, b1, hL, hl⟩; rw [HX.out])
  go_ret
  exact ⟨rfl, b1⟩
end Go.Proofs.Ytdodamkndigjkaa

/- Fold. -/
namespace Go.Proofs.Ytdodamkndigjkaa
open Go.RowKit Go.Shelf
attribute [local go_sem] Oper.semAt_some

/-- A row of bytes that may be written. -/
def Row8 (g : Nat) (L : List UInt8) (W : World) : Prop := ∀ (j : Nat) (h : j < L.length), W.cell? ⟨g, j, none⟩ = some (.int .u8 (L[j].toNat : Int)) ∧ W.frozen? ⟨g, j, none⟩ = false
theorem Row8.set {g k : Nat} {L : List UInt8} {W : World} (h : Row8 g L W) (hk : k < L.length) (c : UInt8) : Row8 g (L.set k c) (W.setCell ⟨g, k, none⟩ (.int .u8 (c.toNat : Int))) := by
  intro j hj
  rw [List.length_set] at hj
  obtain ⟨h1, h2⟩ := h j hj
  refine ⟨?_, by rw [World.frozen?_setCell]; exact h2⟩
  by_cases e : j = k
  · subst e
    rw [World.cell?_setCell_same' _ _ _ (by rw [h1]; rfl)]
    simp
  · rw [World.cell?_setCell_other _ _ _ _ (by intro e'; cases e'; exact e rfl), h1, List.getElem_set_ne (Ne.symm e)]
theorem row8_conv (w : World) (e : TypeId) (l : List UInt8) : Row8 w.heap.size l (Lib.bytesWorld w e ⟨l.toArray⟩) := by
  intro j hj
  have hs : j < (⟨l.toArray⟩ : ByteArray).size := by show j < l.toArray.size; simpa using hj
  refine ⟨?_, ?_⟩
  · rw [Lib.bytesWorld_cell w e ⟨l.toArray⟩ j hs]
    simp [List.getD, hj]
  · simp [World.frozen?, Lib.bytesWorld_at_new]
    have : l.length ≤ (Lib.bytesCells w e ⟨l.toArray⟩).size := by simp [Lib.bytesCells]
    omega
theorem Row8.str {g cap : Nat} {L : List UInt8} {W : World} (h : Row8 g L W) {src dst e : TypeId} {P : Program} (hs : P.underlying src = some (.slice e)) (he : P.underlying e = some (.int .u8)) (hd : P.underlying dst = some .string) :
    (convert src dst (.slice (some ⟨g, 0, none⟩) L.length cap)).run P W = .ok (.string ⟨L.toArray⟩) W :=
  run_convert_bytes_back W src dst e ⟨g, 0, none⟩ cap L hs he hd (fun j hj => by
    have e : (⟨g, 0, none⟩ : Addr).add j = ⟨g, j, none⟩ := by unfold Addr.add; split <;> simp_all
    rw [e]; exact (h j hj).1)


set_option maxHeartbeats 400000 in
theorem small_any (c : UInt8) (w : World) :
    Calls Try.prog 102 #[.int .u8 (c.toNat : Int)] w fun e w' => e = .returned (.int .u8 ((Nm.small c).toNat : Int)) ∧ w = w' := by
  by_cases h1 : 65 ≤ c.toNat
  · by_cases h2 : c.toNat ≤ 90
    · have H := Lib.hid (Nm.small_yes h1 h2)
      go_enter Try.func102, Try.ntmps102
      go_wp2
      go_ret
      exact ⟨ret_int H.out.symm, rfl⟩
    · have H := Lib.hid (Nm.small_no (c := c) (by omega))
      go_enter Try.func102, Try.ntmps102
      go_wp2
      go_ret
      exact ⟨ret_int (by rw [H.out]), rfl⟩
  · have H := Lib.hid (Nm.small_no (c := c) (by omega))
    go_enter Try.func102, Try.ntmps102
    go_wp2
    go_ret
    exact ⟨ret_int (by rw [H.out]), rfl⟩

set_option maxRecDepth 100000 in
set_option maxHeartbeats 2000000 in
theorem fold_any (n : List UInt8) (w : World) (hs : n.length ≤ 100000) :
    Calls Try.prog 84 #[.string ⟨n.toArray⟩] w fun e w' => e = .returned (.string ⟨(Nm.fold n).toArray⟩) ∧ Below w.heap.size w w' := by
  cases hv : Nm.valid n
  · have H := Lib.hid (show Nm.fold n = n by unfold Nm.fold; rw [hv]; rfl)
    have HV := Lib.hid hv
    clear hv
    go_enter Try.func84, Try.ntmps84
    go_wp2_with (first | (go_at_call 74; refine (valid_any n _ hs).mono ?_; rw [HV.out]; rintro e w' ⟨rfl, rfl⟩) | (go_at_call 67; refine (clone_any n _ (by omega)).mono ?_; rintro e w2 ⟨rfl, hb⟩))
    go_ret
    exact ⟨ret_str H.out.symm, hb⟩
  · have H := Lib.hid (show Nm.fold n = Nm.folded n by unfold Nm.fold; rw [hv]; rfl)
    have HV := Lib.hid hv
    clear hv
    have hcv := Lib.run_convert_string_bytes (P := Try.prog) w 9 22 5 ⟨n.toArray⟩ Try.underlying9 Try.underlying22 Try.underlying5
    have hr0 := row8_conv w 5 n
    have hb0 := Lib.bytesWorld_below w 5 ⟨n.toArray⟩
    have hsz : (⟨n.toArray⟩ : ByteArray).size = n.length := by show n.toArray.size = _; simp
    generalize grownCap w (⟨n.toArray⟩ : ByteArray).size 0 5 = cap at hcv
    rw [hsz] at hcv
    generalize Lib.bytesWorld w 5 ⟨n.toArray⟩ = W0 at *
    clear hsz
    go_enter Try.func84, Try.ntmps84
    go_wp2_with (go_at_call 74; refine (valid_any n _ hs).mono ?_; rw [HV.out]; rintro e w' ⟨rfl, rfl⟩)
    go_loopw [15] (fun i wr => ∃ k : Nat, k ≤ n.length ∧ i = .int .i64 k ∧ Hid (Row8 w.heap.size (Nm.foldTo n k) wr) ∧ Below w.heap.size w wr) (fun i _ => n.length + 1 - (intOf i).toNat)
    case atStart => exact ⟨0, by omega, rfl, Lib.hid (by rw [Nm.foldTo_zero]; exact hr0), hb0⟩
    case round =>
      obtain ⟨k, hk, rfl, hr, hb⟩ := hrel
      by_cases hlt : k < n.length
      · obtain ⟨c1, f1⟩ := hr.out k (by rw [Nm.foldTo_length]; exact hlt)
        rw [Nm.foldTo_get hlt] at c1
        go_wp2_with (go_at_call 102; refine (small_any n[k] _).mono ?_; rintro e w' ⟨rfl, rfl⟩)
        go_roundw
        case rel => exact ⟨k + 1, by omega, by go_num, Lib.hid (by rw [← Nm.foldTo_set hlt]; exact hr.out.set (by rw [Nm.foldTo_length]; exact hlt) _), hb.setCell (p := ⟨w.heap.size, k, none⟩) (Nat.le_refl _) _⟩
        case measure => simp [intOf]; omega
      · obtain rfl : k = n.length := by omega
        have hst := (hr.out).str (cap := cap) (src := 22) (dst := 9) (P := Try.prog) Try.underlying22 Try.underlying5 Try.underlying9
        rw [Nm.foldTo_length, Nm.foldTo_end] at hst
        go_wp2
        go_ret
        exact ⟨ret_str H.out.symm, hb⟩
end Go.Proofs.Ytdodamkndigjkaa

/- The document's own Fold (freshetref1). -/
namespace Go.Proofs.Ytdodamkndigjkaa
open Go.RowKit Go.Shelf
attribute [local go_sem] Oper.semAt_some

set_option maxRecDepth 100000 in
set_option maxHeartbeats 2000000 in
theorem rfold_any (n : List UInt8) (w : World) (hs : n.length ≤ 100000) :
    Calls Try.prog 43 #[.string ⟨n.toArray⟩] w fun e w' => e = .returned (.string ⟨(Nm.fold n).toArray⟩) ∧ Below w.heap.size w w' := by
  cases hv : Nm.valid n
  · have H := Lib.hid (show Nm.fold n = n by unfold Nm.fold; rw [hv]; rfl)
    have HV := Lib.hid hv
    clear hv
    go_enter Try.func43, Try.ntmps43
    go_wp2_with (go_at_call 65; refine (rvalid_any n _ hs).mono ?_; rw [HV.out]; rintro e w' ⟨rfl, hb⟩)
    go_ret
    exact ⟨ret_str H.out.symm, hb⟩
  · have H := Lib.hid (show Nm.fold n = Nm.folded n by unfold Nm.fold; rw [hv]; rfl)
    have HV := Lib.hid hv
    clear hv
    go_enter Try.func43, Try.ntmps43
    go_wp2_with fail
    refine (rvalid_any n _ hs).mono ?_
    rw [HV.out]
    rintro e w1 ⟨rfl, b1⟩
    have hcv := Lib.run_convert_string_bytes (P := Try.prog) w1 9 22 5 ⟨n.toArray⟩ Try.underlying9 Try.underlying22 Try.underlying5
    have hr0 := row8_conv w1 5 n
    have hb0 := below_trans b1 (Lib.bytesWorld_below w1 5 ⟨n.toArray⟩)
    have hsz : (⟨n.toArray⟩ : ByteArray).size = n.length := by show n.toArray.size = _; simp
    generalize grownCap w1 (⟨n.toArray⟩ : ByteArray).size 0 5 = cap at hcv
    rw [hsz] at hcv
    generalize Lib.bytesWorld w1 5 ⟨n.toArray⟩ = W0 at *
    clear hsz
    have hw1 := b1.size
    go_wp2
    go_loopw [4] (fun i wr => ∃ k : Nat, k ≤ n.length ∧ i = .int .i64 k ∧ Hid (Row8 w1.heap.size (Nm.foldTo n k) wr) ∧ Below w.heap.size w wr) (fun i _ => n.length + 1 - (intOf i).toNat)
    case atStart => exact ⟨0, by omega, rfl, Lib.hid (by rw [Nm.foldTo_zero]; exact hr0), hb0⟩
    case round =>
      obtain ⟨k, hk, rfl, hr, hb⟩ := hrel
      by_cases hlt : k < n.length
      · obtain ⟨c1, f1⟩ := hr.out k (by rw [Nm.foldTo_length]; exact hlt)
        rw [Nm.foldTo_get hlt] at c1
        have hst := Lib.hid (Nm.foldTo_set hlt)
        have hset := Lib.hid (fun c => hr.out.set (by rw [Nm.foldTo_length]; exact hlt) (c := c) (k := k))
        have hskip : Hid (Nm.small n[k] = n[k] → Row8 w1.heap.size (Nm.foldTo n (k + 1)) wr) := Lib.hid (fun e => by
          have := hr.out
          rw [← hst.out, e, ← Nm.foldTo_get hlt, List.set_getElem_self]
          exact this)
        obtain ⟨c, hcc⟩ : ∃ c, c = n[k] := ⟨_, rfl⟩
        rw [← hcc] at c1 hst hskip
        have hc255 : c.toNat ≤ 255 := by have := c.toNat_lt; omega
        clear hcc
        by_cases h : 65 ≤ c.toNat ∧ c.toNat ≤ 90
        · have h1 := hset.out (Nm.small c)
          rw [hst.out, Nm.small_yes h.1 h.2] at h1
          have H1 := Lib.hid h1
          obtain ⟨h2, h3⟩ := h
          clear h1
          go_wp2
          go_roundw
          case rel => exact ⟨k + 1, by omega, by go_num, H1, hb.setCell (p := ⟨w1.heap.size, k, none⟩) hw1 _⟩
          case measure => simp [intOf]; omega
        · have H1 := Lib.hid (hskip.out (Nm.small_no h))
          have hcase : c.toNat < 65 ∨ (65 ≤ c.toNat ∧ 90 < c.toNat) := by omega
          clear h
          rcases hcase with h1 | ⟨h1, h2⟩
          all_goals
            go_wp2
            go_roundw
            case rel => exact ⟨k + 1, by omega, by go_num, H1, hb⟩
            case measure => simp [intOf]; omega
      · obtain rfl : k = n.length := by omega
        have hst := (hr.out).str (cap := cap) (src := 22) (dst := 9) (P := Try.prog) Try.underlying22 Try.underlying5 Try.underlying9
        rw [Nm.foldTo_length, Nm.foldTo_end] at hst
        go_wp2
        go_ret
        exact ⟨ret_str H.out.symm, hb⟩

end Go.Proofs.Ytdodamkndigjkaa
