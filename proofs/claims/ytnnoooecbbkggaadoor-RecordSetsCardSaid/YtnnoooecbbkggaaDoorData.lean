/- Whether data may be: nameSize, areTexts, fits, Data. -/
import Derived.Test.YtnnoooecbbkggaaDoorLay
namespace Go.Proofs.YtnnoooecbbkggaaDoor
open Go.RowKit Go.Shelf
attribute [local go_sem] Oper.semAt_some

theorem drop_get {d : List UInt8} {a k : Nat} (h : k < (d.drop a).length) : (d.drop a)[k] = d[a + k]'(by rw [List.length_drop] at h; omega) := List.getElem_drop

set_option maxRecDepth 100000 in
set_option maxHeartbeats 1000000 in
/-- nameSize, at a place within bounds, or beyond them. -/
theorem nameSize_any (d : List UInt8) (at' : Nat) (w : World) (hs : d.length ≤ 100000) (ha : at' ≤ 100000) :
    Calls Tryd.prog 62 #[.string ⟨d.toArray⟩, .int .i64 (at' : Int)] w fun e w' => e = .returned (.int .i64 (Rd.nsz (d.drop at') : Int)) ∧ w = w' := by
  go_enter Tryd.func62, Tryd.ntmps62
  go_wp2
  go_loop [5] (fun i => ∃ e : Nat, e ≤ 200400 ∧ at' ≤ e ∧ i = .int .i64 (e : Int) ∧ Hid (Rd.At (d.drop at') (e - at'))) (fun i => d.length + 1 - (intOf i).toNat)
  case atStart => exact ⟨at', by omega, by omega, rfl, Lib.hid (by rw [Nat.sub_self]; exact Rd.At.zero _)⟩
  case round =>
    obtain ⟨e, he, hae, rfl, hv⟩ := hrel
    by_cases hlt : e < d.length
    · have hlt' : e - at' < (d.drop at').length := by rw [List.length_drop]; omega
      have hc : ((⟨d.toArray⟩ : ByteArray)[e]'hlt) = d[e] := rfl
      have hg : (d.drop at')[e - at'] = d[e] := by rw [drop_get hlt']; congr 1; omega
      obtain ⟨c, hcc⟩ : ∃ c, c = d[e] := ⟨_, rfl⟩
      rw [← hcc] at hc hg
      have hc255 : c.toNat ≤ 255 := by have := c.toNat_lt; omega
      by_cases h0 : c = 0
      · subst h0
        have hsl := run_cut (P := Tryd.prog) Tryd.underlying9 (l := d) (l' := (d.drop at').take (e - at' + 1)) (lo := (at' : Int)) (hi := (e : Int) + 1) (by omega) (by omega) (by omega) (by congr 1; omega) w
        have hl1 : ((d.drop at').take (e - at' + 1)).length ≤ 100000 := by rw [List.length_take, List.length_drop]; omega
        obtain ⟨x, hx⟩ : ∃ x, Nm.valid ((d.drop at').take (e - at' + 1)) = x := ⟨_, rfl⟩
        have HX := Lib.hid hx
        have hn : x = false ∧ Hid (Rd.nsz (d.drop at') = 0) ∨ x = true ∧ Hid (Rd.nsz (d.drop at') = e - at' + 1) := by
          cases x
          · exact .inl ⟨rfl, Lib.hid (hv.out.no hlt' hg hx)⟩
          · exact .inr ⟨rfl, Lib.hid (hv.out.yes hlt' hg hx)⟩
        have HC := Lib.hid hcc
        clear hx hg hcc
        rcases hn with ⟨rfl, HN⟩ | ⟨rfl, HN⟩
        all_goals
          go_wp2_with (go_at_call 43; refine (valid_any _ _ hl1).mono ?_; rw [HX.out]; rintro e w' ⟨rfl, rfl⟩)
          go_ret
          exact ⟨ret_int (by rw [HN.out]; omega), rfl⟩
      · have t1 : ((c.toNat : Int) != 0) = true := by rw [bne_iff_ne]; intro e; exact h0 (by rw [← UInt8.toNat_inj]; simpa using e)
        have hst := Lib.hid (hv.out.step hlt' (by rw [hg]; exact h0))
        have HG := Lib.hid hg
        clear hg hcc
        go_wp2
        go_round
        case rel => exact ⟨e + (1 + c.toNat), by omega, by omega, by go_num, Lib.hid (by
          have h := hst.out
          rw [HG.out, show e - at' + (1 + c.toNat) = e + (1 + c.toNat) - at' from by omega] at h
          exact h)⟩
        case measure => simp [intOf]; omega
    · have HN := Lib.hid (hv.out.stop (by rw [List.length_drop]; omega))
      go_wp2
      go_ret
      exact ⟨ret_int (by rw [HN.out]; rfl), rfl⟩

set_option maxRecDepth 100000 in
set_option maxHeartbeats 1000000 in
theorem areTexts_any (d : List UInt8) (w : World) (hs : d.length ≤ 100000) :
    Calls Tryd.prog 40 #[.string ⟨d.toArray⟩] w fun e w' => e = .returned (.bool (Rd.texts d)) ∧ w = w' := by
  go_enter Tryd.func40, Tryd.ntmps40
  go_wp2
  go_loop [3] (fun i => ∃ k : Nat, k ≤ 100400 ∧ i = .int .i64 (k : Int) ∧ Hid (Rd.TextAt d k)) (fun i => d.length + 1 - (intOf i).toNat)
  case atStart => exact ⟨0, by omega, rfl, Lib.hid (Rd.TextAt.zero _)⟩
  case round =>
    obtain ⟨k, hk, rfl, hv⟩ := hrel
    by_cases hlt : k < d.length
    · have hc : ((⟨d.toArray⟩ : ByteArray)[k]'hlt) = d[k] := rfl
      have hst := Lib.hid (hv.out.step hlt)
      have hc255 : d[k].toNat ≤ 255 := by have := d[k].toNat_lt; omega
      go_wp2
      go_round
      case rel => exact ⟨k + (1 + d[k].toNat), by omega, by go_num, hst⟩
      case measure => simp [intOf]; omega
    · have HN := Lib.hid (hv.out.done (by omega))
      have HT : Hid (Rd.texts d = (!d.isEmpty && (k : Int) == (d.length : Int))) := Lib.hid (by
        unfold Rd.texts; rw [HN.out, Bool.eq_iff_iff]
        simp
        omega)
      go_wp2
      all_goals
        go_ret
        first | exact ⟨ret_bool HT.out.symm, rfl⟩ | exact ⟨rfl, rfl⟩

namespace Rd
theorem fitsL_zero (d : List UInt8) (e b : Nat) : fitsL d e 0 b = (e + b == d.length) := rfl
theorem fitsL_none {d : List UInt8} {e n b : Nat} (h : nsz (d.drop e) = 0) : fitsL d e (n + 1) b = false := by
  unfold fitsL; simp [run, h]
theorem fitsL_some {d : List UInt8} {e n b : Nat} (h : nsz (d.drop e) ≠ 0) : fitsL d e (n + 1) b = fitsL d (e + nsz (d.drop e)) n b := by
  unfold fitsL; simp only [run]; rw [if_neg h]
  cases run d n (e + nsz (d.drop e)) with
  | none => rfl
  | some x => rfl
theorem dataOk_lay {t : Int} {d : List UInt8} {a n b : Nat} (h : lay t = some (a, n, b)) (h16 : t ≠ 16) (hl : ¬ 1000 < d.length) : dataOk t d = fitsL d a n b := by
  unfold dataOk parts fitsL
  rw [if_neg hl, if_neg h16, h]
  show (match run d n a with | none => none | some (ps, e) => if e + b = d.length then some ps else none).isSome = _
  cases run d n a with
  | none => rfl
  | some x =>
    obtain ⟨ps, e⟩ := x
    show (if e + b = d.length then some ps else none).isSome = (e + b == d.length)
    by_cases h : e + b = d.length <;> simp [h]
theorem dataOk_none {t : Int} {d : List UInt8} (h : lay t = none) (h16 : t ≠ 16) (hl : ¬ 1000 < d.length) : dataOk t d = true := by
  unfold dataOk parts
  rw [if_neg hl, if_neg h16, h]; rfl
theorem dataOk_txt {d : List UInt8} (hl : ¬ 1000 < d.length) : dataOk 16 d = texts d := by
  unfold dataOk parts
  rw [if_neg hl, if_pos rfl]
  cases texts d <;> rfl
theorem dataOk_long {t : Int} {d : List UInt8} (hl : 1000 < d.length) : dataOk t d = false := by
  unfold dataOk parts
  rw [if_pos hl]; rfl
theorem lay_bounds {t : Int} {a n b : Nat} (h : lay t = some (a, n, b)) : a ≤ 16 ∧ n ≤ 2 ∧ b ≤ 20 := by
  unfold lay at h
  repeat (split at h; · simp at h; omega)
  cases h
end Rd

set_option maxRecDepth 100000 in
set_option maxHeartbeats 1000000 in
theorem fits_any (a n b : Nat) (d : List UInt8) (w : World) (ha : a ≤ 16) (hn : n ≤ 2) (hb' : b ≤ 20) (hs : d.length ≤ 100000) :
    Calls Tryd.prog 42 #[layL a n b, .string ⟨d.toArray⟩] w fun e w' => e = .returned (.bool (Rd.fitsL d a n b)) ∧ Below w.heap.size w w' := by
  obtain ⟨R, hR⟩ : ∃ R, Rd.fitsL d a n b = R := ⟨_, rfl⟩
  have HR := Lib.hid hR
  rw [hR]
  clear hR
  unfold layL
  go_enter Tryd.func42, Tryd.ntmps42
  go_wp2
  go_loop [5, 11] (fun e k => ∃ (x y : Nat), x ≤ 100000 ∧ y ≤ n ∧ e = .int .i64 (x : Int) ∧ k = .int .i64 (y : Int) ∧ Hid (Rd.fitsL d x (n - y) b = R)) (fun _ k => n + 1 - (intOf k).toNat)
  case atStart => exact ⟨a, 0, by omega, by omega, rfl, rfl, Lib.hid (by rw [Nat.sub_zero]; exact HR.out)⟩
  case round =>
    obtain ⟨x, y, hx, hy, rfl, rfl, hv⟩ := hrel
    by_cases hlt : y < n
    · obtain ⟨m, hm⟩ : ∃ m, n - y = m + 1 := ⟨n - y - 1, by omega⟩
      obtain ⟨z, hz⟩ : ∃ z, Rd.nsz (d.drop x) = z := ⟨_, rfl⟩
      have hzl := Rd.nsz_le (d.drop x)
      rw [List.length_drop, hz] at hzl
      have HZ := Lib.hid hz
      have hm' : n - (y + 1) = m := by omega
      by_cases h0 : z = 0
      · subst h0
        have HF : Hid (R = false) := Lib.hid (by rw [← hv.out, hm, Rd.fitsL_none hz])
        clear hz hm hm'
        go_wp2_with (go_at_call 62; refine (nameSize_any d x _ hs (by omega)).mono ?_; rw [HZ.out]; rintro e w' ⟨rfl, rfl⟩)
        go_ret
        exact ⟨ret_bool HF.out.symm, (Below.refl _ w).alloc (Nat.le_refl _) _⟩
      · have HF : Hid (Rd.fitsL d (x + z) (n - (y + 1)) b = R) := Lib.hid (by rw [hm', ← hv.out, hm, Rd.fitsL_some (by rw [hz]; exact h0), hz])
        have t1 : ((z : Int) == 0) = false := by rw [beq_eq_false_iff_ne]; omega
        clear hz hm hm'
        go_wp2_with (go_at_call 62; refine (nameSize_any d x _ hs (by omega)).mono ?_; rw [HZ.out]; rintro e w' ⟨rfl, rfl⟩)
        go_round
        case rel => exact ⟨x + z, y + 1, by omega, by omega, by go_num, by go_num, HF⟩
        case measure => simp [intOf]; omega
    · have HF : Hid (R = ((x : Int) + (b : Int) == (d.length : Int))) := Lib.hid (by
        rw [← hv.out, show n - y = 0 from by omega, Rd.fitsL_zero, Bool.eq_iff_iff]
        simp
        omega)
      go_wp2
      go_ret
      exact ⟨ret_bool HF.out.symm, (Below.refl _ w).alloc (Nat.le_refl _) _⟩

set_option maxRecDepth 100000 in
set_option maxHeartbeats 1000000 in
theorem data_any (t : Int) (d : List UInt8) (w : World) (hs : d.length ≤ 100000) :
    Calls Tryd.prog 12 #[.int .i64 t, .string ⟨d.toArray⟩] w fun e w' => e = .returned (.bool (Rd.dataOk t d)) ∧ Below w.heap.size w w' := by
  by_cases hl : 1000 < d.length
  · have H := Lib.hid (Rd.dataOk_long (t := t) hl)
    go_enter Tryd.func12, Tryd.ntmps12
    go_wp2
    go_ret
    exact ⟨ret_bool H.out.symm, Below.refl _ _⟩
  · by_cases h16 : t = 16
    · subst h16
      have H := Lib.hid (Rd.dataOk_txt hl)
      go_enter Tryd.func12, Tryd.ntmps12
      go_wp2_with (go_at_call 40; refine (areTexts_any d _ hs).mono ?_; rintro e w' ⟨rfl, rfl⟩)
      go_ret
      exact ⟨ret_bool H.out.symm, Below.refl _ _⟩
    · obtain ⟨R, hR⟩ : ∃ R, Rd.dataOk t d = R := ⟨_, rfl⟩
      have t16 := beq_eq_false_iff_ne.2 h16
      rw [hR]
      cases hy : Rd.lay t with
      | none =>
        have H : Hid (R = true) := Lib.hid (by rw [← hR, Rd.dataOk_none hy h16 hl])
        have HY := Lib.hid hy
        clear h16 hR hy
        go_enter Tryd.func12, Tryd.ntmps12
        go_wp2_with fail
        refine (layoutOf_any t _).mono ?_
        rintro e w1 ⟨rfl, b1⟩
        rw [HY.out]
        simp only [layV, layL, Option.isSome_none]
        go_wp2
        go_ret
        exact ⟨ret_bool H.out.symm, b1.alloc b1.size _⟩
      | some x =>
        obtain ⟨a, n, b⟩ := x
        have H := Lib.hid (show Rd.fitsL d a n b = R by rw [← hR, Rd.dataOk_lay hy h16 hl])
        obtain ⟨ha, hn, hb'⟩ := Rd.lay_bounds hy
        have HY := Lib.hid hy
        clear h16 hR hy
        go_enter Tryd.func12, Tryd.ntmps12
        go_wp2_with fail
        refine (layoutOf_any t _).mono ?_
        rintro e w1 ⟨rfl, b1⟩
        rw [HY.out]
        simp only [layV, layL, Option.isSome_some]
        go_wp2_with (go_at_call 42; refine (fits_any a n b d _ ha hn hb' hs).mono ?_; rw [H.out]; rintro e w' ⟨rfl, b2⟩)
        go_ret
        exact ⟨rfl, (b1.alloc b1.size _).trans (b2.mono (by have := b1.size; simp; omega))⟩
end Go.Proofs.YtnnoooecbbkggaaDoor
