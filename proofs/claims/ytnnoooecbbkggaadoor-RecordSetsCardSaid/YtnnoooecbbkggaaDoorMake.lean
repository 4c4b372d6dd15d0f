/- Records that are made: checked, MakeA, MakeName, MakeSOA. -/
import Derived.Test.YtnnoooecbbkggaaDoorNumber
namespace Go.Proofs.YtnnoooecbbkggaaDoor
open Go.RowKit Go.Shelf
attribute [local go_sem] Oper.semAt_some

namespace Rd
theorem checkedR_yes {r : RR} (h : check r = true) : checkedR r = r := by unfold checkedR; rw [h]; rfl
theorem checkedR_no {r : RR} (h : check r = false) : checkedR r = RR.zero := by unfold checkedR; rw [h]; rfl
end Rd
theorem rrV_zero : rrV Rd.RR.zero = .agg #[.string ⟨#[]⟩, .int .i64 0, .int .i64 0, .int .i64 0, .string ⟨#[]⟩] := rfl
theorem ret_rr {r s : Rd.RR} (h : r = s) : Ending.returned (rrV r) = .returned (rrV s) := by rw [h]

theorem below5 {B : Nat} {w W : World} (h : Below B w W) {g : Nat} (hg : B ≤ g) (a b c d e : Value) : Below B w (((((W.setCell ⟨g, 0, none⟩ a).setCell ⟨g, 1, none⟩ b).setCell ⟨g, 2, none⟩ c).setCell ⟨g, 3, none⟩ d).setCell ⟨g, 4, none⟩ e) :=
  ((((h.setCell (p := ⟨g, 0, none⟩) hg a).setCell (p := ⟨g, 1, none⟩) hg b).setCell (p := ⟨g, 2, none⟩) hg c).setCell (p := ⟨g, 3, none⟩) hg d).setCell (p := ⟨g, 4, none⟩) hg e

set_option maxRecDepth 100000 in
set_option maxHeartbeats 2000000 in
theorem checked_any (n : List UInt8) (t l : Int) (d : List UInt8) (w : World) (hn : n.length ≤ 100000) (hd : d.length ≤ 100000) :
    Calls Tryd.prog 55 #[.string ⟨n.toArray⟩, .int .i64 t, .int .i64 l, .string ⟨d.toArray⟩] w fun e w' => e = .returned (rrV (Rd.checkedR ⟨n, t, 1, l, d⟩)) ∧ Below w.heap.size w w' := by
  obtain ⟨x, hx⟩ : ∃ x, Rd.check ⟨n, t, 1, l, d⟩ = x := ⟨_, rfl⟩
  have hc := fun W => check_any ⟨n, t, 1, l, d⟩ W hn hd
  rw [hx] at hc
  have HC := Lib.hid hc
  have H : Hid (rrV (Rd.checkedR ⟨n, t, 1, l, d⟩) = if x then .agg #[.string ⟨n.toArray⟩, .int .i64 t, .int .i64 1, .int .i64 l, .string ⟨d.toArray⟩] else .agg #[.string ⟨#[]⟩, .int .i64 0, .int .i64 0, .int .i64 0, .string ⟨#[]⟩]) := Lib.hid (by
    cases x
    · rw [Rd.checkedR_no hx]; rfl
    · rw [Rd.checkedR_yes hx]; rfl)
  clear hc hx
  unfold rrV at HC
  cases x
  · go_enter Tryd.func55, Tryd.ntmps55
    go_wp2_with (first
      | (go_at_call 46; refine (clone_any n _ (by omega)).mono ?_; rintro e w1 ⟨rfl, b1⟩; obtain ⟨hc, hf⟩ := bcell b1; have hz : w.heap.size < w1.heap.size := Nat.lt_of_lt_of_le (by simp) b1.size; replace b1 := ((Below.refl _ w).alloc (Nat.le_refl _) _).trans (b1.mono (by simp)))
      | (go_at_call 13; refine (HC.out _).mono ?_; rintro e w2 ⟨rfl, b2⟩; obtain ⟨hc2, hf2⟩ := bcell b2; have hz' : w.heap.size < w1.heap.size + 1 := Nat.lt_succ_of_lt hz; replace b1 := (b1.alloc b1.size _).trans (b2.mono (by simp; omega))))
    exact bodyPost_ret (v := .agg #[.string ⟨#[]⟩, .int .i64 0, .int .i64 0, .int .i64 0, .string ⟨#[]⟩]) (by simp [results, Tryd.results55, go_sem, hc, hf, hc2, hf2, hz, hz']) rfl ⟨by rw [H.out]; rfl, below5 b1 (Nat.le_refl _) _ _ _ _ _⟩
  · go_enter Tryd.func55, Tryd.ntmps55
    go_wp2_with (first
      | (go_at_call 46; refine (clone_any n _ (by omega)).mono ?_; rintro e w1 ⟨rfl, b1⟩; obtain ⟨hc, hf⟩ := bcell b1; have hz : w.heap.size < w1.heap.size := Nat.lt_of_lt_of_le (by simp) b1.size; replace b1 := ((Below.refl _ w).alloc (Nat.le_refl _) _).trans (b1.mono (by simp)))
      | (go_at_call 13; refine (HC.out _).mono ?_; rintro e w2 ⟨rfl, b2⟩; obtain ⟨hc2, hf2⟩ := bcell b2; have hz' : w.heap.size < w1.heap.size + 1 := Nat.lt_succ_of_lt hz; replace b1 := (b1.alloc b1.size _).trans (b2.mono (by simp; omega))))
    exact bodyPost_ret (v := .agg #[.string ⟨n.toArray⟩, .int .i64 t, .int .i64 1, .int .i64 l, .string ⟨d.toArray⟩]) (by simp [results, Tryd.results55, go_sem, hc, hf, hc2, hf2, hz, hz']) rfl ⟨by rw [H.out]; rfl, below5 b1 (Nat.le_refl _) _ _ _ _ _⟩

theorem below5' {w W : World} (h : Below (w.heap.size + 1) (w.alloc (.cells #[.string ⟨#[]⟩, .int .i64 0, .int .i64 0, .int .i64 0, .string ⟨#[]⟩] 23)) W) (a b c d e : Value) : Below w.heap.size w (((((W.setCell ⟨w.heap.size, 0, none⟩ a).setCell ⟨w.heap.size, 1, none⟩ b).setCell ⟨w.heap.size, 2, none⟩ c).setCell ⟨w.heap.size, 3, none⟩ d).setCell ⟨w.heap.size, 4, none⟩ e) :=
  below5 (((Below.refl _ w).alloc (Nat.le_refl _) _).trans (h.mono (by omega))) (Nat.le_refl _) a b c d e

set_option maxRecDepth 100000 in
set_option maxHeartbeats 2000000 in
theorem makeA_any (n : List UInt8) (l x : Int) (w : World) (hn : n.length ≤ 100000) (hx0 : -9223372036854775808 ≤ x) (hx1 : x ≤ 9223372036854775807) :
    Calls Tryd.prog 29 #[.string ⟨n.toArray⟩, .int .i64 l, .int .i64 x] w fun e w' => e = .returned (rrV (Rd.makeA n l x)) ∧ Below w.heap.size w w' := by
  cases hf : Rd.isFour x
  · have H : Hid (rrV (Rd.makeA n l x) = .agg #[.string ⟨#[]⟩, .int .i64 0, .int .i64 0, .int .i64 0, .string ⟨#[]⟩]) := Lib.hid (by unfold Rd.makeA; rw [hf]; rfl)
    have HF := Lib.hid hf
    clear hf
    go_enter Tryd.func29, Tryd.ntmps29
    go_wp2_with (go_at_call 54; refine (isFour_any x _).mono ?_; rw [HF.out]; rintro e w1 ⟨rfl, rfl⟩)
    exact bodyPost_ret (v := .agg #[.string ⟨#[]⟩, .int .i64 0, .int .i64 0, .int .i64 0, .string ⟨#[]⟩]) (by simp [results, Tryd.results29, go_sem]) rfl ⟨by rw [H.out], (Below.refl _ w).alloc (Nat.le_refl _) _⟩
  · obtain ⟨r, hr⟩ : ∃ r, Rd.checkedR ⟨n, 1, 1, l, Rd.four x⟩ = r := ⟨_, rfl⟩
    have hc := fun W => checked_any n 1 l (Rd.four x) W hn (by show 4 ≤ 100000; omega)
    rw [hr] at hc
    have H : Hid (rrV (Rd.makeA n l x) = rrV r) := Lib.hid (by unfold Rd.makeA; rw [hf, ← hr]; rfl)
    have HC := Lib.hid hc
    have HF := Lib.hid hf
    clear hf hc hr
    obtain ⟨n', t', c', l', d'⟩ := r
    unfold rrV at HC
    obtain ⟨q, hq⟩ : ∃ q, Rd.four x = q := ⟨_, rfl⟩
    have hap := fun W bs h => appendFour_any x [] (.slice none 0 0) bs W hx0 hx1 (ownE_nil _ _ _ _) h (by simp)
    rw [hq] at HC hap
    rw [List.nil_append] at hap
    have HA := Lib.hid hap
    clear hap hq
    go_enter Tryd.func29, Tryd.ntmps29
    go_wp2_with (first
      | (go_at_call 54; refine (isFour_any x _).mono ?_; rw [HF.out]; rintro e w1 ⟨rfl, rfl⟩)
      | (go_at_call 56; refine (HA.out _ (w.heap.size + 1) (by simp)).mono ?_; rintro e w1 ⟨v, rfl, ho, b1⟩; have hst := run_str (P := Tryd.prog) Tryd.underlying70 Tryd.underlying5 Tryd.underlying9 ho; have hz : w.heap.size < w1.heap.size := Nat.lt_of_lt_of_le (by simp) b1.size)
      | (go_at_call 55; refine (HC.out _).mono ?_; rintro e w2 ⟨rfl, b2⟩; replace b1 := b1.trans (b2.mono hz); obtain ⟨hc2, hf2⟩ := bcell1 b1))
    exact bodyPost_ret (v := .agg #[.string ⟨n'.toArray⟩, .int .i64 t', .int .i64 c', .int .i64 l', .string ⟨d'.toArray⟩]) (by simp [results, Tryd.results29, go_sem, hc2, hf2]) rfl ⟨by rw [H.out]; rfl, below5' b1 _ _ _ _ _⟩

set_option maxRecDepth 100000 in
set_option maxHeartbeats 2000000 in
theorem makeName_any (n : List UInt8) (t l : Int) (to : List UInt8) (w : World) (hn : n.length ≤ 100000) (hto : to.length ≤ 100000) :
    Calls Tryd.prog 31 #[.string ⟨n.toArray⟩, .int .i64 t, .int .i64 l, .string ⟨to.toArray⟩] w fun e w' => e = .returned (rrV (Rd.makeName n t l to)) ∧ Below w.heap.size w w' := by
  by_cases ht : t = 2 ∨ t = 5 ∨ t = 12
  · obtain ⟨r, hr⟩ : ∃ r, Rd.checkedR ⟨n, t, 1, l, to⟩ = r := ⟨_, rfl⟩
    have hc := fun W => checked_any n t l to W hn hto
    rw [hr] at hc
    have H : Hid (rrV (Rd.makeName n t l to) = rrV r) := Lib.hid (by unfold Rd.makeName; rw [if_pos ht, ← hr])
    have HC := Lib.hid hc
    clear hc hr
    obtain ⟨n', t', c', l', d'⟩ := r
    unfold rrV at HC
    rcases ht with rfl | rfl | rfl
    all_goals
      go_enter Tryd.func31, Tryd.ntmps31
      go_wp2_with (first
        | (go_at_call 46; refine (clone_any to _ (by omega)).mono ?_; rintro e w1 ⟨rfl, b1⟩; replace b1 : Below (w.heap.size + 1) _ w1 := b1.mono (by simp); have hz : w.heap.size < w1.heap.size := Nat.lt_of_lt_of_le (by simp) b1.size)
        | (go_at_call 55; refine (HC.out _).mono ?_; rintro e w2 ⟨rfl, b2⟩; replace b1 := b1.trans (b2.mono hz); obtain ⟨hc2, hf2⟩ := bcell1 b1))
      exact bodyPost_ret (v := .agg #[.string ⟨n'.toArray⟩, .int .i64 t', .int .i64 c', .int .i64 l', .string ⟨d'.toArray⟩]) (by simp [results, Tryd.results31, go_sem, hc2, hf2]) rfl ⟨by rw [H.out]; rfl, below5' b1 _ _ _ _ _⟩
  · have H : Hid (rrV (Rd.makeName n t l to) = .agg #[.string ⟨#[]⟩, .int .i64 0, .int .i64 0, .int .i64 0, .string ⟨#[]⟩]) := Lib.hid (by unfold Rd.makeName; rw [if_neg ht]; rfl)
    have h2 : ((t : Int) == 2) = false := beq_eq_false_iff_ne.2 (by omega)
    have h5 : ((t : Int) == 5) = false := beq_eq_false_iff_ne.2 (by omega)
    have h12 : ((t : Int) == 12) = false := beq_eq_false_iff_ne.2 (by omega)
    clear ht
    go_enter Tryd.func31, Tryd.ntmps31
    go_wp2
    exact bodyPost_ret (v := .agg #[.string ⟨#[]⟩, .int .i64 0, .int .i64 0, .int .i64 0, .string ⟨#[]⟩]) (by simp [results, Tryd.results31, go_sem]) rfl ⟨by rw [H.out], (Below.refl _ w).alloc (Nat.le_refl _) _⟩
end Go.Proofs.YtnnoooecbbkggaaDoor
