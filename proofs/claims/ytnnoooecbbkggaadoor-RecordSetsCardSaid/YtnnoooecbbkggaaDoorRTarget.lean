/- The document's own Target; addresses and least times. -/
import Derived.Test.YtnnoooecbbkggaaDoorTarget
namespace Go.Proofs.YtnnoooecbbkggaaDoor
open Go.RowKit Go.Shelf
attribute [local go_sem] Oper.semAt_some

namespace Rd
theorem parts_bound {t : Int} {d : List UInt8} {ps : List (Nat × Nat)} (hp : parts t d = some ps) : d.length ≤ 1000 ∧ ∀ p ∈ ps, p.1 + p.2 ≤ d.length := by
  have hl : ¬ 1000 < d.length := fun hl => by rw [parts_long hl] at hp; cases hp
  refine ⟨by omega, fun p hpm => ?_⟩
  cases h : lay t with
  | none => rw [parts_other16 h hp] at hpm; cases hpm
  | some x =>
    obtain ⟨a, n, b⟩ := x
    obtain ⟨e, hr, he, _⟩ := parts_len h hp
    have := ((run_bound _ _ _ hr).2.2.2.2 p hpm).2.1
    omega
theorem target_cases (r : RR) : (parts r.typ r.data = none ∧ target r = none) ∨ (∃ ps, parts r.typ r.data = some ps ∧ ps.length ≠ 1 ∧ target r = none) ∨ ∃ a n, parts r.typ r.data = some [(a, n)] ∧ target r = some ((r.data.drop a).take n) := by
  unfold target
  cases hp : parts r.typ r.data with
  | none => exact .inl ⟨rfl, rfl⟩
  | some ps =>
    match ps with
    | [] => exact .inr (.inl ⟨_, rfl, by simp, rfl⟩)
    | [(a, n)] => exact .inr (.inr ⟨a, n, rfl, rfl⟩)
    | _ :: _ :: _ => exact .inr (.inl ⟨_, rfl, by simp, rfl⟩)
theorem dataOk_four {t : Int} {d : List UInt8} (ht : t = 1 ∨ t = 6) (h : dataOk t d = true) : 4 ≤ d.length ∧ d.length ≤ 1000 := by
  obtain ⟨ps, hp⟩ : ∃ ps, parts t d = some ps := Option.isSome_iff_exists.1 h
  rcases ht with rfl | rfl
  · obtain ⟨e, hr, he, hl⟩ := parts_len (a := 4) (n := 0) (b := 0) rfl hp
    have := (run_bound _ _ _ hr).1
    omega
  · obtain ⟨e, hr, he, hl⟩ := parts_len (a := 0) (n := 2) (b := 20) rfl hp
    omega
def acc (q : List UInt8) : Nat := q.foldl (fun v c => v * 256 + c.toNat) 0
theorem acc_snoc (q : List UInt8) (c : UInt8) : acc (q ++ [c]) = acc q * 256 + c.toNat := by simp [acc]
theorem acc_from : ∀ (q : List UInt8) (v : Nat), q.foldl (fun v c => v * 256 + c.toNat) v < (v + 1) * 256 ^ q.length
  | [], v => by simp
  | c :: q, v => by
    have h := acc_from q (v * 256 + c.toNat)
    have hc := c.toNat_lt
    rw [List.foldl_cons, List.length_cons, Nat.pow_succ]
    refine Nat.lt_of_lt_of_le h ?_
    rw [Nat.mul_comm (256 ^ q.length) 256, ← Nat.mul_assoc]
    exact Nat.mul_le_mul_right _ (by omega)
theorem acc_lt (q : List UInt8) : acc q < 256 ^ q.length := by
  have h := acc_from q 0
  simpa [acc] using h
theorem acc_four {q : List UInt8} (h : q.length = 4) : acc q = number q := by
  match q, h with
  | [a, b, c, d], _ =>
    simp only [acc, number, num4, List.foldl, List.getD_cons_zero, List.getD_cons_succ]
    omega
theorem lastFour_no {t : Int} {r : RR} (h : r.typ ≠ t ∨ dataOk t r.data = false) : lastFour t r = none := by
  unfold lastFour
  rw [if_neg]
  rintro ⟨h1, h2⟩
  rcases h with h | h
  · exact h h1
  · rw [h] at h2; cases h2
theorem lastFour_yes {t : Int} {r : RR} (h1 : r.typ = t) (h2 : dataOk t r.data = true) : lastFour t r = some (number (r.data.drop (r.data.length - 4))) := by
  unfold lastFour
  rw [if_pos ⟨h1, h2⟩]
end Rd

set_option maxRecDepth 100000 in
set_option maxHeartbeats 4000000 in
theorem rtarget_any (r : Rd.RR) (w : World) (hd : r.data.length ≤ 100000) :
    Calls Tryd.prog 20 #[rrV r] w fun e w' => e = .returned (strBool (Rd.target r)) ∧ Below w.heap.size w w' := by
  have hT := Rd.target_cases r
  obtain ⟨n, t, c, l, d⟩ := r
  simp only at *
  obtain ⟨T, hTT⟩ : ∃ T, Rd.target ⟨n, t, c, l, d⟩ = T := ⟨_, rfl⟩
  rw [hTT] at hT ⊢
  clear hTT
  unfold rrV
  rcases hT with ⟨hp, rfl⟩ | ⟨ps, hp, hne, rfl⟩ | ⟨a, k, hp, rfl⟩
  · obtain ⟨h1, h2⟩ := Rd.partsD_none hp
    have H1 := Lib.hid h1
    clear h1 h2 hp
    go_enter Tryd.func20, Tryd.ntmps20
    go_wp2_with (go_at_call 10; refine (rparts_any _ d _ hd).mono ?_; rintro e w1 ⟨v, rfl, _, b1⟩; rw [H1.out])
    go_ret2
    exact ⟨rfl, ((Below.refl _ w).alloc (Nat.le_refl _) _).trans (b1.mono (by simp))⟩
  · obtain ⟨h1, h2⟩ := Rd.partsD_some hp
    have H1 := Lib.hid h1
    have H2 := Lib.hid h2
    have hq : ((ps.length : Int) != 1) = true := by rw [bne_iff_ne]; omega
    clear h1 h2 hp hne
    go_enter Tryd.func20, Tryd.ntmps20
    go_wp2_with fail
    refine (rparts_any t d _ hd).mono ?_
    rintro e w1 ⟨v, rfl, hr, b1⟩
    rw [H2.out] at hr
    rw [H1.out]
    obtain ⟨ao, cap, rfl, _⟩ := hr.form
    go_wp2
    go_ret2
    exact ⟨rfl, ((Below.refl _ w).alloc (Nat.le_refl _) _).trans (b1.mono (by simp))⟩
  · obtain ⟨h1, h2⟩ := Rd.partsD_some hp
    have H1 := Lib.hid h1
    have H2 := Lib.hid h2
    obtain ⟨hl, hb⟩ := Rd.parts_bound hp
    have hak : a + k ≤ d.length := hb (a, k) (by simp)
    obtain ⟨s, hs⟩ : ∃ s, (d.drop a).take k = s := ⟨_, rfl⟩
    have hsl := fun W => run_cut (P := Tryd.prog) Tryd.underlying9 (l := d) (l' := s) (lo := (a : Int)) (hi := (a : Int) + (k : Int)) (by omega) (by omega) (by omega) (by rw [← hs]; congr 1; omega) W
    rw [hs]
    have hw1 : IntKind.i64.wrap ((a : Int) + (k : Int)) = (a : Int) + (k : Int) := IntWalk.i64_in _ (by omega)
    clear h1 h2 hp hb hs
    go_enter Tryd.func20, Tryd.ntmps20
    go_wp2_with fail
    refine (rparts_any t d _ hd).mono ?_
    rintro e w1 ⟨v, rfl, hr, b1⟩
    rw [H2.out] at hr
    rw [H1.out]
    obtain ⟨ao, cap, rfl, hc0⟩ := hr.form
    obtain ⟨g, off, rfl, c1, c2⟩ := hc0 0 (by simp)
    simp only [Nat.zero_mul, Nat.add_zero, List.getElem_cons_zero, List.length_cons, List.length_nil, Nat.zero_add] at c1 c2 ⊢
    clear hc0 hr
    obtain ⟨hc, hf⟩ := bcell b1
    have hz : w.heap.size < w1.heap.size := Nat.lt_of_lt_of_le (by simp) b1.size
    go_wp2
    go_quiet (fail)
    go_wp2
    go_ret2
    exact ⟨rfl, (((Below.refl _ w).alloc (Nat.le_refl _) _).trans (b1.mono (by simp))).trans (Drew.below ⟨_, rfl⟩)⟩

set_option maxRecDepth 100000 in
set_option maxHeartbeats 4000000 in
theorem lastFour_any (t : Int) (r : Rd.RR) (w : World) (ht : t = 1 ∨ t = 6) (hd : r.data.length ≤ 100000) :
    Calls Tryd.prog 47 #[.int .i64 t, rrV r] w fun e w' => e = .returned (intBool (Rd.lastFour t r)) ∧ Below w.heap.size w w' := by
  by_cases hty : r.typ = t
  · by_cases hok : Rd.dataOk t r.data = true
    · have H := Lib.hid (Rd.lastFour_yes hty hok)
      obtain ⟨h4, h1000⟩ := Rd.dataOk_four ht hok
      obtain ⟨n, t', c, l, d⟩ := r
      simp only at *
      subst hty
      unfold rrV
      have HD := Lib.hid hok
      obtain ⟨q, hq⟩ : ∃ q, d.drop (d.length - 4) = q := ⟨_, rfl⟩
      have hql : q.length = 4 := by rw [← hq, List.length_drop]; omega
      have hsl := fun W => run_from (P := Tryd.prog) Tryd.underlying9 (l := d) (l' := q) (lo := (d.length : Int) - 4) (by omega) (by omega) (by rw [← hq]; congr 1; omega) W
      have HN : Hid (Rd.lastFour t' ⟨n, t', c, l, d⟩ = some (Rd.acc q)) := Lib.hid (by rw [H.out, hq, Rd.acc_four hql])
      have HQ := Lib.hid hql
      clear hok hq hql H
      go_enter Tryd.func47, Tryd.ntmps47
      go_wp2_with (go_at_call 12; refine (data_any _ d _ hd).mono ?_; rw [HD.out]; rintro e w1 ⟨rfl, b1⟩; obtain ⟨hc, hf⟩ := bcell b1; have hz : w.heap.size < w1.heap.size := Nat.lt_of_lt_of_le (by simp) b1.size; replace b1 := ((Below.refl _ w).alloc (Nat.le_refl _) _).trans (b1.mono (by simp)); have hcv := Lib.run_convert_string_bytes (P := Tryd.prog) w1 9 70 5 ⟨q.toArray⟩ Tryd.underlying9 Tryd.underlying70 Tryd.underlying5; have hr0 := row8_conv w1 5 q; have hb0 := below_trans b1 (Lib.bytesWorld_below w1 5 ⟨q.toArray⟩); have hsz : (⟨q.toArray⟩ : ByteArray).size = 4 := (show (⟨q.toArray⟩ : ByteArray).size = q.length from by show q.toArray.size = _; simp).trans HQ.out; rw [hsz] at hcv; generalize grownCap w1 4 0 5 = cap at hcv; generalize Lib.bytesWorld w1 5 ⟨q.toArray⟩ = W0 at *; have HR := Lib.hid hr0; clear hsz hr0)
      go_loop [6, 29] (fun v i => ∃ (k : Nat) (x : Int), k ≤ 4 ∧ v = .int .i64 x ∧ i = .int .i64 (k : Int) ∧ 0 ≤ x ∧ x < 4294967296 ∧ (k < 4 → x < 16777216) ∧ Hid (x = (Rd.acc (q.take k) : Int))) (fun _ i => 5 - (intOf i).toNat)
      case atStart => exact ⟨0, 0, by omega, rfl, rfl, by omega, by omega, fun _ => by omega, Lib.hid rfl⟩
      case round =>
        obtain ⟨k, x, hk, rfl, rfl, hx0, hx1, hx2, hh⟩ := hrel
        by_cases hlt : k < 4
        · have hkq : k < q.length := by rw [HQ.out]; exact hlt
          obtain ⟨c1, _⟩ := HR.out k hkq
          have hx3 := hx2 hlt
          obtain ⟨b, hb⟩ : ∃ b, q[k] = b := ⟨_, rfl⟩
          rw [hb] at c1
          have hb255 : b.toNat < 256 := b.toNat_lt
          have HN : Hid (x * 256 + (b.toNat : Int) = (Rd.acc (q.take (k + 1)) : Int)) := Lib.hid (by
            rw [List.take_succ_eq_append_getElem hkq, Rd.acc_snoc, hb, hh.out]; omega)
          have hor := or8 (x * 256) (b.toNat : Int) (by omega) (by omega) (by omega) (by omega) (by omega)
          have HX : Hid (k + 1 < 4 → x * 256 + (b.toNat : Int) < 16777216) := Lib.hid (fun h => by
            rw [HN.out]
            have h1 := Rd.acc_lt (q.take (k + 1))
            rw [List.length_take, HQ.out, Nat.min_eq_left (by omega)] at h1
            have h2 : 256 ^ (k + 1) ≤ 256 ^ 3 := Nat.pow_le_pow_right (by omega) (by omega)
            omega)
          clear hb hx2
          go_wp2
          go_round
          case rel => exact ⟨k + 1, x * 256 + (b.toNat : Int), by omega, rfl, by go_num, by omega, by omega, HX.out, HN⟩
          case measure => simp [intOf]; omega
        · obtain rfl : k = 4 := by omega
          have HE : Hid (x = (Rd.acc q : Int)) := Lib.hid (by rw [hh.out, List.take_of_length_le (by rw [HQ.out]; omega)])
          clear hx2
          go_wp2
          go_ret2
          exact ⟨by rw [HN.out, HE.out]; rfl, hb0⟩
    · have H := Lib.hid (Rd.lastFour_no (t := t) (r := r) (.inr (by
        cases h : Rd.dataOk t r.data
        · rfl
        · exact absurd h hok)))
      have hok' : Rd.dataOk t r.data = false := by
        cases h : Rd.dataOk t r.data
        · rfl
        · exact absurd h hok
      obtain ⟨n, t', c, l, d⟩ := r
      simp only at *
      subst hty
      unfold rrV
      have HD := Lib.hid hok'
      clear hok hok'
      go_enter Tryd.func47, Tryd.ntmps47
      go_wp2_with (go_at_call 12; refine (data_any _ d _ hd).mono ?_; rw [HD.out]; rintro e w1 ⟨rfl, b1⟩)
      go_ret2
      exact ⟨by rw [H.out]; rfl, ((Below.refl _ w).alloc (Nat.le_refl _) _).trans (b1.mono (by simp))⟩
  · have H := Lib.hid (Rd.lastFour_no (t := t) (r := r) (.inl hty))
    obtain ⟨n, t', c, l, d⟩ := r
    simp only at *
    unfold rrV
    have hq : ((t' : Int) != t) = true := by rw [bne_iff_ne]; exact hty
    clear hty
    go_enter Tryd.func47, Tryd.ntmps47
    go_wp2
    go_ret2
    exact ⟨by rw [H.out]; rfl, (Below.refl _ w).alloc (Nat.le_refl _) _⟩

set_option maxRecDepth 100000 in
set_option maxHeartbeats 1000000 in
theorem addr_any (r : Rd.RR) (w : World) (hd : r.data.length ≤ 100000) :
    Calls Tryd.prog 21 #[rrV r] w fun e w' => e = .returned (intBool (Rd.lastFour 1 r)) ∧ Below w.heap.size w w' := by
  have hL := fun W => lastFour_any 1 r W (by omega) hd
  have HL := Lib.hid hL
  clear hL
  obtain ⟨R, hR⟩ : ∃ R, Rd.lastFour 1 r = R := ⟨_, rfl⟩
  rw [hR] at HL ⊢
  clear hR
  unfold rrV at *
  cases R with
  | none =>
    go_enter Tryd.func21, Tryd.ntmps21
    go_wp2_with (go_at_call 47; refine (HL.out _).mono ?_; rintro e w1 ⟨rfl, b1⟩; simp only [intBool])
    go_ret2
    exact ⟨rfl, ((Below.refl _ w).alloc (Nat.le_refl _) _).trans (b1.mono (by simp))⟩
  | some x =>
    go_enter Tryd.func21, Tryd.ntmps21
    go_wp2_with (go_at_call 47; refine (HL.out _).mono ?_; rintro e w1 ⟨rfl, b1⟩; simp only [intBool])
    go_ret2
    exact ⟨rfl, ((Below.refl _ w).alloc (Nat.le_refl _) _).trans (b1.mono (by simp))⟩

set_option maxRecDepth 100000 in
set_option maxHeartbeats 1000000 in
theorem minimum_any (r : Rd.RR) (w : World) (hd : r.data.length ≤ 100000) :
    Calls Tryd.prog 23 #[rrV r] w fun e w' => e = .returned (intBool (Rd.lastFour 6 r)) ∧ Below w.heap.size w w' := by
  have hL := fun W => lastFour_any 6 r W (by omega) hd
  have HL := Lib.hid hL
  clear hL
  obtain ⟨R, hR⟩ : ∃ R, Rd.lastFour 6 r = R := ⟨_, rfl⟩
  rw [hR] at HL ⊢
  clear hR
  unfold rrV at *
  cases R with
  | none =>
    go_enter Tryd.func23, Tryd.ntmps23
    go_wp2_with (go_at_call 47; refine (HL.out _).mono ?_; rintro e w1 ⟨rfl, b1⟩; simp only [intBool])
    go_ret2
    exact ⟨rfl, ((Below.refl _ w).alloc (Nat.le_refl _) _).trans (b1.mono (by simp))⟩
  | some x =>
    go_enter Tryd.func23, Tryd.ntmps23
    go_wp2_with (go_at_call 47; refine (HL.out _).mono ?_; rintro e w1 ⟨rfl, b1⟩; simp only [intBool])
    go_ret2
    exact ⟨rfl, ((Below.refl _ w).alloc (Nat.le_refl _) _).trans (b1.mono (by simp))⟩

namespace Rd
theorem dataOk_a (d : List UInt8) : dataOk 1 d = decide (d.length = 4) := by
  by_cases hl : 1000 < d.length
  · rw [dataOk_long hl, eq_comm, decide_eq_false_iff_not]; omega
  · unfold dataOk
    rw [parts_plain (a := 4) rfl (by decide) hl]
    by_cases h : d.length = 4
    · rw [if_pos h.symm]; simp [h]
    · rw [if_neg (fun e => h e.symm)]; simp [h]
theorem four_of {q : List UInt8} (h : q.length = 4) : ∃ a b c d, q = [a, b, c, d] ∧ number q = num4 a b c d := by
  match q, h with
  | [a, b, c, d], _ => exact ⟨a, b, c, d, rfl, rfl⟩
end Rd

set_option maxRecDepth 100000 in
set_option maxHeartbeats 1000000 in
theorem raddr_any (r : Rd.RR) (w : World) (hd : r.data.length ≤ 100000) :
    Calls Tryd.prog 22 #[rrV r] w fun e w' => e = .returned (intBool (Rd.lastFour 1 r)) ∧ Below w.heap.size w w' := by
  by_cases hty : r.typ = 1
  · by_cases h4 : r.data.length = 4
    · have H := Lib.hid (Rd.lastFour_yes hty (by rw [Rd.dataOk_a, h4]; rfl))
      obtain ⟨a, b, c, e, hq, hn⟩ := Rd.four_of h4
      obtain ⟨n, t', c', l, d⟩ := r
      simp only at *
      subst hq hty
      have HN : Hid (Rd.lastFour 1 ⟨n, 1, c', l, [a, b, c, e]⟩ = some (Rd.num4 a b c e)) := Lib.hid (by rw [H.out]; rfl)
      unfold rrV
      clear H hn h4 hd
      go_enter Tryd.func22, Tryd.ntmps22
      go_wp2_with (go_at_call 48; refine (number_any a b c e _).mono ?_; rintro e w1 ⟨rfl, b1⟩; replace b1 := ((Below.refl _ w).alloc (Nat.le_refl _) _).trans b1.below)
      go_ret2
      exact ⟨by rw [HN.out]; rfl, b1⟩
    · have H := Lib.hid (Rd.lastFour_no (t := 1) (r := r) (.inr (by rw [Rd.dataOk_a]; simpa using h4)))
      obtain ⟨n, t', c, l, d⟩ := r
      simp only at *
      subst hty
      unfold rrV
      have hq : ((d.length : Int) != 4) = true := by rw [bne_iff_ne]; omega
      clear h4
      go_enter Tryd.func22, Tryd.ntmps22
      go_wp2
      go_ret2
      exact ⟨by rw [H.out]; rfl, (Below.refl _ w).alloc (Nat.le_refl _) _⟩
  · have H := Lib.hid (Rd.lastFour_no (t := 1) (r := r) (.inl hty))
    obtain ⟨n, t', c, l, d⟩ := r
    simp only at *
    unfold rrV
    have hq : ((t' : Int) != 1) = true := by rw [bne_iff_ne]; exact hty
    clear hty
    go_enter Tryd.func22, Tryd.ntmps22
    go_wp2
    go_ret2
    exact ⟨by rw [H.out]; rfl, (Below.refl _ w).alloc (Nat.le_refl _) _⟩

set_option maxRecDepth 100000 in
set_option maxHeartbeats 1000000 in
theorem rminimum_any (r : Rd.RR) (w : World) (hd : r.data.length ≤ 100000) :
    Calls Tryd.prog 24 #[rrV r] w fun e w' => e = .returned (intBool (Rd.lastFour 6 r)) ∧ Below w.heap.size w w' := by
  have hno := Rd.lastFour_no (t := 6) (r := r)
  have hyes := Rd.lastFour_yes (t := 6) (r := r)
  obtain ⟨n, t, c, l, d⟩ := r
  simp only at *
  obtain ⟨R, hR⟩ : ∃ R, Rd.lastFour 6 ⟨n, t, c, l, d⟩ = R := ⟨_, rfl⟩
  rw [hR] at hno hyes ⊢
  clear hR
  unfold rrV
  obtain ⟨y, hy⟩ : ∃ y, Rd.dataOk t d = y := ⟨_, rfl⟩
  cases y
  · have H : Hid (R = none) := Lib.hid (hno (by
      by_cases e : t = 6
      · subst e; exact .inr hy
      · exact .inl e))
    have HY := Lib.hid hy
    clear hno hyes hy
    go_enter Tryd.func24, Tryd.ntmps24
    go_wp2_with (go_at_call 10; refine (rparts_any _ d _ hd).mono ?_; rintro e w1 ⟨v, rfl, _, b1⟩; rw [HY.out])
    go_ret2
    exact ⟨by rw [H.out]; rfl, ((Below.refl _ w).alloc (Nat.le_refl _) _).trans (b1.mono (by simp))⟩
  · by_cases hty : t = 6
    · subst hty
      have H := Lib.hid (hyes rfl hy)
      obtain ⟨h4, h1000⟩ := Rd.dataOk_four (.inr rfl) hy
      obtain ⟨q, hq⟩ : ∃ q, d.drop (d.length - 4) = q := ⟨_, rfl⟩
      have hql : q.length = 4 := by rw [← hq, List.length_drop]; omega
      obtain ⟨a, b, c', e, hqe, hn⟩ := Rd.four_of hql
      have hsl := fun W => run_from (P := Tryd.prog) Tryd.underlying9 (l := d) (l' := [a, b, c', e]) (lo := (d.length : Int) - 4) (by omega) (by omega) (by rw [← hqe, ← hq]; congr 1; omega) W
      have HN : Hid (R = some (Rd.num4 a b c' e)) := Lib.hid (by rw [H.out, hq, hn])
      have HY := Lib.hid hy
      clear hno hyes hy hq hql hqe hn H
      go_enter Tryd.func24, Tryd.ntmps24
      go_wp2_with (first
        | (go_at_call 10; refine (rparts_any _ d _ hd).mono ?_; rintro e1 w1 ⟨v, rfl, _, b1⟩; rw [HY.out]; obtain ⟨hc, hf⟩ := bcell b1; have hz : w.heap.size < w1.heap.size := Nat.lt_of_lt_of_le (by simp) b1.size; replace b1 := ((Below.refl _ w).alloc (Nat.le_refl _) _).trans (b1.mono (by simp)))
        | (go_at_call 48; refine (number_any a b c' e _).mono ?_; rintro e2 w2 ⟨rfl, b2⟩; replace b1 := b1.trans b2.below))
      go_ret2
      exact ⟨by rw [HN.out]; rfl, b1⟩
    · have H : Hid (R = none) := Lib.hid (hno (.inl hty))
      have HY := Lib.hid hy
      have hq : ((t : Int) != 6) = true := by rw [bne_iff_ne]; exact hty
      clear hno hyes hy hty
      go_enter Tryd.func24, Tryd.ntmps24
      go_wp2_with (go_at_call 10; refine (rparts_any _ d _ hd).mono ?_; rintro e1 w1 ⟨v, rfl, _, b1⟩; rw [HY.out]; obtain ⟨hc, hf⟩ := bcell b1; have hz : w.heap.size < w1.heap.size := Nat.lt_of_lt_of_le (by simp) b1.size; replace b1 := ((Below.refl _ w).alloc (Nat.le_refl _) _).trans (b1.mono (by simp)))
      go_ret2
      exact ⟨by rw [H.out]; rfl, b1⟩
end Go.Proofs.YtnnoooecbbkggaaDoor
