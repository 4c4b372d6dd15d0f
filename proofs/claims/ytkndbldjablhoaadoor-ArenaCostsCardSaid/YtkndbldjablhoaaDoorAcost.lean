/- Cost, classOf: numbers alone. -/
import Derived.Test.YtkndbldjablhoaaDoorAb
namespace Go.Proofs.YtkndbldjablhoaaDoor
open Go.RowKit Go.Shelf
namespace Ar
/-- What a block of n bytes takes. -/
def cost (n : Nat) : Nat := if n ≤ 8 then 16 else if n ≤ 24 then 32 else if n ≤ 56 then 64 else if n ≤ 120 then 128 else if n ≤ 248 then 256 else if n ≤ 504 then 512 else if n ≤ 1016 then 1024 else if n ≤ 2040 then 2048 else if n ≤ 4088 then 4096 else 8192
def costI (n : Int) : Nat := if 0 ≤ n ∧ n ≤ 4096 then cost n.toNat else 0
/-- The class of a piece of so many bytes. -/
def cls (s : Nat) : Nat := Lib.bitLen (s / 16) - 1
end Ar
theorem bitLenAux_le : ∀ (f x : Nat), Lib.bitLenAux f x ≤ f
  | 0, _ => Nat.le_refl _
  | f + 1, x => by
    unfold Lib.bitLenAux
    split
    · omega
    · have := bitLenAux_le f (x / 2); omega
/-- 2^(l-1) ≤ x < 2^l. -/
theorem bitLenAux_lo : ∀ (f x : Nat), x < 2 ^ f → x < 2 ^ Lib.bitLenAux f x
  | 0, x, h => by simpa [Lib.bitLenAux] using h
  | f + 1, x, h => by
    unfold Lib.bitLenAux
    split
    · rename_i h0; subst h0; simp
    · have := bitLenAux_lo f (x / 2) (by omega)
      rw [Nat.pow_add]; omega
theorem bitLenAux_hi : ∀ (f x : Nat), x ≠ 0 → x < 2 ^ f → 2 ^ (Lib.bitLenAux f x - 1) ≤ x
  | 0, x, h0, h => by simp at h; omega
  | f + 1, x, h0, h => by
    unfold Lib.bitLenAux
    rw [if_neg h0]
    by_cases h2 : x / 2 = 0
    · have : Lib.bitLenAux f (x / 2) = 0 := by
        rw [h2]; cases f <;> simp [Lib.bitLenAux]
      rw [this]; simp; omega
    · have := bitLenAux_hi f (x / 2) h2 (by omega)
      have h3 : 1 ≤ Lib.bitLenAux f (x / 2) := by
        cases f with
        | zero => simp at h; omega
        | succ f => unfold Lib.bitLenAux; rw [if_neg h2]; omega
      rw [show 1 + Lib.bitLenAux f (x / 2) - 1 = (Lib.bitLenAux f (x / 2) - 1) + 1 by omega, Nat.pow_succ]
      omega
theorem bitLen_lt {x : Nat} (h : x < 18446744073709551616) : x < 2 ^ Lib.bitLen x := bitLenAux_lo 64 x h
theorem le_bitLen {x : Nat} (h0 : x ≠ 0) (h : x < 18446744073709551616) : 2 ^ (Lib.bitLen x - 1) ≤ x := bitLenAux_hi 64 x h0 h
theorem bitLen_pos {x : Nat} (h0 : x ≠ 0) : 1 ≤ Lib.bitLen x := by unfold Lib.bitLen Lib.bitLenAux; rw [if_neg h0]; omega
theorem bitLen_eq {x k : Nat} (h1 : 2 ^ k ≤ x) (h2 : x < 2 ^ (k + 1)) (h : x < 18446744073709551616) : Lib.bitLen x = k + 1 := by
  have h0 : x ≠ 0 := by have := Nat.two_pow_pos k; omega
  have a := bitLen_lt h
  have b := le_bitLen h0 h
  have c := bitLen_pos h0
  have e1 : k < Lib.bitLen x := (Nat.pow_lt_pow_iff_right (by decide : 1 < 2)).1 (Nat.lt_of_le_of_lt h1 a)
  have e2 : Lib.bitLen x - 1 < k + 1 := (Nat.pow_lt_pow_iff_right (by decide : 1 < 2)).1 (Nat.lt_of_le_of_lt b h2)
  omega
namespace Ar
theorem cost_cases (n : Nat) (h : n ≤ 4096) : ∃ k, 4 ≤ k ∧ k ≤ 13 ∧ cost n = 2 ^ k ∧ n + 8 ≤ 2 ^ k ∧ (k = 4 ∨ 2 ^ k < 2 * (n + 8)) := by
  unfold cost
  split
  · exact ⟨4, by decide, by decide, by decide, by simp; omega, .inl rfl⟩
  split
  · exact ⟨5, by decide, by decide, by decide, by simp; omega, .inr (by simp; omega)⟩
  split
  · exact ⟨6, by decide, by decide, by decide, by simp; omega, .inr (by simp; omega)⟩
  split
  · exact ⟨7, by decide, by decide, by decide, by simp; omega, .inr (by simp; omega)⟩
  split
  · exact ⟨8, by decide, by decide, by decide, by simp; omega, .inr (by simp; omega)⟩
  split
  · exact ⟨9, by decide, by decide, by decide, by simp; omega, .inr (by simp; omega)⟩
  split
  · exact ⟨10, by decide, by decide, by decide, by simp; omega, .inr (by simp; omega)⟩
  split
  · exact ⟨11, by decide, by decide, by decide, by simp; omega, .inr (by simp; omega)⟩
  split
  · exact ⟨12, by decide, by decide, by decide, by simp; omega, .inr (by simp; omega)⟩
  · exact ⟨13, by decide, by decide, by decide, by simp; omega, .inr (by simp; omega)⟩
theorem cost_len (n : Nat) (h : n ≤ 4096) : max 16 (2 ^ Lib.bitLen (n + 7)) = cost n ∧ Lib.bitLen (n + 7) ≤ 13 := by
  obtain ⟨k, h1, h2, e, h3, h4⟩ := cost_cases n h
  rw [e]
  have hb : Lib.bitLen (n + 7) ≤ 13 := by
    have a := le_bitLen (x := n + 7) (by omega) (by omega)
    have : 2 ^ (Lib.bitLen (n + 7) - 1) < 2 ^ 13 := by
      have : (2 : Nat) ^ 13 = 8192 := by decide
      omega
    have := (Nat.pow_lt_pow_iff_right (by decide : 1 < 2)).1 this
    omega
  refine ⟨?_, hb⟩
  by_cases hk : k = 4
  · subst hk
    have : Lib.bitLen (n + 7) ≤ 4 := by
      have a := le_bitLen (x := n + 7) (by omega) (by omega)
      have : 2 ^ (Lib.bitLen (n + 7) - 1) < 2 ^ 4 := by simp at h3 ⊢; omega
      have := (Nat.pow_lt_pow_iff_right (by decide : 1 < 2)).1 this
      omega
    have : 2 ^ Lib.bitLen (n + 7) ≤ 2 ^ 4 := Nat.pow_le_pow_right (by decide) this
    simp at this ⊢; omega
  · have h4 := h4.resolve_left hk
    obtain ⟨j, rfl⟩ : ∃ j, k = j + 1 := ⟨k - 1, by omega⟩
    have := bitLen_eq (x := n + 7) (k := j) (by rw [Nat.pow_succ] at h4; omega) (by omega) (by omega)
    rw [this]
    have : 2 ^ 4 ≤ 2 ^ (j + 1) := Nat.pow_le_pow_right (by decide) h1
    simp at this ⊢; omega
theorem cost_ge (n : Nat) (h : n ≤ 4096) : n + 8 ≤ cost n ∧ 16 ≤ cost n ∧ cost n ≤ 8192 ∧ cost n % 16 = 0 := by
  unfold cost
  repeat' split
  all_goals omega
theorem cls_spec {s : Nat} (h1 : 16 ≤ s) (h2 : s ≤ 1048576) : 2 ^ (cls s) * 16 ≤ s ∧ s < 2 ^ (cls s + 1) * 16 ∧ cls s ≤ 16 := by
  unfold cls
  have h0 : s / 16 ≠ 0 := by omega
  have a := bitLen_lt (x := s / 16) (by omega)
  have b := le_bitLen h0 (by omega)
  have c := bitLen_pos h0
  rw [show Lib.bitLen (s / 16) - 1 + 1 = Lib.bitLen (s / 16) by omega]
  refine ⟨by omega, by omega, ?_⟩
  have : 2 ^ (Lib.bitLen (s / 16) - 1) < 2 ^ 17 := by
    have : (2 : Nat) ^ 17 = 131072 := by decide
    omega
  have := (Nat.pow_lt_pow_iff_right (by decide : 1 < 2)).1 this
  omega
theorem cls_cost {n : Nat} (h : n ≤ 4096) : 2 ^ cls (cost n) * 16 = cost n := by
  obtain ⟨k, h1, h2, e, _, _⟩ := cost_cases n h
  rw [e]
  unfold cls
  obtain ⟨j, rfl⟩ : ∃ j, k = j + 4 := ⟨k - 4, by omega⟩
  have hd : 2 ^ (j + 4) / 16 = 2 ^ j := by rw [Nat.pow_add]; simp
  have h3 : (2 : Nat) ^ j ≤ 2 ^ 9 := Nat.pow_le_pow_right (by decide) (by omega)
  have h4 : (2 : Nat) ^ 9 = 512 := by decide
  rw [hd, bitLen_eq (x := 2 ^ j) (k := j) (Nat.le_refl _) (by rw [Nat.pow_succ]; have := Nat.two_pow_pos j; omega) (by omega), Nat.pow_add]
  simp
/-- A piece of a class at least as high is large enough. -/
theorem cls_fits {n s : Nat} (h : n ≤ 4096) (h1 : 16 ≤ s) (h2 : s ≤ 1048576) (hc : cls (cost n) ≤ cls s) : cost n ≤ s := by
  have a := cls_cost h
  have b := (cls_spec h1 h2).1
  have c : 2 ^ cls (cost n) ≤ 2 ^ cls s := Nat.pow_le_pow_right (by decide) hc
  omega
theorem cls_mono {a b : Nat} (h1 : 16 ≤ a) (h : a ≤ b) (h2 : b ≤ 1048576) : cls a ≤ cls b := by
  have x := (cls_spec h1 (by omega)).1
  have y := (cls_spec (by omega) h2).2.1
  have : 2 ^ cls a < 2 ^ (cls b + 1) := by omega
  have := (Nat.pow_lt_pow_iff_right (by decide : 1 < 2)).1 this
  omega
end Ar
theorem len_any (x : Nat) (y : Int) (w : World) (h : x < 18446744073709551616) (hy : y = (x : Int)) : Calls Tryd.prog 49 #[.int .u64 y] w fun e w' => e = .returned (.int .i64 (Lib.bitLen x : Int)) ∧ w = w' := by
  subst hy
  have := Any.bits_Len Tryd.lays125 (x : Int) w (by omega) (by omega)
  refine Calls.mono this fun e w' ⟨h1, h2⟩ => ⟨by simpa using h1, h2.symm⟩
set_option maxHeartbeats 400000 in
theorem cost_any (n : Int) (w : World) : Calls Tryd.prog 26 #[.int .i64 n] w fun e w' => e = .returned (.int .i64 (Ar.costI n : Int)) ∧ w = w' := by
  unfold Ar.costI
  by_cases h : 0 ≤ n ∧ n ≤ 4096
  · obtain ⟨n, rfl⟩ := Int.eq_ofNat_of_zero_le h.1
    have hn : n ≤ 4096 := by omega
    rw [if_pos h]
    have hc := Ar.cost_len n hn
    have hl := Lib.hid hc.1
    have hb := hc.2
    clear hc h
    go_enter Tryd.func26, Tryd.ntmps26
    go_wp2_with (go_at_call 49; (with_reducible refine (len_any (n + 7) _ _ (by omega) (by omega)).mono ?_); rintro e w' ⟨rfl, rfl⟩)
    go_ret
    refine ⟨ret_int ?_, rfl⟩
    have hc := hl.out
    have h2 : (2 : Int) ^ Lib.bitLen (n + 7) = ((2 ^ Lib.bitLen (n + 7) : Nat) : Int) := by push_cast; rfl
    have h3 : 2 ^ Lib.bitLen (n + 7) ≤ 2 ^ 13 := Nat.pow_le_pow_right (by decide) hb
    rw [h2]
    generalize 2 ^ Lib.bitLen (n + 7) = m at hc h3 ⊢
    have h4 : wrap64 (m : Int) = m := by unfold wrap64; omega
    rw [h4, Int.toNat_natCast]
    omega
  · rw [if_neg h]
    go_enter Tryd.func26, Tryd.ntmps26
    by_cases h1 : n < 0
    · go_wp2
      go_ret
      exact ⟨rfl, rfl⟩
    · have h2 : 4096 < n := by omega
      go_wp2
      go_ret
      exact ⟨rfl, rfl⟩
set_option maxHeartbeats 400000 in
theorem classOf_any (s : Nat) (w : World) (h1 : 16 ≤ s) (h2 : s ≤ 1048576) : Calls Tryd.prog 53 #[.int .i64 (s : Int)] w fun e w' => e = .returned (.int .i64 (Ar.cls s : Int)) ∧ w = w' := by
  have hb : 1 ≤ Lib.bitLen (s / 16) := bitLen_pos (by omega)
  have hb2 : Lib.bitLen (s / 16) ≤ 64 := bitLenAux_le 64 _
  unfold Ar.cls
  go_enter Tryd.func53, Tryd.ntmps53
  go_wp2_with (go_at_call 49; (with_reducible refine (len_any (s / 16) _ _ (by omega) (by omega)).mono ?_); rintro e w' ⟨rfl, rfl⟩)
  go_ret
  exact ⟨ret_int (by omega), rfl⟩
end Go.Proofs.YtkndbldjablhoaaDoor
