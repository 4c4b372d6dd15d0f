/- head, putHead. -/
import Derived.Test.YtkndbldjablhoaaDoorArep
set_option maxRecDepth 100000
namespace Go.Proofs.YtkndbldjablhoaaDoor
open Go.RowKit Go.Shelf
namespace Ar
def headAt (mem : List UInt8) (a : Nat) : Head := headOf (wordOf ((mem.drop a).take 8))
end Ar
theorem word_step (x : Nat) (b : UInt8) (hx : x < 72057594037927936) : bits .or .u64 ((x : Int) * 256) (IntKind.u64.wrap (b.toNat : Int)) = ((x * 256 + b.toNat : Nat) : Int) := by
  have hb := UInt8.toNat_lt b
  have e : IntKind.u64.wrap (b.toNat : Int) = (b.toNat : Int) := by rw [IntKind.wrap_u64]; omega
  rw [e, show ((x : Int) * 256) = ((x * 256 : Nat) : Int) by push_cast; rfl, u64_or_nat _ _ (by omega) (by omega), nat_join 8 (x * 256) _ (by omega) (by omega)]
theorem and_low (y : Nat) (hy : y < 18446744073709551616) : wrap64 (bits .and .u64 (y : Int) 2097151) = ((y % 2097152 : Nat) : Int) := by
  have e : bits .and .u64 (y : Int) 2097151 = ((y % 2097152 : Nat) : Int) := by
    have := u64_and_nat y 2097151 hy (by decide)
    rw [show (2097151 : Nat) = 2 ^ 21 - 1 from rfl, Nat.and_two_pow_sub_one_eq_mod] at this
    exact this
  rw [e]
  unfold wrap64
  omega
theorem and_top (y : Nat) (hy : y < 18446744073709551616) : (bits .and .u64 (y : Int) 9223372036854775808 != 0) = decide (y / 9223372036854775808 % 2 = 1) := by
  have e : bits .and .u64 (y : Int) 9223372036854775808 = ((y / 9223372036854775808 % 2 * 9223372036854775808 : Nat) : Int) := by
    have := u64_and_nat y 9223372036854775808 hy (by decide)
    rw [show (9223372036854775808 : Nat) = 2 ^ 63 from rfl, nat_bit] at this
    exact this
  rw [e]
  have : y / 9223372036854775808 % 2 = 0 ∨ y / 9223372036854775808 % 2 = 1 := by omega
  rcases this with h | h <;> rw [h] <;> decide
theorem encH_of (x : Nat) (hx : x < 18446744073709551616) : Value.agg #[.bool (bits .and .u64 (x : Int) 9223372036854775808 != 0), .int .i64 (wrap64 (bits .and .u64 ((x : Int) / 4398046511104) 2097151)), .int .i64 (wrap64 (bits .and .u64 ((x : Int) / 2097152) 2097151)), .int .i64 (wrap64 (bits .and .u64 (x : Int) 2097151))] = encH (Ar.headOf x) := by
  rw [and_top x hx, and_low x hx, show ((x : Int) / 4398046511104) = ((x / 4398046511104 : Nat) : Int) from rfl, show ((x : Int) / 2097152) = ((x / 2097152 : Nat) : Int) from rfl, and_low _ (by omega), and_low _ (by omega)]
  rfl
theorem take_snocD {α : Type} (l : List α) (k : Nat) (h : k < l.length) : l.take (k + 1) = l.take k ++ [l[k]] := by
  rw [List.take_succ_eq_append_getElem h]
set_option maxHeartbeats 1000000 in
theorem head_any (A : Nat) (L : Loc) (S : Ar.St) (f : Nat → Prop) (a : Nat) (w : World) (h : ArE A L S f w) (hm : S.mem.length ≤ 1048576) (ha : a + 8 ≤ S.mem.length) :
    Calls Tryd.prog 38 #[.pointer (some ⟨A, 0, none⟩), .int .i64 (a : Int)] w fun e w' => e = .returned (encH (Ar.headAt S.mem a)) ∧ Below w.heap.size w w' := by
  have hc := h.cells.1
  have hAl := h.box.lt
  have hMl := h.mem.lt
  have hl8 : ((S.mem.drop a).take 8).length = 8 := by simp; omega
  unfold Ar.headAt
  have hcM : ∀ i, (hi : i < 8) → w.cell? ⟨L.M, a + i, none⟩ = some (.int .u8 ((((S.mem.drop a).take 8)[i]'(by rw [hl8]; exact hi)).toNat : Int)) := fun i hi => by
    rw [h.cellM (i := a + i) (by omega)]; simp
  generalize (S.mem.drop a).take 8 = l8 at hl8 hcM ⊢
  have HcM := Lib.hid hcM
  have Hl8 := Lib.hid hl8
  clear hcM
  go_enter Tryd.func38, Tryd.ntmps38
  go_wp2
  go_loop [5, 17] (fun x i => ∃ k : Nat, k ≤ 8 ∧ i = .int .i64 (k : Int) ∧ x = .int .u64 (Ar.wordOf (l8.take k) : Int)) (fun _ i => 8 - (intOf i).toNat)
  case atStart => exact ⟨0, by omega, rfl, rfl⟩
  case round =>
    obtain ⟨k, hk, rfl, rfl⟩ := hrel
    by_cases hlt : k < 8
    · have hcell := HcM.out k hlt
      have hlen := Hl8.out
      have hw := Ar.wordOf_lt (l8.take k)
      rw [List.length_take, hlen, Nat.min_eq_left (by omega)] at hw
      have hw2 : Ar.wordOf (l8.take k) < 72057594037927936 := Nat.lt_of_lt_of_le hw (Nat.le_trans (Nat.pow_le_pow_right (by decide) (show k ≤ 7 by omega)) (by decide))
      clear hlen hw
      go_wp2
      go_round
      case rel => exact ⟨k + 1, by omega, by go_num, by rw [word_step _ _ hw2, take_snocD l8 k (by have := Hl8.out; omega), Ar.wordOf_snoc]⟩
      case measure => simp [intOf]; omega
    · obtain rfl : k = 8 := by omega
      have htk : l8.take 8 = l8 := List.take_of_length_le (by have := Hl8.out; omega)
      have hw := Ar.wordOf_lt l8
      rw [Hl8.out] at hw
      rw [htk]
      generalize hx : Ar.wordOf l8 = x at hw ⊢
      have Hx := Lib.hid hx
      have HE := Lib.hid (encH_of x hw)
      clear hx
      clear htk HcM Hl8 hl8
      go_wp2
      exact bodyPost_ret (v := encH (Ar.headOf x)) (by rw [← HE.out]; simp [results, Tryd.results38, go_sem]) rfl ⟨by rw [Hx.out], (Below.refl _ _).alloc (Nat.le_refl _) _⟩
end Go.Proofs.YtkndbldjablhoaaDoor
