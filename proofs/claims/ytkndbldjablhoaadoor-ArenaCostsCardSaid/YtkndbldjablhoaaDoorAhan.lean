/- The table of handles. -/
import Derived.Test.YtkndbldjablhoaaDoorAput
set_option maxRecDepth 100000
namespace Go.Proofs.YtkndbldjablhoaaDoor
open Go.RowKit Go.Shelf
namespace Ar
/-- The bit of a handle. -/
def bitOn (us : List Nat) (h : Nat) : Bool := decide (us.getD ((h - 1) / 64) 0 / 2 ^ ((h - 1) % 64) % 2 = 1)
def bitOff (us : List Nat) (h : Nat) : List Nat := us.set ((h - 1) / 64) (us.getD ((h - 1) / 64) 0 &&& (18446744073709551615 - 2 ^ ((h - 1) % 64)))
end Ar
theorem ArE.setPl {A : Nat} {L : Loc} {S : Ar.St} {f : Nat → Prop} {w w' : World} (h : ArE A L S f w) {m : List Nat} (hm : Blk w' L.P (m.map encP) 21) (hl : m.length = S.pl.length) (hk : ∀ k, k ≠ L.P → k < w.heap.size → w'.heap[k]? = w.heap[k]?) (hs : w.heap.size ≤ w'.heap.size) : ArE A L { S with pl := m } f w' :=
  ⟨by
    have := h.box.kept (W' := w') (hk _ (h.box.ne h.pl (by decide)) h.box.lt)
    unfold arBox at this ⊢
    simp only [hl]
    exact this, h.mem.kept (hk _ (h.mem.ne h.pl (by decide)) h.mem.lt), hm, h.us.kept (hk _ (h.us.ne h.pl (by decide)) h.us.lt), h.nd.kept (hk _ (h.nd.ne h.pl (by decide)) h.nd.lt), h.cap, h.cm, h.fA, h.fM, h.fP, h.fU, h.fN, fun k e => Nat.lt_of_lt_of_le (h.fb k e) hs⟩
theorem ArE.setUs {A : Nat} {L : Loc} {S : Ar.St} {f : Nat → Prop} {w w' : World} (h : ArE A L S f w) {m : List Nat} (hm : Blk w' L.U (m.map encU) 87) (hl : m.length = S.us.length) (hk : ∀ k, k ≠ L.U → k < w.heap.size → w'.heap[k]? = w.heap[k]?) (hs : w.heap.size ≤ w'.heap.size) : ArE A L { S with us := m } f w' :=
  ⟨by
    have := h.box.kept (W' := w') (hk _ (h.box.ne h.us (by decide)) h.box.lt)
    unfold arBox at this ⊢
    simp only [hl]
    exact this, h.mem.kept (hk _ (h.mem.ne h.us (by decide)) h.mem.lt), h.pl.kept (hk _ (h.pl.ne h.us (by decide)) h.pl.lt), hm, h.nd.kept (hk _ (h.nd.ne h.us (by decide)) h.nd.lt), h.cap, h.cm, h.fA, h.fM, h.fP, h.fU, h.fN, fun k e => Nat.lt_of_lt_of_le (h.fb k e) hs⟩
/-- A store into the box. -/
theorem ArE.setBox {A : Nat} {L : Loc} {S S' : Ar.St} {f : Nat → Prop} {w : World} (h : ArE A L S f w) (i : Nat) (v : Value) (hb : (arBox L S).set i v = arBox L S') (e1 : S'.mem = S.mem) (e2 : S'.pl = S.pl) (e3 : S'.us = S.us) (e4 : S'.nd = S.nd) : ArE A L S' f (w.setCell ⟨A, i, none⟩ v) :=
  ⟨by rw [← hb]; exact h.box.set i v, by rw [e1]; exact h.mem.other (fun e => h.box.ne h.mem (by decide) e.symm) _ _, by rw [e2]; exact h.pl.other (fun e => h.box.ne h.pl (by decide) e.symm) _ _, by rw [e3]; exact h.us.other (fun e => h.box.ne h.us (by decide) e.symm) _ _, by rw [e4]; exact h.nd.other (fun e => h.box.ne h.nd (by decide) e.symm) _ _, by rw [e4]; exact h.cap, h.cm, h.fA, h.fM, h.fP, h.fU, h.fN, fun k e => by have := h.fb k e; simpa [World.setCell] using this⟩
theorem ArE.drew {A : Nat} {L : Loc} {S : Ar.St} {f : Nat → Prop} {w : World} (h : ArE A L S f w) (n : Nat) : ArE A L S f (w.drewN n) := ⟨h.box, h.mem, h.pl, h.us, h.nd, h.cap, h.cm, h.fA, h.fM, h.fP, h.fU, h.fN, h.fb⟩
theorem ArE.drw {A : Nat} {L : Loc} {S : Ar.St} {f : Nat → Prop} {w : World} (h : ArE A L S f w) : ArE A L S f w.drew := ⟨h.box, h.mem, h.pl, h.us, h.nd, h.cap, h.cm, h.fA, h.fM, h.fP, h.fU, h.fN, h.fb⟩
theorem Trn.drw {f : Nat → Prop} (W : World) : Trn f W W.drew := Trn.of_below ⟨rfl, rfl, rfl, Nat.le_refl _, fun _ _ => rfl⟩
theorem pow_lt64 {k : Nat} (h : k < 64) : 2 ^ k < 18446744073709551616 := Nat.lt_of_lt_of_le (Nat.pow_lt_pow_right (by decide) h) (by decide)
set_option maxHeartbeats 1000000 in
theorem bit_any (z : Int) (k : Nat) (w : World) (hz : z = (k : Int) + 1) (h2 : k ≤ 2000000) :
    Calls Tryd.prog 56 #[.int .i64 z] w fun e w' => ∃ m : Nat, Hid (m = 2 ^ (k % 64)) ∧ e = .returned (.tuple #[.int .i64 ((k / 64 : Nat) : Int), .int .u64 (m : Int)]) ∧ ∃ n, w' = w.drewN n := by
  subst hz
  have hp := pow_lt64 (Nat.mod_lt k (show 0 < 64 by decide))
  go_enter Tryd.func56, Tryd.ntmps56
  go_wp2
  go_quiet (fail)
  go_wp2
  go_ret2
  refine ⟨2 ^ (k % 64), Lib.hid rfl, ?_, _, rfl⟩
  have e2 : IntKind.u64.wrap (2 ^ (k % 64)) = ((2 ^ (k % 64) : Nat) : Int) := by
    rw [IntKind.wrap_u64, show (2 : Int) ^ (k % 64) = ((2 ^ (k % 64) : Nat) : Int) by simp]
    generalize 2 ^ (k % 64) = m at hp
    omega
  rw [← e2]
  rfl
set_option maxHeartbeats 1000000 in
theorem move_any (A : Nat) (L : Loc) (S : Ar.St) (f : Nat → Prop) (z : Int) (k place : Nat) (w : World) (hA : ArE A L S f w) (hz : z = (k : Int) + 1) (h2 : k < S.pl.length) (h3 : S.pl.length ≤ 1000000) (h4 : place ≤ 1048576) :
    Calls Tryd.prog 57 #[.pointer (some ⟨A, 2, none⟩), .int .i64 z, .int .i64 (place : Int)] w fun e w' => e = .returned (.tuple #[]) ∧ Trn f w w' ∧ ArE A L { S with pl := S.pl.set k place } f w' := by
  subst hz
  have hc := hA.cells.2.2.1
  have hx := hA.pl.cell (i := k) (v := encP (S.pl.getD k 0)) (by simp [show k < S.pl.length by omega])
  have hf := hA.pl.frozen k
  unfold encP at hx
  go_enter Tryd.func57, Tryd.ntmps57
  have hb := hA.pl.set k (encP place)
  have hk : (S.pl.map encP).set k (encP place) = (S.pl.set k place).map encP := List.map_set.symm
  rw [hk] at hb
  have ht : Trn f w (w.setCell ⟨L.P, k, none⟩ (encP place)) := Trn.set hA.pl hA.fP _ _
  have R := Lib.hid (And.intro ht (hA.setPl hb (by simp) (fun j hj _ => Below.heap_setCell w ⟨L.P, k, none⟩ _ j hj) (by simp [World.setCell])))
  clear hb ht hk
  unfold encP at R
  go_wp2
  go_end0
  exact ⟨rfl, R.out⟩
namespace Ar
def PlaceOf (S : St) (h : Int) : Option Nat := if 1 ≤ h ∧ h ≤ S.pl.length then if bitOn S.us h.toNat then some (S.pl.getD (h.toNat - 1) 0) else none else none
end Ar
def optV : Option Nat → Value
  | some x => .tuple #[encI x, .bool true]
  | none => .tuple #[encI 0, .bool false]
theorem bitOn_test (us : List Nat) (k x : Nat) (hx : us.getD (k / 64) 0 = x) (hx2 : x < 18446744073709551616) : (bits .and .u64 (x : Int) ((2 ^ (k % 64) : Nat) : Int) == 0) = !Ar.bitOn us (k + 1) := by
  have hp := pow_lt64 (Nat.mod_lt k (show 0 < 64 by decide))
  unfold Ar.bitOn
  rw [Nat.add_sub_cancel, hx, u64_and_nat _ _ hx2 hp, nat_bit]
  have : x / 2 ^ (k % 64) % 2 = 0 ∨ x / 2 ^ (k % 64) % 2 = 1 := by omega
  have hp0 := Nat.two_pow_pos (k % 64)
  rcases this with h | h <;> rw [h]
  · simp
  · rw [Nat.one_mul]
    generalize 2 ^ (k % 64) = m at hp hp0
    rw [show ((m : Int) == 0) = false by rw [beq_eq_false_iff_ne]; omega]
    rfl
set_option maxHeartbeats 2000000 in
theorem place_any (A : Nat) (L : Loc) (S : Ar.St) (f : Nat → Prop) (h : Int) (w : World) (hA : ArE A L S f w) (h3 : S.pl.length ≤ 1000000) (h4 : S.pl.length = 64 * S.us.length) (h5 : ∀ x ∈ S.us, x < 18446744073709551616) (h6 : ∀ x ∈ S.pl, x ≤ 1048576) :
    Calls Tryd.prog 60 #[.pointer (some ⟨A, 2, none⟩), .int .i64 h] w fun e w' => e = .returned (optV (Ar.PlaceOf S h)) ∧ ∃ n, w' = w.drewN n := by
  have hc := hA.cells.2.2.1
  have hc3 := hA.cells.2.2.2.1
  unfold Ar.PlaceOf
  by_cases hh : 1 ≤ h ∧ h ≤ S.pl.length
  · rw [if_pos hh]
    obtain ⟨k, rfl⟩ : ∃ k : Nat, h = ((k + 1 : Nat) : Int) := ⟨h.toNat - 1, by omega⟩
    have hk : k < S.pl.length := by omega
    have hk2 : k / 64 < S.us.length := by omega
    have hx := hA.pl.cell (i := k) (v := encP (S.pl.getD k 0)) (by simp [hk])
    have hu := hA.us.cell (i := k / 64) (v := encU (S.us.getD (k / 64) 0)) (by simp [hk2])
    have hu64 : S.us.getD (k / 64) 0 < 18446744073709551616 := by simp only [List.getD, List.getElem?_eq_getElem hk2, Option.getD_some]; exact h5 _ (List.getElem_mem hk2)
    have hx6 : S.pl.getD k 0 ≤ 1048576 := by simp only [List.getD, List.getElem?_eq_getElem hk, Option.getD_some]; exact h6 _ (List.getElem_mem hk)
    unfold encP at hx
    unfold encU at hu
    have H4 := Lib.hid h4
    clear h4
    have hbt : ∀ m : Nat, m = 2 ^ (k % 64) → (bits .and .u64 ((S.us.getD (k / 64) 0 : Nat) : Int) (m : Int) == 0) = !Ar.bitOn S.us (k + 1) := fun m e => e ▸ bitOn_test S.us k _ rfl hu64
    have hg : ¬ ((S.pl.length : Int) < ((k + 1 : Nat) : Int)) := by omega
    have hn1 : ¬ (((k + 1 : Nat) : Int) < 1) := by omega
    rw [Int.toNat_natCast]
    generalize S.us.getD (k / 64) 0 = x at hu hu64 hbt
    rw [Nat.add_sub_cancel]
    generalize S.pl.getD k 0 = y at hx hx6 ⊢
    have HBT := Lib.hid hbt
    clear hbt
    by_cases hb : Ar.bitOn S.us (k + 1) = true
    · rw [if_pos hb]
      rw [hb] at HBT
      go_enter Tryd.func60, Tryd.ntmps60
      go_wp2_with (go_at_call 56; (with_reducible refine (bit_any _ k _ rfl (by omega)).mono ?_); rintro e w' ⟨m, hm, rfl, n, rfl⟩; have hbm := HBT.out m hm.out)
      go_ret2
      exact ⟨rfl, _, rfl⟩
    · rw [if_neg hb]
      rw [eq_false_of_ne_true hb] at HBT
      go_enter Tryd.func60, Tryd.ntmps60
      go_wp2_with (go_at_call 56; (with_reducible refine (bit_any _ k _ rfl (by omega)).mono ?_); rintro e w' ⟨m, hm, rfl, n, rfl⟩; have hbm := HBT.out m hm.out)
      go_ret2
      exact ⟨rfl, _, rfl⟩
  · rw [if_neg hh]
    go_enter Tryd.func60, Tryd.ntmps60
    by_cases h1 : h < 1
    · go_wp2
      go_ret2
      exact ⟨rfl, 0, rfl⟩
    · have h2 : (S.pl.length : Int) < h := by omega
      go_wp2
      go_ret2
      exact ⟨rfl, 0, rfl⟩
end Go.Proofs.YtkndbldjablhoaaDoor
