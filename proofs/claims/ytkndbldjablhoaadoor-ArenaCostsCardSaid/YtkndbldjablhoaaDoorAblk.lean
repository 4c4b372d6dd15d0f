/- block, Size, Used, Left, Budget, span. -/
import Derived.Test.YtkndbldjablhoaaDoorAslide
set_option maxRecDepth 100000
namespace Go.Proofs.YtkndbldjablhoaaDoor
open Go.RowKit Go.Shelf
namespace Ar
structure Sane (S : St) : Prop where
  mem : S.mem.length ≤ 1048576
  pl : S.pl.length ≤ 1000000
  plus : S.pl.length = 64 * S.us.length
  us : ∀ x ∈ S.us, x < 18446744073709551616
  place : ∀ x ∈ S.pl, x ≤ 1048576
  used : S.used ≤ S.mem.length
  low : S.low ≤ 1000000
end Ar
/-- The pointer that is no arena. -/
def nilA : Value := .pointer none
set_option maxHeartbeats 1000000 in
theorem block_any (A : Nat) (L : Loc) (S : Ar.St) (f : Nat → Prop) (h : Int) (w : World) (hA : ArE A L S f w) (hs : Ar.Sane S) :
    Calls Tryd.prog 37 #[.pointer (some ⟨A, 0, none⟩), .int .i64 h] w fun e w' => (match Ar.PlaceOf S h with | some a => e = .returned (.tuple #[.int .i64 (a : Int), .bool true]) | none => e = .returned (.tuple #[.int .i64 0, .bool false])) ∧ ∃ n, w' = w.drewN n := by
  have hp := place_any A L S f h w hA hs.pl hs.plus hs.us hs.place
  have HP := Lib.hid hp
  clear hp
  cases hq : Ar.PlaceOf S h with
  | none =>
    rw [hq] at HP
    go_enter Tryd.func37, Tryd.ntmps37
    go_wp2_with (go_at_call 60; (refine HP.out.mono ?_); rintro e w' ⟨rfl, n, rfl⟩; unfold optV encI)
    go_ret2
    exact ⟨rfl, _, rfl⟩
  | some a =>
    rw [hq] at HP
    go_enter Tryd.func37, Tryd.ntmps37
    go_wp2_with (go_at_call 60; (refine HP.out.mono ?_); rintro e w' ⟨rfl, n, rfl⟩; unfold optV encI)
    go_ret2
    exact ⟨rfl, _, rfl⟩
theorem block_none (A : Nat) (L : Loc) (S : Ar.St) (f : Nat → Prop) (h : Int) (w : World) (hA : ArE A L S f w) (hs : Ar.Sane S) (hq : Ar.PlaceOf S h = none) :
    Calls Tryd.prog 37 #[.pointer (some ⟨A, 0, none⟩), .int .i64 h] w fun e w' => e = .returned (.tuple #[.int .i64 0, .bool false]) ∧ ∃ n, w' = w.drewN n := by
  have := block_any A L S f h w hA hs
  rw [hq] at this
  exact this
theorem block_some (A : Nat) (L : Loc) (S : Ar.St) (f : Nat → Prop) (h : Int) (a : Nat) (w : World) (hA : ArE A L S f w) (hs : Ar.Sane S) (hq : Ar.PlaceOf S h = some a) :
    Calls Tryd.prog 37 #[.pointer (some ⟨A, 0, none⟩), .int .i64 h] w fun e w' => e = .returned (.tuple #[.int .i64 (a : Int), .bool true]) ∧ ∃ n, w' = w.drewN n := by
  have := block_any A L S f h w hA hs
  rw [hq] at this
  exact this
set_option maxHeartbeats 1000000 in
theorem block_nil (h : Int) (w : World) : Calls Tryd.prog 37 #[.pointer none, .int .i64 h] w fun e w' => e = .returned (.tuple #[.int .i64 0, .bool false]) ∧ w = w' := by
  go_enter Tryd.func37, Tryd.ntmps37
  go_wp2
  go_ret2
  exact ⟨rfl, rfl⟩
set_option maxHeartbeats 1000000 in
theorem used_any (A : Nat) (L : Loc) (S : Ar.St) (f : Nat → Prop) (w : World) (hA : ArE A L S f w) : Calls Tryd.prog 27 #[.pointer (some ⟨A, 0, none⟩)] w fun e w' => e = .returned (.int .i64 (S.used : Int)) ∧ w = w' := by
  have hc := hA.cells.2.1
  unfold encI at hc
  go_enter Tryd.func27, Tryd.ntmps27
  go_wp2
  go_ret
  exact ⟨rfl, rfl⟩
set_option maxHeartbeats 1000000 in
theorem used_nil (w : World) : Calls Tryd.prog 27 #[.pointer none] w fun e w' => e = .returned (.int .i64 0) ∧ w = w' := by
  go_enter Tryd.func27, Tryd.ntmps27
  go_wp2
  go_ret
  exact ⟨rfl, rfl⟩
set_option maxHeartbeats 1000000 in
theorem budget_any (A : Nat) (L : Loc) (S : Ar.St) (f : Nat → Prop) (w : World) (hA : ArE A L S f w) : Calls Tryd.prog 47 #[.pointer (some ⟨A, 0, none⟩)] w fun e w' => e = .returned (.int .i64 (S.mem.length : Int)) ∧ w = w' := by
  have hc := hA.cells.1
  go_enter Tryd.func47, Tryd.ntmps47
  go_wp2
  go_ret
  exact ⟨rfl, rfl⟩
set_option maxHeartbeats 1000000 in
theorem budget_nil (w : World) : Calls Tryd.prog 47 #[.pointer none] w fun e w' => e = .returned (.int .i64 0) ∧ w = w' := by
  go_enter Tryd.func47, Tryd.ntmps47
  go_wp2
  go_ret
  exact ⟨rfl, rfl⟩
set_option maxHeartbeats 1000000 in
theorem left_any (A : Nat) (L : Loc) (S : Ar.St) (f : Nat → Prop) (w : World) (hA : ArE A L S f w) (hm : S.mem.length ≤ 1048576) (hu : S.used ≤ S.mem.length) : Calls Tryd.prog 25 #[.pointer (some ⟨A, 0, none⟩)] w fun e w' => e = .returned (.int .i64 ((S.mem.length - S.used : Nat) : Int)) ∧ w = w' := by
  have HA := Lib.hid hA
  clear hA
  go_enter Tryd.func25, Tryd.ntmps25
  go_wp2_with (first
    | (go_at_call 47; (with_reducible refine (budget_any A L S f _ HA.out).mono ?_); rintro e w' ⟨rfl, rfl⟩)
    | (go_at_call 27; (with_reducible refine (used_any A L S f _ HA.out).mono ?_); rintro e w' ⟨rfl, rfl⟩))
  go_ret
  exact ⟨ret_int (by omega), rfl⟩
set_option maxHeartbeats 1000000 in
theorem left_nil (w : World) : Calls Tryd.prog 25 #[.pointer none] w fun e w' => e = .returned (.int .i64 0) ∧ w = w' := by
  go_enter Tryd.func25, Tryd.ntmps25
  go_wp2_with (first
    | (go_at_call 47; (with_reducible refine (budget_nil _).mono ?_); rintro e w' ⟨rfl, rfl⟩)
    | (go_at_call 27; (with_reducible refine (used_nil _).mono ?_); rintro e w' ⟨rfl, rfl⟩))
  go_ret
  exact ⟨rfl, rfl⟩
theorem below_drewn {w w' : World} {n : Nat} (h : Below (w.drewN n).heap.size (w.drewN n) w') : Below w.heap.size w w' := ⟨h.os, h.tape, h.output, h.size, fun k hk => h.block k hk⟩
theorem field_head (p : Ar.Head) (w : World) : (Instr.field 76 (.agg #[.bool p.free, .int .i64 (p.owner : Int), .int .i64 (p.size : Int), .int .i64 (p.ahead : Int)]) 2).run Tryd.prog w = .ok (.int .i64 (p.size : Int)) w := by kernel_rfl
set_option maxHeartbeats 1000000 in
theorem size_some (A : Nat) (L : Loc) (S : Ar.St) (f : Nat → Prop) (h : Int) (a : Nat) (p : Ar.Head) (w : World) (hA : ArE A L S f w) (hs : Ar.Sane S) (hq : Ar.PlaceOf S h = some a) (ha : a + 8 ≤ S.mem.length) (hp : Ar.headAt S.mem a = p) :
    Calls Tryd.prog 28 #[.pointer (some ⟨A, 0, none⟩), .int .i64 h] w fun e w' => e = .returned (.tuple #[.int .i64 (p.size : Int), .bool true]) ∧ Below w.heap.size w w' := by
  have hfd := field_head p
  have HA := Lib.hid hA
  clear hA
  have HQ := Lib.hid hq
  have HP := Lib.hid hp
  clear hq hp
  go_enter Tryd.func28, Tryd.ntmps28
  go_wp2_with (first
    | (go_at_call 37; (with_reducible refine (block_some A L S f h a _ HA.out hs HQ.out).mono ?_); rintro e w' ⟨rfl, n, rfl⟩)
    | (go_at_call 38; (with_reducible refine (head_agg A L S f _ a p _ rfl (HA.out.drew _) hs.mem ha HP.out).mono ?_); rintro e w' ⟨rfl, hb⟩))
  go_ret2
  exact ⟨rfl, below_drewn hb⟩
set_option maxHeartbeats 1000000 in
theorem size_none (A : Nat) (L : Loc) (S : Ar.St) (f : Nat → Prop) (h : Int) (w : World) (hA : ArE A L S f w) (hs : Ar.Sane S) (hq : Ar.PlaceOf S h = none) :
    Calls Tryd.prog 28 #[.pointer (some ⟨A, 0, none⟩), .int .i64 h] w fun e w' => e = .returned (.tuple #[.int .i64 0, .bool false]) ∧ ∃ n, w' = w.drewN n := by
  have HA := Lib.hid hA
  clear hA
  have HQ := Lib.hid hq
  clear hq
  go_enter Tryd.func28, Tryd.ntmps28
  go_wp2_with (first
    | (go_at_call 37; (with_reducible refine (block_none A L S f h _ HA.out hs HQ.out).mono ?_); rintro e w' ⟨rfl, n, rfl⟩))
  go_ret2
  exact ⟨rfl, _, rfl⟩
end Go.Proofs.YtkndbldjablhoaaDoor
