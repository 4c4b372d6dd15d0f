/- 4 texts put together: Ablk, Hnm, Invm, Freem. -/
import Derived.Test.YtdbaocphglijbaaDoorJB8
import Derived.Test.YtdbaocphglijbaaDoorJB9
/- block, Size, Used, Left, Budget, span. -/
set_option maxRecDepth 100000
namespace Go.Proofs.YtdbaocphglijbaaDoor
open Go.RowKit Go.Shelf
namespace Ar
structure Sane (S : St) : Prop where
  mem : S.mem.length ≤ 1048576
  pl : S.pl.length ≤ 1000000
  plus : S.pl.length = 64 * S.us.length
  us : ∀ x ∈ S.us, x < 18446744073709551616
  place : ∀ x ∈ S.pl, x ≤ 1048576
  used : S.used ≤ S.mem.length
  low : S.low ≤ 1000000
end Ar
/-- The pointer that is no arena. -/
def nilA : Value := .pointer none
set_option maxHeartbeats 1000000 in
theorem block_any (A : Nat) (L : Loc) (S : Ar.St) (f : Nat → Prop) (h : Int) (w : World) (hA : ArE A L S f w) (hs : Ar.Sane S) :
    Calls Tryd.prog 58 #[.pointer (some ⟨A, 0, none⟩), .int .i64 h] w fun e w' => (match Ar.PlaceOf S h with | some a => e = .returned (.tuple #[.int .i64 (a : Int), .bool true]) | none => e = .returned (.tuple #[.int .i64 0, .bool false])) ∧ ∃ n, w' = w.drewN n := by
  have hp := place_any A L S f h w hA hs.pl hs.plus hs.us hs.place
  have HP := Lib.hid hp
  clear hp
  cases hq : Ar.PlaceOf S h with
  | none =>
    rw [hq] at HP
    go_enter Tryd.func58, Tryd.ntmps58
    go_wp2_with (go_at_call 92; (refine HP.out.mono ?_); rintro e w' ⟨rfl, n, rfl⟩; unfold optV encI)
    go_ret2
    exact ⟨rfl, _, rfl⟩
  | some a =>
    rw [hq] at HP
    go_enter Tryd.func58, Tryd.ntmps58
    go_wp2_with (go_at_call 92; (refine HP.out.mono ?_); rintro e w' ⟨rfl, n, rfl⟩; unfold optV encI)
    go_ret2
    exact ⟨rfl, _, rfl⟩
theorem block_none (A : Nat) (L : Loc) (S : Ar.St) (f : Nat → Prop) (h : Int) (w : World) (hA : ArE A L S f w) (hs : Ar.Sane S) (hq : Ar.PlaceOf S h = none) :
    Calls Tryd.prog 58 #[.pointer (some ⟨A, 0, none⟩), .int .i64 h] w fun e w' => e = .returned (.tuple #[.int .i64 0, .bool false]) ∧ ∃ n, w' = w.drewN n := by
  have := block_any A L S f h w hA hs
  rw [hq] at this
  exact this
theorem block_some (A : Nat) (L : Loc) (S : Ar.St) (f : Nat → Prop) (h : Int) (a : Nat) (w : World) (hA : ArE A L S f w) (hs : Ar.Sane S) (hq : Ar.PlaceOf S h = some a) :
    Calls Tryd.prog 58 #[.pointer (some ⟨A, 0, none⟩), .int .i64 h] w fun e w' => e = .returned (.tuple #[.int .i64 (a : Int), .bool true]) ∧ ∃ n, w' = w.drewN n := by
  have := block_any A L S f h w hA hs
  rw [hq] at this
  exact this
set_option maxHeartbeats 1000000 in
theorem block_nil (h : Int) (w : World) : Calls Tryd.prog 58 #[.pointer none, .int .i64 h] w fun e w' => e = .returned (.tuple #[.int .i64 0, .bool false]) ∧ w = w' := by
  go_enter Tryd.func58, Tryd.ntmps58
  go_wp2
  go_ret2
  exact ⟨rfl, rfl⟩
set_option maxHeartbeats 1000000 in
theorem used_any (A : Nat) (L : Loc) (S : Ar.St) (f : Nat → Prop) (w : World) (hA : ArE A L S f w) : Calls Tryd.prog 31 #[.pointer (some ⟨A, 0, none⟩)] w fun e w' => e = .returned (.int .i64 (S.used : Int)) ∧ w = w' := by
  have hc := hA.cells.2.1
  unfold encI at hc
  go_enter Tryd.func31, Tryd.ntmps31
  go_wp2
  go_ret
  exact ⟨rfl, rfl⟩
set_option maxHeartbeats 1000000 in
theorem used_nil (w : World) : Calls Tryd.prog 31 #[.pointer none] w fun e w' => e = .returned (.int .i64 0) ∧ w = w' := by
  go_enter Tryd.func31, Tryd.ntmps31
  go_wp2
  go_ret
  exact ⟨rfl, rfl⟩
set_option maxHeartbeats 1000000 in
theorem budget_any (A : Nat) (L : Loc) (S : Ar.St) (f : Nat → Prop) (w : World) (hA : ArE A L S f w) : Calls Tryd.prog 68 #[.pointer (some ⟨A, 0, none⟩)] w fun e w' => e = .returned (.int .i64 (S.mem.length : Int)) ∧ w = w' := by
  have hc := hA.cells.1
  go_enter Tryd.func68, Tryd.ntmps68
  go_wp2
  go_ret
  exact ⟨rfl, rfl⟩
set_option maxHeartbeats 1000000 in
theorem budget_nil (w : World) : Calls Tryd.prog 68 #[.pointer none] w fun e w' => e = .returned (.int .i64 0) ∧ w = w' := by
  go_enter Tryd.func68, Tryd.ntmps68
  go_wp2
  go_ret
  exact ⟨rfl, rfl⟩
set_option maxHeartbeats 1000000 in
theorem left_any (A : Nat) (L : Loc) (S : Ar.St) (f : Nat → Prop) (w : World) (hA : ArE A L S f w) (hm : S.mem.length ≤ 1048576) (hu : S.used ≤ S.mem.length) : Calls Tryd.prog 29 #[.pointer (some ⟨A, 0, none⟩)] w fun e w' => e = .returned (.int .i64 ((S.mem.length - S.used : Nat) : Int)) ∧ w = w' := by
  have HA := Lib.hid hA
  clear hA
  go_enter Tryd.func29, Tryd.ntmps29
  go_wp2_with (first
    | (go_at_call 68; (with_reducible refine (budget_any A L S f _ HA.out).mono ?_); rintro e w' ⟨rfl, rfl⟩)
    | (go_at_call 31; (with_reducible refine (used_any A L S f _ HA.out).mono ?_); rintro e w' ⟨rfl, rfl⟩))
  go_ret
  exact ⟨ret_int (by omega), rfl⟩
set_option maxHeartbeats 1000000 in
theorem left_nil (w : World) : Calls Tryd.prog 29 #[.pointer none] w fun e w' => e = .returned (.int .i64 0) ∧ w = w' := by
  go_enter Tryd.func29, Tryd.ntmps29
  go_wp2_with (first
    | (go_at_call 68; (with_reducible refine (budget_nil _).mono ?_); rintro e w' ⟨rfl, rfl⟩)
    | (go_at_call 31; (with_reducible refine (used_nil _).mono ?_); rintro e w' ⟨rfl, rfl⟩))
  go_ret
  exact ⟨rfl, rfl⟩
theorem below_drewn {w w' : World} {n : Nat} (h : Below (w.drewN n).heap.size (w.drewN n) w') : Below w.heap.size w w' := ⟨h.os, h.tape, h.output, h.size, fun k hk => h.block k hk⟩
theorem field_head (p : Ar.Head) (w : World) : (Instr.field 98 (.agg #[.bool p.free, .bool p.marked, .int .i64 (p.owner : Int), .int .i64 (p.size : Int), .int .i64 (p.ahead : Int)]) 3).run Tryd.prog w = .ok (.int .i64 (p.size : Int)) w := by kernel_rfl
set_option maxHeartbeats 1000000 in
theorem size_some (A : Nat) (L : Loc) (S : Ar.St) (f : Nat → Prop) (h : Int) (a : Nat) (p : Ar.Head) (w : World) (hA : ArE A L S f w) (hs : Ar.Sane S) (hq : Ar.PlaceOf S h = some a) (ha : a + 8 ≤ S.mem.length) (hp : Ar.headAt S.mem a = p) :
    Calls Tryd.prog 32 #[.pointer (some ⟨A, 0, none⟩), .int .i64 h] w fun e w' => e = .returned (.tuple #[.int .i64 (p.size : Int), .bool true]) ∧ Below w.heap.size w w' := by
  have hfd := field_head p
  have HA := Lib.hid hA
  clear hA
  have HQ := Lib.hid hq
  have HP := Lib.hid hp
  clear hq hp
  go_enter Tryd.func32, Tryd.ntmps32
  go_wp2_with (first
    | (go_at_call 58; (with_reducible refine (block_some A L S f h a _ HA.out hs HQ.out).mono ?_); rintro e w' ⟨rfl, n, rfl⟩)
    | (go_at_call 59; (with_reducible refine (head_agg A L S f _ a p _ rfl (HA.out.drew _) hs.mem ha HP.out).mono ?_); rintro e w' ⟨rfl, hb⟩))
  go_ret2
  exact ⟨rfl, below_drewn hb⟩
set_option maxHeartbeats 1000000 in
theorem size_none (A : Nat) (L : Loc) (S : Ar.St) (f : Nat → Prop) (h : Int) (w : World) (hA : ArE A L S f w) (hs : Ar.Sane S) (hq : Ar.PlaceOf S h = none) :
    Calls Tryd.prog 32 #[.pointer (some ⟨A, 0, none⟩), .int .i64 h] w fun e w' => e = .returned (.tuple #[.int .i64 0, .bool false]) ∧ ∃ n, w' = w.drewN n := by
  have HA := Lib.hid hA
  clear hA
  have HQ := Lib.hid hq
  clear hq
  go_enter Tryd.func32, Tryd.ntmps32
  go_wp2_with (first
    | (go_at_call 58; (with_reducible refine (block_none A L S f h _ HA.out hs HQ.out).mono ?_); rintro e w' ⟨rfl, n, rfl⟩))
  go_ret2
  exact ⟨rfl, _, rfl⟩
end Go.Proofs.YtdbaocphglijbaaDoor

/- Handles: which are used. -/
set_option maxRecDepth 100000
namespace Go.Proofs.YtdbaocphglijbaaDoor
namespace Ar
theorem bitOn_test' (us : List Nat) (h : Nat) : bitOn us h = (us.getD ((h - 1) / 64) 0).testBit ((h - 1) % 64) := by
  unfold bitOn
  rw [Nat.testBit_eq_decide_div_mod_eq]
theorem or_bit (x c i : Nat) : (x ||| 2 ^ c).testBit i = (x.testBit i || decide (c = i)) := by rw [Nat.testBit_or, Nat.testBit_two_pow]
theorem andNot_bit (x c i : Nat) (hc : c < 64) (hi : i < 64) : (x &&& (18446744073709551615 - 2 ^ c)).testBit i = (x.testBit i && !decide (c = i)) := by
  have h1 := Nat.testBit_two_pow_sub_succ (n := 64) (x := 2 ^ c) (Nat.pow_lt_pow_right (by decide) hc) i
  rw [show (2 : Nat) ^ 64 - (2 ^ c + 1) = 18446744073709551615 - 2 ^ c by omega] at h1
  rw [Nat.testBit_and, h1, Nat.testBit_two_pow]
  simp [hi]
theorem getD_set (l : List Nat) (i j x d : Nat) (hi : i < l.length) : (l.set i x).getD j d = if j = i then x else l.getD j d := by
  by_cases e : j = i
  · subst e; simp [hi]
  · simp [List.getD, List.getElem?_set_ne (Ne.symm e), e]
theorem placeOf_nat (S : St) (k : Nat) : PlaceOf S ((k + 1 : Nat) : Int) = if k < S.pl.length ∧ bitOn S.us (k + 1) = true then some (S.pl.getD k 0) else none := by
  unfold PlaceOf
  rw [Int.toNat_natCast, Nat.add_sub_cancel]
  by_cases h1 : k < S.pl.length
  · rw [if_pos ⟨by omega, by omega⟩]
    by_cases h2 : bitOn S.us (k + 1) = true
    · rw [if_pos h2, if_pos ⟨h1, h2⟩]
    · rw [if_neg h2, if_neg (fun h => h2 h.2)]
  · rw [if_neg (by omega), if_neg (fun h => h1 h.1)]
theorem placeOf_out (S : St) (h : Int) (hh : h < 1 ∨ (S.pl.length : Int) < h) : PlaceOf S h = none := by
  unfold PlaceOf; rw [if_neg (by omega)]
theorem placeOf_some {S : St} {h : Int} {v : Nat} (hp : PlaceOf S h = some v) : ∃ k, h = ((k + 1 : Nat) : Int) ∧ k < S.pl.length ∧ bitOn S.us (k + 1) = true ∧ S.pl.getD k 0 = v := by
  by_cases hh : h < 1 ∨ (S.pl.length : Int) < h
  · rw [placeOf_out S h hh] at hp; cases hp
  · obtain ⟨k, rfl⟩ : ∃ k : Nat, h = ((k + 1 : Nat) : Int) := ⟨h.toNat - 1, by omega⟩
    rw [placeOf_nat] at hp
    split at hp
    · rename_i h1; cases hp; exact ⟨k, rfl, h1.1, h1.2, rfl⟩
    · cases hp
/-- The table's own form. -/
structure Tab (S : St) : Prop where
  plus : S.pl.length = 64 * S.us.length
  lim : S.pl.length ≤ 100000
  us : ∀ x ∈ S.us, x < 18446744073709551616
  place : ∀ x ∈ S.pl, x ≤ 1048576
  low : S.low ≤ S.us.length
  full : ∀ j, j < S.low → S.us.getD j 0 = 18446744073709551615
theorem mem_set_or {l : List Nat} {i x y : Nat} (h : y ∈ l.set i x) : y ∈ l ∨ y = x := by
  rcases List.mem_or_eq_of_mem_set h with h | h
  · exact .inl h
  · exact .inr h
theorem Tab.drop {S : St} (h : Tab S) {k : Nat} (hk : k < S.pl.length) : Tab (dropHd S k) := by
  have hk2 : k / 64 < S.us.length := by have := h.plus; omega
  refine ⟨by simp [dropHd]; exact h.plus, h.lim, ?_, h.place, ?_, ?_⟩
  · intro x hx
    rcases mem_set_or hx with h1 | h1
    · exact h.us x h1
    · rw [h1]
      have h2 : S.us.getD (k / 64) 0 < 18446744073709551616 := by simp only [List.getD, List.getElem?_eq_getElem hk2, Option.getD_some]; exact h.us _ (List.getElem_mem hk2)
      exact Nat.lt_of_le_of_lt Nat.and_le_left h2
  · show min S.low (k / 64) ≤ (S.us.set _ _).length
    rw [List.length_set]; omega
  · intro j hj
    have hj2 : j < S.low ∧ j < k / 64 := by have : j < min S.low (k / 64) := hj; omega
    show (S.us.set _ _).getD j 0 = _
    rw [getD_set _ _ _ _ _ hk2, if_neg (by omega)]
    exact h.full j hj2.1
theorem placeOf_drop {S : St} (h : Tab S) {k : Nat} (hk : k < S.pl.length) (z : Int) : PlaceOf (dropHd S k) z = if z = ((k + 1 : Nat) : Int) then none else PlaceOf S z := by
  have hk2 : k / 64 < S.us.length := by have := h.plus; omega
  by_cases hz : z < 1 ∨ (S.pl.length : Int) < z
  · rw [placeOf_out S z hz, placeOf_out (dropHd S k) z hz]; simp
  · obtain ⟨j, rfl⟩ : ∃ j : Nat, z = ((j + 1 : Nat) : Int) := ⟨z.toNat - 1, by omega⟩
    rw [placeOf_nat, placeOf_nat]
    have hb : bitOn (dropHd S k).us (j + 1) = if j = k then false else bitOn S.us (j + 1) := by
      rw [bitOn_test', bitOn_test', Nat.add_sub_cancel]
      show ((S.us.set _ _).getD (j / 64) 0).testBit _ = _
      rw [getD_set _ _ _ _ _ hk2]
      by_cases e1 : j / 64 = k / 64
      · rw [if_pos e1, andNot_bit _ _ _ (Nat.mod_lt _ (by decide)) (Nat.mod_lt _ (by decide))]
        by_cases e2 : j = k
        · subst e2; simp
        · rw [if_neg e2, e1]
          have : ¬ (k % 64 = j % 64) := by omega
          simp [this]
      · rw [if_neg e1, if_neg (by intro e; exact e1 (by rw [e]))]
    rw [hb]
    by_cases e : j = k
    · subst e; simp
    · rw [if_neg e, if_neg (show ¬ (((j + 1 : Nat) : Int) = ((k + 1 : Nat) : Int)) by omega)]
      rfl
theorem ctz_spec {x : Nat} (h0 : x ≠ 0) (h : x < 18446744073709551616) : x.testBit (Lib.ctz 64 x) = true ∧ ∀ j, j < Lib.ctz 64 x → x.testBit j = false := by
  unfold Lib.ctz
  rw [if_neg h0]
  obtain ⟨m, hm, _⟩ := Lib.ctzFrom_spec 64 x (by omega) h
  generalize Lib.ctzFrom 64 x = c at hm
  have hb : ∀ i, x.testBit i = (decide (c ≤ i) && (2 * m + 1).testBit (i - c)) := fun i => by
    rw [hm, Nat.mul_comm, Nat.testBit_mul_two_pow]
  refine ⟨?_, fun j hj => ?_⟩
  · rw [hb, Nat.sub_self, Nat.testBit_zero]; simp
  · rw [hb]; simp; omega
theorem compl_bit {x i : Nat} (hx : x < 18446744073709551616) (hi : i < 64) : (18446744073709551615 - x).testBit i = !x.testBit i := by
  have h1 := Nat.testBit_two_pow_sub_succ (n := 64) (x := x) hx i
  rw [show (2 : Nat) ^ 64 - (x + 1) = 18446744073709551615 - x by omega] at h1
  rw [h1]; simp [hi]
/-- The handle that take gives, from 0 on. -/
def nextH (S : St) (l : Nat) : Nat := l * 64 + Lib.ctz 64 (18446744073709551615 - S.us.getD l 0)
theorem Tab.word {S : St} (h : Tab S) (l : Nat) : S.us.getD l 0 < 18446744073709551616 := by
  by_cases hl : l < S.us.length
  · simp only [List.getD, List.getElem?_eq_getElem hl, Option.getD_some]; exact h.us _ (List.getElem_mem hl)
  · simp only [List.getD, List.getElem?_eq_none (show S.us.length ≤ l by omega)]; decide
theorem nextH_spec {S : St} (h : Tab S) {l : Nat} (hl : l < S.us.length) (hfull : ∀ j, j < l → S.us.getD j 0 = 18446744073709551615) (hfree : S.us.getD l 0 < 18446744073709551615) :
    nextH S l < S.pl.length ∧ bitOn S.us (nextH S l + 1) = false ∧ (∀ j, j < nextH S l → bitOn S.us (j + 1) = true) ∧ nextH S l / 64 = l ∧ nextH S l % 64 = Lib.ctz 64 (18446744073709551615 - S.us.getD l 0) := by
  have hw := h.word l
  have hc := ctz_lt (x := 18446744073709551615 - S.us.getD l 0) (by omega) (by omega)
  obtain ⟨s1, s2⟩ := ctz_spec (x := 18446744073709551615 - S.us.getD l 0) (by omega) (by omega)
  have hp := h.plus
  unfold nextH
  generalize hcc : Lib.ctz 64 (18446744073709551615 - S.us.getD l 0) = c at *
  have e1 : (l * 64 + c) / 64 = l := by omega
  have e2 : (l * 64 + c) % 64 = c := by omega
  refine ⟨by omega, ?_, fun j hj => ?_, e1, e2⟩
  · rw [bitOn_test', Nat.add_sub_cancel, e1, e2]
    rw [compl_bit hw hc] at s1
    simpa using s1
  · rw [bitOn_test', Nat.add_sub_cancel]
    by_cases e : j / 64 = l
    · rw [e]
      have := s2 (j % 64) (by omega)
      rw [compl_bit hw (Nat.mod_lt _ (by decide))] at this
      simpa using this
    · rw [hfull (j / 64) (by omega)]
      have := Nat.testBit_two_pow_sub_one 64 (j % 64)
      rw [show (2 : Nat) ^ 64 - 1 = 18446744073709551615 by decide] at this
      rw [this]
      simp; omega
theorem Tab.take {S : St} (h : Tab S) {l v : Nat} (hl : l < S.us.length) (hfull : ∀ j, j < l → S.us.getD j 0 = 18446744073709551615) (hfree : S.us.getD l 0 < 18446744073709551615) (hv : v ≤ 1048576) : Tab (takeH S l v) := by
  have hw := h.word l
  have hc := ctz_lt (x := 18446744073709551615 - S.us.getD l 0) (by omega) (by omega)
  refine ⟨by simp [takeH]; exact h.plus, by simp [takeH]; exact h.lim, ?_, ?_, ?_, ?_⟩
  · intro x hx
    rcases mem_set_or hx with h1 | h1
    · exact h.us x h1
    · rw [h1]
      exact Nat.or_lt_two_pow (n := 64) hw (Nat.pow_lt_pow_right (by decide) hc)
  · intro x hx
    rcases mem_set_or hx with h1 | h1
    · exact h.place x h1
    · omega
  · show l ≤ (S.us.set _ _).length
    rw [List.length_set]; omega
  · intro j hj
    show (S.us.set _ _).getD j 0 = _
    rw [getD_set _ _ _ _ _ hl, if_neg (by have : j < l := hj; omega)]
    exact hfull j hj
theorem placeOf_take {S : St} (h : Tab S) {l v : Nat} (hl : l < S.us.length) (hfull : ∀ j, j < l → S.us.getD j 0 = 18446744073709551615) (hfree : S.us.getD l 0 < 18446744073709551615) (z : Int) : PlaceOf (takeH S l v) z = if z = ((nextH S l + 1 : Nat) : Int) then some v else PlaceOf S z := by
  obtain ⟨n1, n2, n3, n4, n5⟩ := nextH_spec h hl hfull hfree
  by_cases hz : z < 1 ∨ (S.pl.length : Int) < z
  · rw [placeOf_out S z hz, placeOf_out (takeH S l v) z (by simpa [takeH] using hz), if_neg (by omega)]
  · obtain ⟨j, rfl⟩ : ∃ j : Nat, z = ((j + 1 : Nat) : Int) := ⟨z.toNat - 1, by omega⟩
    rw [placeOf_nat, placeOf_nat]
    have hb : bitOn (takeH S l v).us (j + 1) = if j = nextH S l then true else bitOn S.us (j + 1) := by
      rw [bitOn_test', bitOn_test', Nat.add_sub_cancel]
      show ((S.us.set _ _).getD (j / 64) 0).testBit _ = _
      rw [getD_set _ _ _ _ _ hl]
      by_cases e1 : j / 64 = l
      · rw [if_pos e1, or_bit, ← n5]
        by_cases e2 : j = nextH S l
        · rw [if_pos e2, e2]; simp
        · rw [if_neg e2, e1]
          have : ¬ (nextH S l % 64 = j % 64) := by omega
          simp [this]
      · rw [if_neg e1, if_neg (by intro e; exact e1 (by rw [e, n4]))]
    have hpl : (takeH S l v).pl.length = S.pl.length := by simp [takeH]
    have hpg : (takeH S l v).pl.getD j 0 = if j = nextH S l then v else S.pl.getD j 0 := by
      show (S.pl.set (nextH S l) v).getD j 0 = _
      exact getD_set _ _ _ _ _ n1
    rw [hb, hpl, hpg]
    by_cases e : j = nextH S l
    · subst e
      rw [if_pos ⟨n1, by simp⟩]; simp
    · rw [if_neg e, if_neg e, if_neg (show ¬ (((j + 1 : Nat) : Int) = ((nextH S l + 1 : Nat) : Int)) by omega)]
end Ar
end Go.Proofs.YtdbaocphglijbaaDoor

/- What holds of an arena between calls; release keeps it. -/
set_option maxRecDepth 100000
namespace Go.Proofs.YtdbaocphglijbaaDoor
namespace Ar
def sumT (xs : List Pc) : Nat := (xs.map Pc.takes).sum
structure Inv (S : St) (pcs : List Pc) : Prop where
  mem : ∃ rest, S.mem = lay 0 pcs ++ rest ∧ rest.length < 16
  lim : S.mem.length ≤ 1048576
  ok : ∀ p ∈ pcs, p.Ok
  fr : ∃ E sp, Ch S.nd S.spare E sp ∧ Frees E pcs 0 []
  nd : S.nd.length ≤ 70000
  tab : Tab S
  cap : S.mem.length / 16 ≤ S.pl.length
  hn : ∀ (h v : Nat), PlaceOf S (h : Int) = some v ↔ ∃ p, At pcs v p ∧ p.free = false ∧ p.owner = h
  used : S.used = sumT (blocks pcs)
theorem sumT_app (xs ys : List Pc) : sumT (xs ++ ys) = sumT xs + sumT ys := by simp [sumT]
theorem sumT_cons (p : Pc) (ys : List Pc) : sumT (p :: ys) = p.takes + sumT ys := by simp [sumT]
theorem sumT_le : ∀ xs : List Pc, sumT (blocks xs) ≤ total xs
  | [] => Nat.le_refl _
  | p :: r => by
    have := sumT_le r
    cases hf : p.free
    · rw [blocks_block r hf, sumT_cons]; simp only [total]; omega
    · rw [blocks_free r hf]; simp only [total]; omega
theorem Inv.len {S : St} {pcs : List Pc} (h : Inv S pcs) : total pcs = fin S ∧ fin S ≤ S.mem.length := by
  obtain ⟨rest, hm, hr⟩ := h.mem
  have : S.mem.length = total pcs + rest.length := by rw [hm]; simp [lay_len]
  have := total_mod h.ok
  unfold fin; omega
theorem Inv.sane {S : St} {pcs : List Pc} (h : Inv S pcs) : Sane S := by
  have t := h.tab
  refine ⟨h.lim, by have := t.lim; omega, t.plus, t.us, t.place, ?_, by have := t.low; have := t.plus; have := t.lim; omega⟩
  rw [h.used]
  have := sumT_le pcs
  have := h.len
  omega
/-- At a piece: the gap of nothing ahead of it. -/
theorem Inv.at_ {S : St} {xs ys : List Pc} {p : Pc} (h : Inv S (xs ++ p :: ys)) : ∃ rest E sp, Gap S xs [] (lastT 0 xs) (p :: ys) rest E sp := by
  obtain ⟨rest, hm, hr⟩ := h.mem
  obtain ⟨E, sp, hc, hf⟩ := h.fr
  have hl := h.len
  have hlim := h.lim
  rw [total_app] at hl
  refine ⟨rest, E, sp, ⟨by rw [hm, lay_app]; simp, hr, h.lim, fun q hq => h.ok q (by simp [hq]), fun q hq => h.ok q (List.mem_append_right _ hq), lastT_le (by omega) (by omega), hc, fun i c v => ?_, by have := h.nd; omega⟩⟩
  rw [hf i c v]
  simp only [List.length_nil]
  constructor
  · rintro ⟨p, h1, h2⟩
    refine ⟨p, (atG_zero _ _ _ _).2 ?_, h2⟩
    have := (atG_zero _ _ _ _).1 h1
    simpa using this
  · rintro ⟨p, h1, h2⟩
    refine ⟨p, (atG_zero _ _ _ _).2 ?_, h2⟩
    have := (atG_zero _ _ _ _).1 h1
    simpa using this
theorem at_of_atG {xs ys : List Pc} {g v : Nat} {p : Pc} (h : AtG xs g ys v p) : p ∈ xs ++ ys := by
  rcases h with h | ⟨_, _, h⟩
  · exact List.mem_append_left _ (at_mem h)
  · exact List.mem_append_right _ (at_mem h)
/-- How many nodes there may be. -/
theorem Gap.count {S : St} {xs ys : List Pc} {raw rest : List UInt8} {a' : Nat} {E : Nat → Option (Nat × Nat)} {sp : List Nat} (h : Gap S xs raw a' ys rest E sp) (h0 : S.spare = 0) : S.nd.length ≤ 17 + 65536 := by
  have hsp : sp = [] := by
    rcases h.ch.spare0 with ⟨_, h2⟩ | ⟨_, _, h2, _⟩
    · exact h2
    · omega
  have hlen := h.len
  have hlim := h.lim
  have t1 := total_ge h.oxs
  have t2 := total_ge h.oys
  have key := nodup_le (l := List.range' 17 (S.nd.length - 17)) (m := (xs ++ ys).map Pc.owner) List.nodup_range' (fun i hi => by
    rw [List.mem_range'_1] at hi
    rcases h.ch.all i (by omega) (by omega) with h3 | h3
    · cases hx : E i with
      | none => exact absurd hx h3
      | some x =>
        obtain ⟨c, v⟩ := x
        obtain ⟨p, h4, _, h5, _⟩ := (h.fr i c v).1 hx
        exact List.mem_map.2 ⟨p, at_of_atG h4, h5⟩
    · rw [hsp] at h3; cases h3)
  simp only [List.length_range', List.length_map, List.length_append] at key
  omega
theorem Gap.fill_nd {S : St} {xs ys : List Pc} {raw rest : List UInt8} {a' : Nat} {E : Nat → Option (Nat × Nat)} {sp : List Nat} (h : Gap S xs raw a' ys rest E sp) (hn : S.nd.length ≤ 70000) (v size ahead : Nat) : (putFree S v size ahead).nd.length ≤ 70000 := by
  show (push S.nd S.spare (cls size) v).nd.length ≤ _
  by_cases h0 : S.spare = 0
  · have := h.count h0
    simp only [push, h0, if_true, link_len, setV_len, List.length_append, List.length_singleton]; omega
  · simp only [push, if_neg h0, link_len, setV_len]; exact hn
theorem frees_nil {E : Nat → Option (Nat × Nat)} {xs ys : List Pc} (h : Frees E xs 0 ys) : Frees E (xs ++ ys) 0 [] := fun i c v => by
  rw [h i c v]
  constructor
  · rintro ⟨p, h1, h2⟩
    exact ⟨p, (atG_zero _ _ _ _).2 (by simpa using (atG_zero _ _ _ _).1 h1), h2⟩
  · rintro ⟨p, h1, h2⟩
    exact ⟨p, (atG_zero _ _ _ _).2 (by simpa using (atG_zero _ _ _ _).1 h1), h2⟩
/-- A gap that is filled by a free piece, with the table as it is. -/
theorem Gap.inv {S : St} {xs ys : List Pc} {raw rest : List UInt8} {a' : Nat} {E : Nat → Option (Nat × Nat)} {sp : List Nat} (h : Gap S xs raw a' ys rest E sp) (h16 : 16 ≤ raw.length) (hr16 : raw.length % 16 = 0) (hn : S.nd.length ≤ 70000) (ht : Tab S) (hcap : S.mem.length / 16 ≤ S.pl.length)
    (hh : ∀ (h v : Nat), PlaceOf S (h : Int) = some v ↔ ∃ p, AtG xs raw.length ys v p ∧ p.free = false ∧ p.owner = h) (hu : S.used = sumT (blocks xs) + sumT (blocks ys)) :
    ∃ k, k < 1048576 ∧ Inv (putFree S (total xs) raw.length (lastT 0 xs)) (xs ++ mkFree k raw :: ys) ∧ blocks (xs ++ mkFree k raw :: ys) = blocks xs ++ blocks ys := by
  obtain ⟨_, k, E', sp', hk, hm, hc, hf⟩ := h.fill h16 hr16
  have hb : blocks (xs ++ mkFree k raw :: ys) = blocks xs ++ blocks ys := by rw [blocks_app, blocks_free ys (p := mkFree k raw) rfl]
  have hml : (putFree S (total xs) raw.length (lastT 0 xs)).mem.length = S.mem.length := by
    rw [hm, List.length_append, lay_len, total_app, h.len]
    simp only [total, mkFree_takes (k := k) (raw := raw) (by omega)]
    omega
  refine ⟨k, hk, ⟨⟨rest, hm, h.rest⟩, by rw [hml]; exact h.lim, ?_, ⟨E', sp', hc, frees_nil hf⟩, h.fill_nd hn _ _ _, ⟨ht.plus, ht.lim, ht.us, ht.place, ht.low, ht.full⟩, by rw [hml]; exact hcap, ?_, ?_⟩, hb⟩
  · intro p hp
    rcases List.mem_append.1 hp with h1 | h1
    · exact h.oxs p h1
    · rcases List.mem_cons.1 h1 with rfl | h1
      · exact mkFree_ok h16 hr16 hk
      · exact h.oys p h1
  · intro hd v
    show PlaceOf S hd = some v ↔ _
    rw [hh hd v]
    constructor
    · rintro ⟨p, h1, h2⟩
      exact ⟨p, (atG_fill xs ys (mkFree k raw) v p).2 (.inl (by rw [mkFree_takes (by omega)]; exact h1)), h2⟩
    · rintro ⟨p, h1, h2, h3⟩
      rcases (atG_fill xs ys (mkFree k raw) v p).1 h1 with h4 | ⟨_, rfl⟩
      · exact ⟨p, by rw [mkFree_takes (by omega)] at h4; exact h4, h2, h3⟩
      · cases h2
  · show S.used = _
    rw [hb, sumT_app]; exact hu
end Ar
end Go.Proofs.YtdbaocphglijbaaDoor

/- Free, on pieces and in memory. -/
set_option maxRecDepth 100000
namespace Go.Proofs.YtdbaocphglijbaaDoor
open Go.RowKit Go.Shelf
namespace Ar
def freed (S : St) (tk k : Nat) : St := dropHd { S with used := S.used - tk } k
theorem Inv.block_pos {S : St} {pcs : List Pc} (I : Inv S pcs) {h : Int} {v : Nat} (hp : PlaceOf S h = some v) : ∃ xs p ys k, pcs = xs ++ p :: ys ∧ total xs = v ∧ p.free = false ∧ p.owner = k + 1 ∧ h = ((k + 1 : Nat) : Int) ∧ k < S.pl.length := by
  obtain ⟨k, rfl, hk, _, _⟩ := placeOf_some hp
  obtain ⟨p, h1, h2, h3⟩ := (I.hn _ _).1 hp
  obtain ⟨xs, ys, rfl, rfl⟩ := at_split h1
  exact ⟨xs, p, ys, k, rfl, rfl, h2, h3, rfl, hk⟩
theorem putFree_len (S : St) (a size ahead : Nat) (h1 : 16 ≤ size) (h2 : a + size ≤ S.mem.length) (h16 : (a + size) % 16 = 0) : (putFree S a size ahead).mem.length = S.mem.length := by
  unfold putFree
  simp only
  have e := putHd_len S.mem a ⟨true, false, (push S.nd S.spare (cls size) a).k, size, ahead⟩ (by omega)
  split
  · rw [putHd_len _ _ _ (by rw [e]; omega), e]
  · exact e
theorem placeOf_congr {S S' : St} (h1 : S'.pl = S.pl) (h2 : S'.us = S.us) (z : Int) : PlaceOf S' z = PlaceOf S z := by unfold PlaceOf; rw [h1, h2]
theorem Tab.congr {S S' : St} (h : Tab S) (h1 : S'.pl = S.pl) (h2 : S'.us = S.us) (h3 : S'.low = S.low) : Tab S' :=
  ⟨by rw [h1, h2]; exact h.plus, by rw [h1]; exact h.lim, by rw [h2]; exact h.us, by rw [h1]; exact h.place, by rw [h2, h3]; exact h.low, by rw [h2, h3]; exact h.full⟩
theorem Gap.congr {S S' : St} {xs ys : List Pc} {raw rest : List UInt8} {a' : Nat} {E : Nat → Option (Nat × Nat)} {sp : List Nat} (h : Gap S xs raw a' ys rest E sp) (h1 : S'.mem = S.mem) (h2 : S'.nd = S.nd) (h3 : S'.spare = S.spare) : Gap S' xs raw a' ys rest E sp :=
  ⟨by rw [h1]; exact h.mem, h.rest, by rw [h1]; exact h.lim, h.oxs, h.oys, h.a', by rw [h2, h3]; exact h.ch, h.fr, by rw [h2]; exact h.nd⟩
theorem LStep.nd {S1 : St} {xs : List Pc} {p : Pc} {raw1 : List UInt8} {a1 : Nat} {ys1 : List Pc} {rest : List UInt8} {r : Head} {br : Bool} {S2 : St} {xs2 : List Pc} {raw2 : List UInt8} {E2 : Nat → Option (Nat × Nat)} {sp2 : List Nat} (h : LStep S1 xs p raw1 a1 ys1 rest r br S2 xs2 raw2 E2 sp2) : S2.nd.length = S1.nd.length ∧ S2.mem = S1.mem := by
  rw [← h.take]
  refine ⟨?_, takeFree_mem _ _⟩
  unfold takeFree
  split
  · rfl
  · split
    · exact dropN_len _ _ _
    · rfl
theorem free_math {S : St} {xs ys : List Pc} {p : Pc} {k : Nat} (I : Inv S (xs ++ p :: ys)) (hf : p.free = false) (hk : p.owner = k + 1) :
    ∃ rest q bq S1 ys1 raw1 a1 E1 sp1 r br S2 xs2 raw2 E2 sp2, RStep (freed S p.takes k) xs p (lastT 0 xs) ys rest q bq S1 ys1 raw1 a1 E1 sp1 ∧ LStep S1 xs p raw1 a1 ys1 rest r br S2 xs2 raw2 E2 sp2 ∧ RelOk S2 (total xs) (p.hd (lastT 0 xs)) (relSize p.takes q bq) r br ∧
      headAt S.mem (total xs) = p.hd (lastT 0 xs) ∧ k < S.pl.length ∧ ∃ pcs', Inv (relEnd S2 (total xs) (p.hd (lastT 0 xs)) (relSize p.takes q bq) r br) pcs' ∧ blocks pcs' = blocks xs ++ blocks ys := by
  obtain ⟨rest, E, sp, g⟩ := I.at_
  have gd : Gap (freed S p.takes k) xs [] (lastT 0 xs) (p :: ys) rest E sp := g.congr rfl rfl rfl
  obtain ⟨q, bq, S1, ys1, raw1, a1, E1, sp1, R⟩ := right_step gd hf
  have hp := g.oys p (List.mem_cons_self ..)
  obtain ⟨r, br, S2, xs2, raw2, E2, sp2, Lr⟩ := left_step R.gap hp hf g.a' R.m16 R.pre
  have hh := g.headR
  simp only [List.length_nil, Nat.add_zero] at hh
  have hpl : PlaceOf S ((k + 1 : Nat) : Int) = some (total xs) := (I.hn _ _).2 ⟨p, at_mid xs ys p, hf, hk⟩
  obtain ⟨k', e1, hkl, _, _⟩ := placeOf_some hpl
  obtain rfl : k = k' := by omega
  have hkl' : k < S.pl.length := hkl
  obtain ⟨t, ht⟩ := R.pre
  have hr1 : 16 ≤ raw1.length := by rw [ht, List.length_append, bytes_len]; have := hp.ge; omega
  have hr2 : 16 ≤ raw2.length := by
    cases hb : br
    · rw [(Lr.pos.2 hb).2]; exact hr1
    · rw [(Lr.pos.1 hb).2.2]; omega
  have hend : ∀ (F : Nat → Nat → Nat → Prop), F (total xs2) raw2.length (lastT 0 xs2) → (br = true → F (total xs - lastT 0 xs) (relSize p.takes q bq + r.size) r.ahead) ∧ (br = false → F (total xs) (relSize p.takes q bq) (lastT 0 xs)) := fun F hF => by
    refine ⟨fun hb => ?_, fun hb => ?_⟩
    · obtain ⟨p1, p2, p3⟩ := Lr.pos.1 hb
      rw [← p1, ← p2, ← R.size, ← p3]; exact hF
    · obtain ⟨p1, p2⟩ := Lr.pos.2 hb
      rw [p2, p1] at hF
      rw [← R.size]
      exact hF
  obtain ⟨hput, _⟩ := Lr.gap.fill hr2 Lr.m16
  have hnd := I.nd
  have hmem1 := R.mem
  obtain ⟨ln, lm⟩ := Lr.nd
  have hnd1 : S1.nd.length = S.nd.length := by
    rw [← R.take]
    unfold takeFree
    split
    · rfl
    · split
      · exact dropN_len _ _ _
      · rfl
  obtain ⟨u1, u2, u3, u4⟩ := R.rem
  obtain ⟨w1, w2, w3, w4⟩ := Lr.rem
  have ht0 : Tab { S with used := S.used - p.takes } := I.tab.congr rfl rfl rfl
  have htab : Tab S2 := (ht0.drop hkl').congr (by rw [w2, u2]; rfl) (by rw [w3, u3]; rfl) (by rw [w4, u4]; rfl)
  have hplace : ∀ z, PlaceOf S2 z = if z = ((k + 1 : Nat) : Int) then none else PlaceOf S z := fun z => by
    rw [placeOf_congr (S := freed S p.takes k) (S' := S2) (by rw [w2, u2]) (by rw [w3, u3]) z]
    exact placeOf_drop ht0 hkl' z
  have hat : ∀ v b, b.free = false → (AtG xs2 raw2.length ys1 v b ↔ AtG xs p.takes ys v b) := fun v b hb => (Lr.at_ v b hb).trans (R.at_ v b hb)
  obtain ⟨kk, hkk, hinv, hbl⟩ := Lr.gap.inv hr2 Lr.m16 (by omega) htab (by rw [lm, hmem1, w2, u2]; exact I.cap) (fun h v => by
    rw [hplace]
    constructor
    · intro hx
      split at hx
      · cases hx
      · rename_i hne
        obtain ⟨b, h1, h2, h3⟩ := (I.hn h v).1 hx
        rcases (atG_fill xs ys p v b).1 h1 with h4 | ⟨_, rfl⟩
        · exact ⟨b, (hat v b h2).2 h4, h2, h3⟩
        · exact absurd (show (h : Int) = ((k + 1 : Nat) : Int) by omega) hne
    · rintro ⟨b, h1, h2, h3⟩
      have h4 := (hat v b h2).1 h1
      have hx := (I.hn h v).2 ⟨b, (atG_fill xs ys p v b).2 (.inl h4), h2, h3⟩
      rw [if_neg]
      · exact hx
      · intro e
        rw [e, hpl] at hx
        cases hx
        exact atG_gap h4 (Nat.le_refl _) (by have := takes_pos p; omega)) (by
    rw [w1, u1]
    show S.used - p.takes = _
    rw [I.used, blocks_app, blocks_block ys hf, sumT_app, sumT_cons, Lr.bl, R.bl]
    omega)
  refine ⟨rest, q, bq, S1, ys1, raw1, a1, E1, sp1, r, br, S2, xs2, raw2, E2, sp2, R, Lr, ?_, hh, hkl', xs2 ++ mkFree kk raw2 :: ys1, ?_, by rw [hbl, Lr.bl, R.bl]⟩
  · have := hend (PutOk S2) hput
    cases hb : br
    · exact this.2 hb
    · exact this.1 hb
  · have := hend (fun a s d => Inv (putFree S2 a s d) (xs2 ++ mkFree kk raw2 :: ys1)) hinv
    cases hb : br
    · exact this.2 hb
    · exact this.1 hb
end Ar
end Go.Proofs.YtdbaocphglijbaaDoor
