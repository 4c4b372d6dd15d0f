/- span, Read, Write. -/
import Derived.Test.YtkndbldjablhoaaDoorAblk
set_option maxRecDepth 100000
namespace Go.Proofs.YtkndbldjablhoaaDoor
open Go.RowKit Go.Shelf
/-- All of it lies within a block of so many bytes. -/
def Within (sz : Nat) (at_ n : Int) : Prop := 0 ≤ at_ ∧ 0 ≤ n ∧ at_ ≤ sz ∧ n ≤ sz - at_
set_option maxHeartbeats 2000000 in
theorem span_none (A : Nat) (L : Loc) (S : Ar.St) (f : Nat → Prop) (h at_ n : Int) (w : World) (hA : ArE A L S f w) (hs : Ar.Sane S) (hq : Ar.PlaceOf S h = none) :
    Calls Tryd.prog 43 #[.pointer (some ⟨A, 0, none⟩), .int .i64 h, .int .i64 at_, .int .i64 n] w fun e w' => e = .returned (.tuple #[.slice none 0 0, .int .i64 5]) ∧ ∃ n, w' = w.drewN n := by
  have HA := Lib.hid hA
  clear hA
  have HQ := Lib.hid hq
  clear hq
  go_enter Tryd.func43, Tryd.ntmps43
  go_wp2_with (first
    | (go_at_call 37; (with_reducible refine (block_none A L S f h _ HA.out hs HQ.out).mono ?_); rintro e w' ⟨rfl, n, rfl⟩))
  go_ret2
  exact ⟨rfl, _, rfl⟩
set_option maxHeartbeats 2000000 in
theorem span_nil (h at_ n : Int) (w : World) : Calls Tryd.prog 43 #[.pointer none, .int .i64 h, .int .i64 at_, .int .i64 n] w fun e w' => e = .returned (.tuple #[.slice none 0 0, .int .i64 5]) ∧ w = w' := by
  go_enter Tryd.func43, Tryd.ntmps43
  go_wp2_with (first
    | (go_at_call 37; (with_reducible refine (block_nil h _).mono ?_); rintro e w' ⟨rfl, rfl⟩))
  go_ret2
  exact ⟨rfl, rfl⟩
theorem inside_at (A : Nat) (L : Loc) (S : Ar.St) (f : Nat → Prop) (a n c : Nat) (w : World) (h : ArE A L S f w) (hm : S.mem.length ≤ 1048576) (hp : (Ar.headAt S.mem a).size = n) (ha : a + 8 + n ≤ S.mem.length) (ha2 : a + 8 < S.mem.length) (hc : S.mem.length - (a + 8) = c) :
    Calls Tryd.prog 59 #[.pointer (some ⟨A, 0, none⟩), .int .i64 (a : Int)] w fun e w' => e = .returned (.slice (some ⟨L.M, a + 8, none⟩) n c) ∧ Below w.heap.size w w' :=
  (inside_any A L S f a n w h hm hp ha ha2).mono fun e w' ⟨⟨c', h1, h2⟩, hb⟩ => ⟨by rw [h1, h2, hc], hb⟩
set_option maxHeartbeats 4000000 in
theorem span_bad (A : Nat) (L : Loc) (S : Ar.St) (f : Nat → Prop) (h at_ n : Int) (a sz : Nat) (w : World) (hA : ArE A L S f w) (hs : Ar.Sane S) (hq : Ar.PlaceOf S h = some a) (hp : (Ar.headAt S.mem a).size = sz) (ha : a + 8 + sz ≤ S.mem.length) (ha2 : a + 8 < S.mem.length) (hw : ¬ Within sz at_ n)
    (hI1 : -9223372036854775808 ≤ at_) (hI2 : at_ ≤ 9223372036854775807) (hI3 : -9223372036854775808 ≤ n) (hI4 : n ≤ 9223372036854775807) :
    Calls Tryd.prog 43 #[.pointer (some ⟨A, 0, none⟩), .int .i64 h, .int .i64 at_, .int .i64 n] w fun e w' => e = .returned (.tuple #[.slice none 0 0, .int .i64 1]) ∧ Below w.heap.size w w' := by
  have HA := Lib.hid hA
  clear hA
  have hmm := hs.mem
  have HQ := Lib.hid hq
  have HP := Lib.hid hp
  obtain ⟨c, hc⟩ : ∃ c, S.mem.length - (a + 8) = c := ⟨_, rfl⟩
  have HC := Lib.hid hc
  clear hq hp hc
  unfold Within at hw
  by_cases c1 : at_ < 0
  · go_enter Tryd.func43, Tryd.ntmps43
    go_wp2_with (first
      | (go_at_call 37; (with_reducible refine (block_some A L S f h a _ HA.out hs HQ.out).mono ?_); rintro e w' ⟨rfl, k, rfl⟩)
      | (go_at_call 59; (with_reducible refine (inside_at A L S f a sz c _ (HA.out.drew _) hs.mem HP.out ha ha2 HC.out).mono ?_); rintro e w' ⟨rfl, hb⟩))
    go_ret2
    exact ⟨rfl, below_drewn hb⟩
  · by_cases c2 : n < 0
    · go_enter Tryd.func43, Tryd.ntmps43
      go_wp2_with (first
        | (go_at_call 37; (with_reducible refine (block_some A L S f h a _ HA.out hs HQ.out).mono ?_); rintro e w' ⟨rfl, k, rfl⟩)
        | (go_at_call 59; (with_reducible refine (inside_at A L S f a sz c _ (HA.out.drew _) hs.mem HP.out ha ha2 HC.out).mono ?_); rintro e w' ⟨rfl, hb⟩))
      go_ret2
      exact ⟨rfl, below_drewn hb⟩
    · by_cases c3 : (sz : Int) < at_
      · go_enter Tryd.func43, Tryd.ntmps43
        go_wp2_with (first
          | (go_at_call 37; (with_reducible refine (block_some A L S f h a _ HA.out hs HQ.out).mono ?_); rintro e w' ⟨rfl, k, rfl⟩)
          | (go_at_call 59; (with_reducible refine (inside_at A L S f a sz c _ (HA.out.drew _) hs.mem HP.out ha ha2 HC.out).mono ?_); rintro e w' ⟨rfl, hb⟩))
        go_ret2
        exact ⟨rfl, below_drewn hb⟩
      · obtain ⟨at_, rfl⟩ := Int.eq_ofNat_of_zero_le (show 0 ≤ at_ by omega)
        have c4 : (sz : Int) - (at_ : Int) < n := by omega
        go_enter Tryd.func43, Tryd.ntmps43
        go_wp2_with (first
          | (go_at_call 37; (with_reducible refine (block_some A L S f h a _ HA.out hs HQ.out).mono ?_); rintro e w' ⟨rfl, k, rfl⟩)
          | (go_at_call 59; (with_reducible refine (inside_at A L S f a sz c _ (HA.out.drew _) hs.mem HP.out ha ha2 HC.out).mono ?_); rintro e w' ⟨rfl, hb⟩))
        go_ret2
        exact ⟨rfl, below_drewn hb⟩
set_option maxHeartbeats 4000000 in
theorem span_good (A : Nat) (L : Loc) (S : Ar.St) (f : Nat → Prop) (h : Int) (at_ n : Nat) (a sz : Nat) (w : World) (hA : ArE A L S f w) (hs : Ar.Sane S) (hq : Ar.PlaceOf S h = some a) (hp : (Ar.headAt S.mem a).size = sz) (ha : a + 8 + sz ≤ S.mem.length) (ha2 : a + 8 < S.mem.length) (hw : at_ + n ≤ sz) :
    Calls Tryd.prog 43 #[.pointer (some ⟨A, 0, none⟩), .int .i64 h, .int .i64 (at_ : Int), .int .i64 (n : Int)] w fun e w' => (∃ ad c, e = .returned (.tuple #[.slice (some ad) n c, .int .i64 0]) ∧ (0 < n → ad = ⟨L.M, a + 8 + at_, none⟩)) ∧ Below w.heap.size w w' := by
  have HA := Lib.hid hA
  clear hA
  have hmm := hs.mem
  have HQ := Lib.hid hq
  have HP := Lib.hid hp
  obtain ⟨c, hc⟩ : ∃ c, S.mem.length - (a + 8) = c := ⟨_, rfl⟩
  have hcs : sz ≤ c := by omega
  have hcm : c ≤ 1048576 := by omega
  have HC := Lib.hid hc
  clear hq hp hc
  by_cases hac : c = at_
  · subst hac
    go_enter Tryd.func43, Tryd.ntmps43
    go_wp2_with (first
      | (go_at_call 37; (with_reducible refine (block_some A L S f h a _ HA.out hs HQ.out).mono ?_); rintro e w' ⟨rfl, k, rfl⟩)
      | (go_at_call 59; (with_reducible refine (inside_at A L S f a sz c _ (HA.out.drew _) hs.mem HP.out ha ha2 HC.out).mono ?_); rintro e w' ⟨rfl, hb⟩))
    rw [show c + n - c = n by omega]
    go_ret2
    exact ⟨⟨_, _, rfl, fun h => by omega⟩, below_drewn hb⟩
  · have hac2 : ¬ (at_ = c) := fun e => hac e.symm
    go_enter Tryd.func43, Tryd.ntmps43
    go_wp2_with (first
      | (go_at_call 37; (with_reducible refine (block_some A L S f h a _ HA.out hs HQ.out).mono ?_); rintro e w' ⟨rfl, k, rfl⟩)
      | (go_at_call 59; (with_reducible refine (inside_at A L S f a sz c _ (HA.out.drew _) hs.mem HP.out ha ha2 HC.out).mono ?_); rintro e w' ⟨rfl, hb⟩))
    rw [show at_ + n - at_ = n by omega]
    go_ret2
    exact ⟨⟨_, _, rfl, fun _ => rfl⟩, below_drewn hb⟩
end Go.Proofs.YtkndbldjablhoaaDoor
