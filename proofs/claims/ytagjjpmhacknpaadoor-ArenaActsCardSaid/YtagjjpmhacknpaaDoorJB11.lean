/- 4 texts put together: Aspan, Ardwr, Wrm, Newm. -/
import Derived.Test.YtagjjpmhacknpaaDoorJB6
import Derived.Test.YtagjjpmhacknpaaDoorJB8
import Derived.Test.YtagjjpmhacknpaaDoorJB10
/- span, Read, Write. -/
set_option maxRecDepth 100000
namespace Go.Proofs.YtagjjpmhacknpaaDoor
open Go.RowKit Go.Shelf
/-- All of it lies within a block of so many bytes. -/
def Within (sz : Nat) (at_ n : Int) : Prop := 0 ≤ at_ ∧ 0 ≤ n ∧ at_ ≤ sz ∧ n ≤ sz - at_
set_option maxHeartbeats 2000000 in
theorem span_none (A : Nat) (L : Loc) (S : Ar.St) (f : Nat → Prop) (h at_ n : Int) (w : World) (hA : ArE A L S f w) (hs : Ar.Sane S) (hq : Ar.PlaceOf S h = none) :
    Calls Tryd.prog 37 #[.pointer (some ⟨A, 0, none⟩), .int .i64 h, .int .i64 at_, .int .i64 n] w fun e w' => e = .returned (.tuple #[.slice none 0 0, .int .i64 5]) ∧ ∃ n, w' = w.drewN n := by
  have HA := Lib.hid hA
  clear hA
  have HQ := Lib.hid hq
  clear hq
  go_enter Tryd.func37, Tryd.ntmps37
  go_wp2_with (first
    | (go_at_call 31; (with_reducible refine (block_none A L S f h _ HA.out hs HQ.out).mono ?_); rintro e w' ⟨rfl, n, rfl⟩))
  go_ret2
  exact ⟨rfl, _, rfl⟩
set_option maxHeartbeats 2000000 in
theorem span_nil (h at_ n : Int) (w : World) : Calls Tryd.prog 37 #[.pointer none, .int .i64 h, .int .i64 at_, .int .i64 n] w fun e w' => e = .returned (.tuple #[.slice none 0 0, .int .i64 5]) ∧ w = w' := by
  go_enter Tryd.func37, Tryd.ntmps37
  go_wp2_with (first
    | (go_at_call 31; (with_reducible refine (block_nil h _).mono ?_); rintro e w' ⟨rfl, rfl⟩))
  go_ret2
  exact ⟨rfl, rfl⟩
theorem inside_at (A : Nat) (L : Loc) (S : Ar.St) (f : Nat → Prop) (a n c : Nat) (w : World) (h : ArE A L S f w) (hm : S.mem.length ≤ 1048576) (hp : (Ar.headAt S.mem a).size = n) (ha : a + 8 + n ≤ S.mem.length) (ha2 : a + 8 < S.mem.length) (hc : S.mem.length - (a + 8) = c) :
    Calls Tryd.prog 53 #[.pointer (some ⟨A, 0, none⟩), .int .i64 (a : Int)] w fun e w' => e = .returned (.slice (some ⟨L.M, a + 8, none⟩) n c) ∧ Below w.heap.size w w' :=
  (inside_any A L S f a n w h hm hp ha ha2).mono fun e w' ⟨⟨c', h1, h2⟩, hb⟩ => ⟨by rw [h1, h2, hc], hb⟩
set_option maxHeartbeats 4000000 in
theorem span_bad (A : Nat) (L : Loc) (S : Ar.St) (f : Nat → Prop) (h at_ n : Int) (a sz : Nat) (w : World) (hA : ArE A L S f w) (hs : Ar.Sane S) (hq : Ar.PlaceOf S h = some a) (hp : (Ar.headAt S.mem a).size = sz) (ha : a + 8 + sz ≤ S.mem.length) (ha2 : a + 8 < S.mem.length) (hw : ¬ Within sz at_ n)
    (hI1 : -9223372036854775808 ≤ at_) (hI2 : at_ ≤ 9223372036854775807) (hI3 : -9223372036854775808 ≤ n) (hI4 : n ≤ 9223372036854775807) :
    Calls Tryd.prog 37 #[.pointer (some ⟨A, 0, none⟩), .int .i64 h, .int .i64 at_, .int .i64 n] w fun e w' => e = .returned (.tuple #[.slice none 0 0, .int .i64 1]) ∧ Below w.heap.size w w' := by
  have HA := Lib.hid hA
  clear hA
  have hmm := hs.mem
  have HQ := Lib.hid hq
  have HP := Lib.hid hp
  obtain ⟨c, hc⟩ : ∃ c, S.mem.length - (a + 8) = c := ⟨_, rfl⟩
  have HC := Lib.hid hc
  clear hq hp hc
  unfold Within at hw
  by_cases c1 : at_ < 0
  · go_enter Tryd.func37, Tryd.ntmps37
    go_wp2_with (first
      | (go_at_call 31; (with_reducible refine (block_some A L S f h a _ HA.out hs HQ.out).mono ?_); rintro e w' ⟨rfl, k, rfl⟩)
      | (go_at_call 53; (with_reducible refine (inside_at A L S f a sz c _ (HA.out.drew _) hs.mem HP.out ha ha2 HC.out).mono ?_); rintro e w' ⟨rfl, hb⟩))
    go_ret2
    exact ⟨rfl, below_drewn hb⟩
  · by_cases c2 : n < 0
    · go_enter Tryd.func37, Tryd.ntmps37
      go_wp2_with (first
        | (go_at_call 31; (with_reducible refine (block_some A L S f h a _ HA.out hs HQ.out).mono ?_); rintro e w' ⟨rfl, k, rfl⟩)
        | (go_at_call 53; (with_reducible refine (inside_at A L S f a sz c _ (HA.out.drew _) hs.mem HP.out ha ha2 HC.out).mono ?_); rintro e w' ⟨rfl, hb⟩))
      go_ret2
      exact ⟨rfl, below_drewn hb⟩
    · by_cases c3 : (sz : Int) < at_
      · go_enter Tryd.func37, Tryd.ntmps37
        go_wp2_with (first
          | (go_at_call 31; (with_reducible refine (block_some A L S f h a _ HA.out hs HQ.out).mono ?_); rintro e w' ⟨rfl, k, rfl⟩)
          | (go_at_call 53; (with_reducible refine (inside_at A L S f a sz c _ (HA.out.drew _) hs.mem HP.out ha ha2 HC.out).mono ?_); rintro e w' ⟨rfl, hb⟩))
        go_ret2
        exact ⟨rfl, below_drewn hb⟩
      · obtain ⟨at_, rfl⟩ := Int.eq_ofNat_of_zero_le (show 0 ≤ at_ by omega)
        have c4 : (sz : Int) - (at_ : Int) < n := by omega
        go_enter Tryd.func37, Tryd.ntmps37
        go_wp2_with (first
          | (go_at_call 31; (with_reducible refine (block_some A L S f h a _ HA.out hs HQ.out).mono ?_); rintro e w' ⟨rfl, k, rfl⟩)
          | (go_at_call 53; (with_reducible refine (inside_at A L S f a sz c _ (HA.out.drew _) hs.mem HP.out ha ha2 HC.out).mono ?_); rintro e w' ⟨rfl, hb⟩))
        go_ret2
        exact ⟨rfl, below_drewn hb⟩
set_option maxHeartbeats 4000000 in
theorem span_good (A : Nat) (L : Loc) (S : Ar.St) (f : Nat → Prop) (h : Int) (at_ n : Nat) (a sz : Nat) (w : World) (hA : ArE A L S f w) (hs : Ar.Sane S) (hq : Ar.PlaceOf S h = some a) (hp : (Ar.headAt S.mem a).size = sz) (ha : a + 8 + sz ≤ S.mem.length) (ha2 : a + 8 < S.mem.length) (hw : at_ + n ≤ sz) :
    Calls Tryd.prog 37 #[.pointer (some ⟨A, 0, none⟩), .int .i64 h, .int .i64 (at_ : Int), .int .i64 (n : Int)] w fun e w' => (∃ ad c, e = .returned (.tuple #[.slice (some ad) n c, .int .i64 0]) ∧ (0 < n → ad = ⟨L.M, a + 8 + at_, none⟩)) ∧ Below w.heap.size w w' := by
  have HA := Lib.hid hA
  clear hA
  have hmm := hs.mem
  have HQ := Lib.hid hq
  have HP := Lib.hid hp
  obtain ⟨c, hc⟩ : ∃ c, S.mem.length - (a + 8) = c := ⟨_, rfl⟩
  have hcs : sz ≤ c := by omega
  have hcm : c ≤ 1048576 := by omega
  have HC := Lib.hid hc
  clear hq hp hc
  by_cases hac : c = at_
  · subst hac
    go_enter Tryd.func37, Tryd.ntmps37
    go_wp2_with (first
      | (go_at_call 31; (with_reducible refine (block_some A L S f h a _ HA.out hs HQ.out).mono ?_); rintro e w' ⟨rfl, k, rfl⟩)
      | (go_at_call 53; (with_reducible refine (inside_at A L S f a sz c _ (HA.out.drew _) hs.mem HP.out ha ha2 HC.out).mono ?_); rintro e w' ⟨rfl, hb⟩))
    rw [show c + n - c = n by omega]
    go_ret2
    exact ⟨⟨_, _, rfl, fun h => by omega⟩, below_drewn hb⟩
  · have hac2 : ¬ (at_ = c) := fun e => hac e.symm
    go_enter Tryd.func37, Tryd.ntmps37
    go_wp2_with (first
      | (go_at_call 31; (with_reducible refine (block_some A L S f h a _ HA.out hs HQ.out).mono ?_); rintro e w' ⟨rfl, k, rfl⟩)
      | (go_at_call 53; (with_reducible refine (inside_at A L S f a sz c _ (HA.out.drew _) hs.mem HP.out ha ha2 HC.out).mono ?_); rintro e w' ⟨rfl, hb⟩))
    rw [show at_ + n - at_ = n by omega]
    go_ret2
    exact ⟨⟨_, _, rfl, fun _ => rfl⟩, below_drewn hb⟩
end Go.Proofs.YtagjjpmhacknpaaDoor

/- Read, Write. -/
set_option maxRecDepth 100000
namespace Go.Proofs.YtagjjpmhacknpaaDoor
open Go.RowKit Go.Shelf
/-- A slice of bytes that is read. -/
structure RdB (v : Value) (l : List UInt8) (W : World) : Prop where
  form : ∃ ao cap, v = .slice ao l.length cap ∧ ∀ (j : Nat) (h : j < l.length), ∃ b off, ao = some ⟨b, off, none⟩ ∧ W.cell? ⟨b, off + j, none⟩ = some (encB l[j])
theorem RdB.below {v : Value} {l : List UInt8} {W W' : World} (h : RdB v l W) (hb : Below W.heap.size W W') : RdB v l W' := by
  obtain ⟨ao, cap, rfl, hc⟩ := h.form
  exact ⟨ao, cap, rfl, fun j hj => by
    obtain ⟨b, off, e, c⟩ := hc j hj
    exact ⟨b, off, e, (hb.cell (cell_lt c)).trans c⟩⟩
theorem RdB.own {v : Value} {l : List UInt8} {W : World} {base : Nat} (h : W.ownsRow base 5 1 v l.length (l.map encB)) : RdB v l W := by
  rcases h.2 with ⟨rfl, hn⟩ | ⟨g, cap, cur, rfl, _⟩
  · exact ⟨none, 0, by rw [hn], fun j hj => by omega⟩
  · exact ⟨some ⟨g, 0, none⟩, cap, rfl, fun j hj => ⟨g, 0, rfl, by
      have := World.ownsRow.cells h (g := g) rfl j (encB l[j]) (by simp [hj])
      have e : (⟨g, 0, none⟩ : Addr).add j = ⟨g, 0 + j, none⟩ := by unfold Addr.add; split <;> simp_all
      rwa [e] at this⟩⟩
theorem ownsRow_base {W : World} {b b' n : Nat} {e : TypeId} {v : Value} {xs : List Value} (h : W.ownsRow b e 1 v n xs) (hb : b' ≤ b) : W.ownsRow b' e 1 v n xs := by
  obtain ⟨h1, h2⟩ := h
  refine ⟨h1, h2.imp id ?_⟩
  rintro ⟨g, cap, cur, e, h3, h4⟩
  exact ⟨g, cap, cur, e, by omega, h4⟩
theorem below_trans {W A C : World} (h : Below W.heap.size W A) (k : Below A.heap.size A C) : Below W.heap.size W C := h.trans (k.mono h.size)
/-- What Read hands back: new memory. -/
def ReadRet (l : List UInt8) (w : World) (e : Ending) (w' : World) : Prop := ∃ v, e = .returned (.tuple #[v, .int .i64 0]) ∧ w'.ownsRow w.heap.size 5 1 v l.length (l.map encB) ∧ Below w.heap.size w w'
theorem clone_some (ad : Addr) (c n : Nat) (l : List UInt8) (w : World) (hn : n = l.length) (hl : l.length ≤ 1048576) (hc : ∀ i (h : i < l.length), w.cell? (ad.add i) = some (encB l[i])) :
    Calls Tryd.prog 38 #[.slice (some ad) n c] w fun e w' => ∃ v', e = .returned v' ∧ w'.ownsRow w.heap.size 5 1 v' l.length (l.map encB) ∧ Below w.heap.size w w' := by
  subst hn
  refine (Any.bytes_Clone_at Tryd.lays4 ad l.length c (l.map fun x => (x.toNat : Int)) w (by simp) (by omega) (fun i hi => by rw [hc i hi]; simp [hi, encB])).mono fun e w' ⟨v', h1, h2, _, h3⟩ => ⟨v', h1, ?_, h3⟩
  rw [List.map_map] at h2
  exact h2
theorem clone_none (w : World) : Calls Tryd.prog 38 #[.slice none 0 0] w fun e w' => e = .returned (.slice none 0 0) ∧ w = w' :=
  (Any.bytes_Clone_nil Tryd.lays4 0 0 w).mono fun _e _w' ⟨h1, h2⟩ => ⟨h1, h2.symm⟩
set_option maxHeartbeats 4000000 in
theorem read_good (A : Nat) (L : Loc) (S : Ar.St) (f : Nat → Prop) (h : Int) (at_ n : Nat) (a sz : Nat) (w : World) (hA : ArE A L S f w) (hs : Ar.Sane S) (hq : Ar.PlaceOf S h = some a) (hp : (Ar.headAt S.mem a).size = sz) (ha : a + 8 + sz ≤ S.mem.length) (ha2 : a + 8 < S.mem.length) (hw : at_ + n ≤ sz) :
    Calls Tryd.prog 12 #[.pointer (some ⟨A, 0, none⟩), .int .i64 h, .int .i64 (at_ : Int), .int .i64 (n : Int)] w (ReadRet ((S.mem.drop (a + 8 + at_)).take n) w) := by
  have hsp := Lib.hid (span_good A L S f h at_ n a sz w hA hs hq hp ha ha2 hw)
  have HA := Lib.hid hA
  have hm := hs.mem
  have hl : ((S.mem.drop (a + 8 + at_)).take n).length = n := by simp; omega
  have hcell : ∀ i (hi : i < ((S.mem.drop (a + 8 + at_)).take n).length), w.cell? ⟨L.M, a + 8 + at_ + i, none⟩ = some (encB ((S.mem.drop (a + 8 + at_)).take n)[i]) := fun i hi => by
    refine hA.mem.cell ?_
    have hlt : a + 8 + at_ + i < S.mem.length := by rw [hl] at hi; omega
    simp [hlt]
  have HC := Lib.hid hcell
  have HL := Lib.hid hl
  have hMl := hA.mem.lt
  generalize (S.mem.drop (a + 8 + at_)).take n = l at *
  clear hA hq hp hcell hl
  go_enter Tryd.func12, Tryd.ntmps12
  go_wp2_with (first
    | (go_at_call 37; (refine hsp.out.mono ?_); rintro e w1 ⟨⟨ad, c, rfl, had⟩, hb1⟩; have HAD := Lib.hid had; clear had)
    | (go_at_call 38; (refine (clone_some ad c n l _ HL.out.symm (by rw [HL.out]; omega) (fun i hi => by
        rw [HAD.out (by rw [← HL.out]; omega)]
        have e : (⟨L.M, a + 8 + at_, none⟩ : Addr).add i = ⟨L.M, a + 8 + at_ + i, none⟩ := by unfold Addr.add; split <;> simp_all
        rw [e, ← HC.out i hi]
        exact hb1.cell (p := ⟨L.M, a + 8 + at_ + i, none⟩) hMl)).mono ?_); rintro e w2 ⟨v', rfl, hown, hb2⟩))
  go_ret2
  exact ⟨v', rfl, ownsRow_base hown hb1.size, below_trans hb1 hb2⟩
def ErrRet (v : Value) (w : World) (e : Ending) (w' : World) : Prop := e = .returned v ∧ Below w.heap.size w w'
theorem below_dr (w : World) (n : Nat) : Below w.heap.size w (w.drewN n) := ⟨rfl, rfl, rfl, Nat.le_refl _, fun _ _ => rfl⟩
set_option maxHeartbeats 4000000 in
theorem read_err (v : Value) (h at_ n : Int) (er : Nat) (w : World) (hsp : Calls Tryd.prog 37 #[v, .int .i64 h, .int .i64 at_, .int .i64 n] w fun e w' => e = .returned (.tuple #[.slice none 0 0, .int .i64 (er : Int)]) ∧ Below w.heap.size w w') :
    Calls Tryd.prog 12 #[v, .int .i64 h, .int .i64 at_, .int .i64 n] w (ErrRet (.tuple #[.slice none 0 0, .int .i64 (er : Int)]) w) := by
  have HSP := Lib.hid hsp
  clear hsp
  go_enter Tryd.func12, Tryd.ntmps12
  go_wp2_with (first
    | (go_at_call 37; (refine HSP.out.mono ?_); rintro e w1 ⟨rfl, hb1⟩)
    | (go_at_call 38; (refine (clone_none _).mono ?_); rintro e w2 ⟨rfl, rfl⟩))
  go_ret2
  exact ⟨rfl, hb1⟩
theorem copy_nil (ty : TypeId) (ao : Option Addr) (n c : Nat) (W : World) : (Builtin.copy_ #[34, 34] ty #[.slice none 0 0, .slice ao n c]).run Tryd.prog W = .ok (goInt 0) W :=
  run_copy_none (P := Tryd.prog) W 34 34 ty 5 none ao 0 0 n c Tryd.underlying34 (by kernel_rfl) (by simp)
set_option maxHeartbeats 4000000 in
theorem write_err (v b : Value) (l : List UInt8) (h at_ : Int) (er : Nat) (w : World) (hb : RdB b l w) (_hl : l.length ≤ 1048576) (hsp : Calls Tryd.prog 37 #[v, .int .i64 h, .int .i64 at_, .int .i64 (l.length : Int)] w fun e w' => e = .returned (.tuple #[.slice none 0 0, .int .i64 (er : Int)]) ∧ Below w.heap.size w w') :
    Calls Tryd.prog 14 #[v, .int .i64 h, .int .i64 at_, b] w (ErrRet (.int .i64 (er : Int)) w) := by
  have HSP := Lib.hid hsp
  clear hsp
  obtain ⟨ao, cap, rfl, hc⟩ := hb.form
  have hcp := fun ty W => copy_nil ty ao l.length cap W
  clear hc hb
  go_enter Tryd.func14, Tryd.ntmps14
  go_wp2_with (first
    | (go_at_call 37; (refine HSP.out.mono ?_); rintro e w1 ⟨rfl, hb1⟩))
  go_ret
  exact ⟨rfl, hb1⟩
theorem copy_in (ty : TypeId) (M o d1 d2 c : Nat) (mem l : List UInt8) (src : Addr) (W : World) (h : Blk W M (mem.map encB) 5) (hn : l.length ≤ d1) (ht : o + l.length ≤ mem.length) (hsrc : ∀ j (hj : j < l.length), W.cell? (src.add j) = some (encB l[j])) :
    (Builtin.copy_ #[34, 34] ty #[.slice (some ⟨M, o, none⟩) d1 d2, .slice (some src) l.length c]).run Tryd.prog W = .ok (goInt l.length) (W.setRow M ((Ar.put mem o l).map encB).toArray) := by
  have hl : (l.map encB).length = l.length := by simp
  have hr := run_copy_row (P := Tryd.prog) W 34 34 ty 5 M o d1 d2 src l.length c (mem.map encB).toArray 5 (l.map encB) Tryd.underlying34 (by kernel_rfl) h (by rw [hl]; exact (Nat.min_eq_left hn).symm) (fun j v hj => by
    obtain ⟨hj1, hj2⟩ := List.getElem?_eq_some_iff.1 hj
    rw [← hj2, hsrc j (by simpa using hj1)]
    simp) (by simp; omega) (fun v hv => by obtain ⟨x, _, rfl⟩ := List.mem_map.1 hv; exact encB_one x)
  rw [hr, hl]
  congr 3
  unfold Ar.put
  simp
def WriteRet (A : Nat) (L : Loc) (S : Ar.St) (f : Nat → Prop) (w : World) (e : Ending) (w' : World) : Prop := e = .returned (.int .i64 0) ∧ Ars A L S f w w'
set_option maxHeartbeats 4000000 in
theorem write_good (A : Nat) (L : Loc) (S : Ar.St) (f : Nat → Prop) (h : Int) (at_ : Nat) (b : Value) (l : List UInt8) (a sz : Nat) (w : World) (hA : ArE A L S f w) (hs : Ar.Sane S) (hb : RdB b l w) (hq : Ar.PlaceOf S h = some a) (hp : (Ar.headAt S.mem a).size = sz) (ha : a + 8 + sz ≤ S.mem.length) (ha2 : a + 8 < S.mem.length) (hw : at_ + l.length ≤ sz) :
    Calls Tryd.prog 14 #[.pointer (some ⟨A, 0, none⟩), .int .i64 h, .int .i64 (at_ : Int), b] w (WriteRet A L { S with mem := Ar.put S.mem (a + 8 + at_) l } f w) := by
  have hsp := Lib.hid (span_good A L S f h at_ l.length a sz w hA hs hq hp ha ha2 hw)
  have HA := Lib.hid hA
  have hm := hs.mem
  obtain ⟨ao, cap, rfl, hc⟩ := hb.form
  by_cases h0 : l = []
  · subst h0
    have e0 : Ar.put S.mem (a + 8 + at_) [] = S.mem := by simp [Ar.put]
    have E0 := Lib.hid e0
    clear hq hp hA hc e0
    go_enter Tryd.func14, Tryd.ntmps14
    go_wp2_with (first
      | (go_at_call 37; (refine hsp.out.mono ?_); rintro e w1 ⟨⟨ad, c, rfl, had⟩, hb1⟩; have hcp := fun ty W => run_copy_none (P := Tryd.prog) W 34 34 ty 5 (some ad) ao 0 c 0 cap Tryd.underlying34 (by kernel_rfl) (by simp)))
    go_ret
    exact ⟨rfl, by rw [E0.out]; exact (Ars.start HA.out).below hb1⟩
  · have hlen : 0 < l.length := List.length_pos_iff.2 h0
    obtain ⟨sb, so, hao, _⟩ := hc 0 hlen
    subst hao
    have HC : Hid (∀ (W : World), Below w.heap.size w W → ∀ j (hj : j < l.length), W.cell? ((⟨sb, so, none⟩ : Addr).add j) = some (encB l[j])) := Lib.hid (fun W hB j hj => by
      obtain ⟨b', off', e, c1⟩ := hc j hj
      cases e
      have e2 : (⟨sb, so, none⟩ : Addr).add j = ⟨sb, so + j, none⟩ := by unfold Addr.add; split <;> simp_all
      rw [e2]
      exact (hB.cell (p := ⟨sb, so + j, none⟩) (cell_lt c1)).trans c1)
    have hM := Lib.hid hA.mem
    have hsz : a + 8 + at_ + l.length ≤ S.mem.length := by omega
    clear hq hp hA hc hb
    go_enter Tryd.func14, Tryd.ntmps14
    go_wp2_with (first
      | (go_at_call 37; (refine hsp.out.mono ?_); rintro e w1 ⟨⟨ad, c, rfl, had⟩, hb1⟩; obtain rfl := had hlen; have hM1 := hM.out.kept (hb1.block _ hM.out.lt); have hcp := fun ty => copy_in ty L.M (a + 8 + at_) l.length c cap S.mem l ⟨sb, so, none⟩ w1 hM1 (Nat.le_refl _) hsz (HC.out w1 hb1); have CB := Lib.hid (copy_blk L.M S.mem (Ar.put S.mem (a + 8 + at_) l) w1 hM1); have HB1 := Lib.hid hb1; clear hb1 hM1 had))
    go_ret
    refine ⟨rfl, ((Ars.start HA.out).below HB1.out).call (CB.out.2.mono (fun k _ e => .inr (.inl e))) (((HA.out.below HB1.out).tight).setMem CB.out.1 (Ar.put_len _ _ _ hsz) (fun k hk hs => CB.out.2.block k hs hk) CB.out.2.size)⟩
end Go.Proofs.YtagjjpmhacknpaaDoor

/- The bytes of a block: what Read and Write do to what holds of an arena. -/
set_option maxRecDepth 100000
namespace Go.Proofs.YtagjjpmhacknpaaDoor
namespace Ar
theorem mid_bytes (X D Y : List UInt8) (k n : Nat) (hk : k + n ≤ D.length) : ((X ++ (D ++ Y)).drop (X.length + k)).take n = (D.drop k).take n := by
  rw [List.drop_length_add_append, List.drop_append_of_le_length (by omega), List.take_append_of_le_length (by simp; omega)]
theorem put_in (X D Y l : List UInt8) (k : Nat) (hk : k + l.length ≤ D.length) : put (X ++ (D ++ Y)) (X.length + k) l = X ++ (put D k l ++ Y) := by
  unfold put
  rw [List.take_length_add_append, show X.length + k + l.length = X.length + (k + l.length) by omega, List.drop_length_add_append, List.take_append_of_le_length (by omega), List.drop_append_of_le_length (by omega)]
  simp [List.append_assoc]
theorem at_swap {p p' : Pc} (ht : p'.takes = p.takes) : ∀ {xs ys : List Pc} {v : Nat} {q : Pc}, At (xs ++ p :: ys) v q → At (xs ++ p' :: ys) v q ∨ (q = p ∧ At (xs ++ p' :: ys) v p')
  | [], ys, v, q, h => by
    rcases h with ⟨h1, h2⟩ | ⟨v', h1, h2⟩
    · exact .inr ⟨h2, .inl ⟨h1, rfl⟩⟩
    · exact .inl (.inr ⟨v', by rw [ht]; exact h1, h2⟩)
  | x :: xs, ys, v, q, h => by
    rcases h with ⟨h1, h2⟩ | ⟨v', h1, h2⟩
    · exact .inl (.inl ⟨h1, h2⟩)
    · rcases at_swap ht h2 with h3 | ⟨h3, h4⟩
      · exact .inl (.inr ⟨v', h1, h3⟩)
      · exact .inr ⟨h3, .inr ⟨v', h1, h4⟩⟩
theorem lastT_swap {p p' : Pc} (ht : p'.takes = p.takes) (a : Nat) (xs ys : List Pc) : lastT a (xs ++ p' :: ys) = lastT a (xs ++ p :: ys) := by
  rw [lastT_app, lastT_app]; simp only [lastT]; rw [ht]
theorem total_swap {p p' : Pc} (ht : p'.takes = p.takes) (xs ys : List Pc) : total (xs ++ p' :: ys) = total (xs ++ p :: ys) := by
  rw [total_app, total_app]; simp only [total]; rw [ht]
/-- Other bytes within one block. -/
theorem Inv.data {S : St} {xs ys : List Pc} {p : Pc} (I : Inv S (xs ++ p :: ys)) (hf : p.free = false) (d : List UInt8) (hd : d.length = p.data.length) :
    Inv { S with mem := put S.mem (total xs + 8) d } (xs ++ { p with data := d } :: ys) := by
  have ht : ({ p with data := d } : Pc).takes = p.takes := by show d.length + 8 = p.data.length + 8; rw [hd]
  obtain ⟨rest, hm, hr⟩ := I.mem
  have hmem : put S.mem (total xs + 8) d = lay 0 (xs ++ { p with data := d } :: ys) ++ rest := by
    rw [hm, lay_app, lay_app]
    simp only [lay, ht]
    have e : lay 0 xs ++ (p.bytes (lastT 0 xs) ++ lay p.takes ys) ++ rest = (lay 0 xs ++ byte8 (p.hd (lastT 0 xs)).word) ++ (p.data ++ (lay p.takes ys ++ rest)) := by
      unfold Pc.bytes; simp only [List.append_assoc]
    have e2 : lay 0 xs ++ (({ p with data := d } : Pc).bytes (lastT 0 xs) ++ lay p.takes ys) ++ rest = (lay 0 xs ++ byte8 (p.hd (lastT 0 xs)).word) ++ (d ++ (lay p.takes ys ++ rest)) := by
      unfold Pc.bytes Pc.hd; simp only [List.append_assoc]
    rw [e, e2]
    refine put_mid _ _ _ _ _ ?_ hd.symm
    rw [List.length_append, lay_len]
    unfold byte8
    rw [lastB_len]
  have hml : (put S.mem (total xs + 8) d).length = S.mem.length := by
    rw [hmem, hm, List.length_append, List.length_append, lay_len, lay_len, total_swap ht]
  have hat : ∀ v q, At (xs ++ { p with data := d } :: ys) v q → ∃ q', At (xs ++ p :: ys) v q' ∧ q'.free = q.free ∧ q'.owner = q.owner ∧ q'.size = q.size := fun v q h => by
    rcases at_swap (p := { p with data := d }) (p' := p) ht.symm h with h | ⟨rfl, h2⟩
    · exact ⟨q, h, rfl, rfl, rfl⟩
    · exact ⟨p, h2, rfl, rfl, rfl⟩
  have hat2 : ∀ v q, At (xs ++ p :: ys) v q → ∃ q', At (xs ++ { p with data := d } :: ys) v q' ∧ q'.free = q.free ∧ q'.owner = q.owner ∧ q'.size = q.size := fun v q h => by
    rcases at_swap (p := p) (p' := { p with data := d }) ht h with h | ⟨rfl, h2⟩
    · exact ⟨q, h, rfl, rfl, rfl⟩
    · exact ⟨_, h2, rfl, rfl, rfl⟩
  obtain ⟨E, sp, hc, hfr⟩ := I.fr
  refine ⟨⟨rest, hmem, hr⟩, by show (put _ _ _).length ≤ _; rw [hml]; exact I.lim, fun q hq => ?_, ⟨E, sp, hc, fun i c v => ?_⟩, I.nd, I.tab.congr rfl rfl rfl, by show (put _ _ _).length / 16 ≤ _; rw [hml]; exact I.cap, fun h v => ?_, ?_⟩
  · rcases List.mem_append.1 hq with h | h
    · exact I.ok q (List.mem_append_left _ h)
    · rcases List.mem_cons.1 h with rfl | h
      · have k := I.ok p (by simp)
        exact ⟨by rw [ht]; exact k.m16, by rw [ht]; exact k.ge, k.own, fun e => by rw [ht]; exact k.fr e, fun e => by rw [ht]; exact k.bl e⟩
      · exact I.ok q (List.mem_append_right _ (List.mem_cons_of_mem _ h))
  · rw [hfr i c v]
    constructor
    · rintro ⟨q, h1, h2, h3, h4⟩
      have h1 := (atG_zero _ _ _ _).1 h1
      rw [List.append_nil] at h1
      obtain ⟨q', k1, k2, k3, k4⟩ := hat2 v q h1
      exact ⟨q', (atG_zero _ _ _ _).2 (by rw [List.append_nil]; exact k1), by rw [k2]; exact h2, by rw [k3]; exact h3, by rw [k4]; exact h4⟩
    · rintro ⟨q, h1, h2, h3, h4⟩
      have h1 := (atG_zero _ _ _ _).1 h1
      rw [List.append_nil] at h1
      obtain ⟨q', k1, k2, k3, k4⟩ := hat v q h1
      exact ⟨q', (atG_zero _ _ _ _).2 (by rw [List.append_nil]; exact k1), by rw [k2]; exact h2, by rw [k3]; exact h3, by rw [k4]; exact h4⟩
  · show PlaceOf S (h : Int) = some v ↔ _
    rw [I.hn]
    constructor
    · rintro ⟨q, h1, h2, h3⟩
      obtain ⟨q', k1, k2, k3, _⟩ := hat2 v q h1
      exact ⟨q', k1, by rw [k2]; exact h2, by rw [k3]; exact h3⟩
    · rintro ⟨q, h1, h2, h3⟩
      obtain ⟨q', k1, k2, k3, _⟩ := hat v q h1
      exact ⟨q', k1, by rw [k2]; exact h2, by rw [k3]; exact h3⟩
  · show S.used = _
    rw [I.used, blocks_app, blocks_app, blocks_block ys hf, blocks_block (p := { p with data := d }) ys hf, sumT_app, sumT_app, sumT_cons, sumT_cons, ht]
/-- Where the bytes of a block lie. -/
theorem Inv.bytes {S : St} {xs ys : List Pc} {p : Pc} (I : Inv S (xs ++ p :: ys)) (k n : Nat) (hk : k + n ≤ p.data.length) : (S.mem.drop (total xs + 8 + k)).take n = (p.data.drop k).take n := by
  obtain ⟨rest, hm, _⟩ := I.mem
  have e : S.mem = (lay 0 xs ++ byte8 (p.hd (lastT 0 xs)).word) ++ (p.data ++ (lay p.takes ys ++ rest)) := by
    rw [hm, lay_app]; simp only [lay]; unfold Pc.bytes; simp only [List.append_assoc]
  have hl : (lay 0 xs ++ byte8 (p.hd (lastT 0 xs)).word).length = total xs + 8 := by
    rw [List.length_append, lay_len]; unfold byte8; rw [lastB_len]
  rw [e, ← hl]
  exact mid_bytes _ _ _ _ _ hk
/-- Bytes put within a block. -/
theorem Inv.put_ {S : St} {xs ys : List Pc} {p : Pc} (I : Inv S (xs ++ p :: ys)) (k : Nat) (l : List UInt8) (hk : k + l.length ≤ p.data.length) : put S.mem (total xs + 8 + k) l = put S.mem (total xs + 8) (put p.data k l) := by
  obtain ⟨rest, hm, _⟩ := I.mem
  have e : S.mem = (lay 0 xs ++ byte8 (p.hd (lastT 0 xs)).word) ++ (p.data ++ (lay p.takes ys ++ rest)) := by
    rw [hm, lay_app]; simp only [lay]; unfold Pc.bytes; simp only [List.append_assoc]
  have hl : (lay 0 xs ++ byte8 (p.hd (lastT 0 xs)).word).length = total xs + 8 := by
    rw [List.length_append, lay_len]; unfold byte8; rw [lastB_len]
  rw [e]
  generalize lay 0 xs ++ byte8 (p.hd (lastT 0 xs)).word = X at *
  generalize lay p.takes ys ++ rest = Y
  rw [put_mid X p.data Y (put p.data k l) _ hl.symm (by rw [put_len _ _ _ hk]), ← hl]
  exact put_in _ _ _ _ _ hk
end Ar
end Go.Proofs.YtagjjpmhacknpaaDoor

/- What holds of a new arena. -/
set_option maxRecDepth 100000
namespace Go.Proofs.YtagjjpmhacknpaaDoor
namespace Ar
theorem placeOf_new (B k : Nat) (z : Int) : PlaceOf (newSt B k) z = none := by
  cases h : PlaceOf (newSt B k) z with
  | none => rfl
  | some v =>
    obtain ⟨i, e, hk, hb, _⟩ := placeOf_some h
    exfalso
    rw [bitOn_test', Nat.add_sub_cancel] at hb
    have : (newSt B k).us.getD (i / 64) 0 = 0 := by unfold newSt; simp [List.getD_eq_getElem?_getD, List.getElem?_replicate]; split <;> rfl
    rw [this] at hb
    simp at hb
theorem new_inv (B : Nat) (h1 : 1024 ≤ B) (h2 : B ≤ 1048576) : ∃ pcs, Inv (new B) pcs ∧ blocks pcs = [] ∧ (new B).mem.length = B := by
  obtain ⟨k, hk⟩ : ∃ k, k = (B / 16 + 63) / 64 := ⟨_, rfl⟩
  have hlen : (newSt B k).mem.length = B := by simp [newSt]
  have hfr : Frees (fun _ => none) [] (List.replicate (B / 16 * 16) (0 : UInt8)).length [] := fun i c v => by
    constructor
    · intro h; cases h
    · rintro ⟨p, h1, _⟩; cases at_of_atG h1
  have g : Gap (newSt B k) [] (List.replicate (B / 16 * 16) 0) 0 [] (List.replicate (B % 16) 0) (fun _ => none) [] :=
    ⟨by simp only [lay, List.nil_append, List.append_nil]; rw [List.replicate_append_replicate, show B / 16 * 16 + B % 16 = B by omega]; rfl, by simp; omega, by rw [hlen]; exact h2, (fun p hp => by cases hp), (fun p hp => by cases hp), by omega, Ch.ring0, hfr, by show ring0.length < _; unfold ring0; rw [ring_len]; omega⟩
  have htab : Tab (newSt B k) := ⟨by simp [newSt]; omega, by simp [newSt]; omega, fun x hx => by have := List.eq_of_mem_replicate hx; omega, fun x hx => by have := List.eq_of_mem_replicate hx; omega, Nat.zero_le _, fun j hj => by cases hj⟩
  obtain ⟨i, _, hinv, hb⟩ := g.inv (by simp; omega) (by simp) (by show ring0.length ≤ _; unfold ring0; rw [ring_len]; omega) htab (by rw [hlen]; simp [newSt]; omega) (fun h v => by
    rw [placeOf_new]
    constructor
    · intro h; cases h
    · rintro ⟨p, h1, _⟩; cases at_of_atG h1) rfl
  simp only [total, lastT, List.length_replicate] at hinv
  have hput := (g.fill (by simp; omega) (by simp)).1
  simp only [total, lastT, List.length_replicate] at hput
  unfold new
  rw [← hk]
  exact ⟨_, hinv, hb, by rw [putFree_len _ _ _ _ hput.1 hput.2.1 hput.2.2.1]; exact hlen⟩
end Ar
end Go.Proofs.YtagjjpmhacknpaaDoor
