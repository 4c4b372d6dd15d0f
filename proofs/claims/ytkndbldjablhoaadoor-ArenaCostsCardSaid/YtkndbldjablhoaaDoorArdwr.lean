/- Read, Write. -/
import Derived.Test.YtkndbldjablhoaaDoorAspan
set_option maxRecDepth 100000
namespace Go.Proofs.YtkndbldjablhoaaDoor
open Go.RowKit Go.Shelf
/-- A slice of bytes that is read. -/
structure RdB (v : Value) (l : List UInt8) (W : World) : Prop where
  form : ∃ ao cap, v = .slice ao l.length cap ∧ ∀ (j : Nat) (h : j < l.length), ∃ b off, ao = some ⟨b, off, none⟩ ∧ W.cell? ⟨b, off + j, none⟩ = some (encB l[j])
theorem RdB.below {v : Value} {l : List UInt8} {W W' : World} (h : RdB v l W) (hb : Below W.heap.size W W') : RdB v l W' := by
  obtain ⟨ao, cap, rfl, hc⟩ := h.form
  exact ⟨ao, cap, rfl, fun j hj => by
    obtain ⟨b, off, e, c⟩ := hc j hj
    exact ⟨b, off, e, (hb.cell (cell_lt c)).trans c⟩⟩
theorem RdB.own {v : Value} {l : List UInt8} {W : World} {base : Nat} (h : W.ownsRow base 5 1 v l.length (l.map encB)) : RdB v l W := by
  rcases h.2 with ⟨rfl, hn⟩ | ⟨g, cap, cur, rfl, _⟩
  · exact ⟨none, 0, by rw [hn], fun j hj => by omega⟩
  · exact ⟨some ⟨g, 0, none⟩, cap, rfl, fun j hj => ⟨g, 0, rfl, by
      have := World.ownsRow.cells h (g := g) rfl j (encB l[j]) (by simp [hj])
      have e : (⟨g, 0, none⟩ : Addr).add j = ⟨g, 0 + j, none⟩ := by unfold Addr.add; split <;> simp_all
      rwa [e] at this⟩⟩
theorem ownsRow_base {W : World} {b b' n : Nat} {e : TypeId} {v : Value} {xs : List Value} (h : W.ownsRow b e 1 v n xs) (hb : b' ≤ b) : W.ownsRow b' e 1 v n xs := by
  obtain ⟨h1, h2⟩ := h
  refine ⟨h1, h2.imp id ?_⟩
  rintro ⟨g, cap, cur, e, h3, h4⟩
  exact ⟨g, cap, cur, e, by omega, h4⟩
theorem below_trans {W A C : World} (h : Below W.heap.size W A) (k : Below A.heap.size A C) : Below W.heap.size W C := h.trans (k.mono h.size)
/-- What Read hands back: new memory. -/
def ReadRet (l : List UInt8) (w : World) (e : Ending) (w' : World) : Prop := ∃ v, e = .returned (.tuple #[v, .int .i64 0]) ∧ w'.ownsRow w.heap.size 5 1 v l.length (l.map encB) ∧ Below w.heap.size w w'
theorem clone_some (ad : Addr) (c n : Nat) (l : List UInt8) (w : World) (hn : n = l.length) (hl : l.length ≤ 1048576) (hc : ∀ i (h : i < l.length), w.cell? (ad.add i) = some (encB l[i])) :
    Calls Tryd.prog 44 #[.slice (some ad) n c] w fun e w' => ∃ v', e = .returned v' ∧ w'.ownsRow w.heap.size 5 1 v' l.length (l.map encB) ∧ Below w.heap.size w w' := by
  subst hn
  refine (Any.bytes_Clone_at Tryd.lays4 ad l.length c (l.map fun x => (x.toNat : Int)) w (by simp) (by omega) (fun i hi => by rw [hc i hi]; simp [hi, encB])).mono fun e w' ⟨v', h1, h2, _, h3⟩ => ⟨v', h1, ?_, h3⟩
  rw [List.map_map] at h2
  exact h2
theorem clone_none (w : World) : Calls Tryd.prog 44 #[.slice none 0 0] w fun e w' => e = .returned (.slice none 0 0) ∧ w = w' :=
  (Any.bytes_Clone_nil Tryd.lays4 0 0 w).mono fun e w' ⟨h1, h2⟩ => ⟨h1, h2.symm⟩
set_option maxHeartbeats 4000000 in
theorem read_good (A : Nat) (L : Loc) (S : Ar.St) (f : Nat → Prop) (h : Int) (at_ n : Nat) (a sz : Nat) (w : World) (hA : ArE A L S f w) (hs : Ar.Sane S) (hq : Ar.PlaceOf S h = some a) (hp : (Ar.headAt S.mem a).size = sz) (ha : a + 8 + sz ≤ S.mem.length) (ha2 : a + 8 < S.mem.length) (hw : at_ + n ≤ sz) :
    Calls Tryd.prog 17 #[.pointer (some ⟨A, 0, none⟩), .int .i64 h, .int .i64 (at_ : Int), .int .i64 (n : Int)] w (ReadRet ((S.mem.drop (a + 8 + at_)).take n) w) := by
  have hsp := Lib.hid (span_good A L S f h at_ n a sz w hA hs hq hp ha ha2 hw)
  have HA := Lib.hid hA
  have hm := hs.mem
  have hl : ((S.mem.drop (a + 8 + at_)).take n).length = n := by simp; omega
  have hcell : ∀ i (hi : i < ((S.mem.drop (a + 8 + at_)).take n).length), w.cell? ⟨L.M, a + 8 + at_ + i, none⟩ = some (encB ((S.mem.drop (a + 8 + at_)).take n)[i]) := fun i hi => by
    refine hA.mem.cell ?_
    have hlt : a + 8 + at_ + i < S.mem.length := by rw [hl] at hi; omega
    simp [hlt]
  have HC := Lib.hid hcell
  have HL := Lib.hid hl
  have hMl := hA.mem.lt
  generalize (S.mem.drop (a + 8 + at_)).take n = l at *
  clear hA hq hp hcell hl
  go_enter Tryd.func17, Tryd.ntmps17
  go_wp2_with (first
    | (go_at_call 43; (refine hsp.out.mono ?_); rintro e w1 ⟨⟨ad, c, rfl, had⟩, hb1⟩; have HAD := Lib.hid had; clear had)
    | (go_at_call 44; (refine (clone_some ad c n l _ HL.out.symm (by rw [HL.out]; omega) (fun i hi => by
        rw [HAD.out (by rw [← HL.out]; omega)]
        have e : (⟨L.M, a + 8 + at_, none⟩ : Addr).add i = ⟨L.M, a + 8 + at_ + i, none⟩ := by unfold Addr.add; split <;> simp_all
        rw [e, ← HC.out i hi]
        exact hb1.cell (p := ⟨L.M, a + 8 + at_ + i, none⟩) hMl)).mono ?_); rintro e w2 ⟨v', rfl, hown, hb2⟩))
  go_ret2
  exact ⟨v', rfl, ownsRow_base hown hb1.size, below_trans hb1 hb2⟩
def ErrRet (v : Value) (w : World) (e : Ending) (w' : World) : Prop := e = .returned v ∧ Below w.heap.size w w'
theorem below_dr (w : World) (n : Nat) : Below w.heap.size w (w.drewN n) := ⟨rfl, rfl, rfl, Nat.le_refl _, fun _ _ => rfl⟩
set_option maxHeartbeats 4000000 in
theorem read_err (v : Value) (h at_ n : Int) (er : Nat) (w : World) (hsp : Calls Tryd.prog 43 #[v, .int .i64 h, .int .i64 at_, .int .i64 n] w fun e w' => e = .returned (.tuple #[.slice none 0 0, .int .i64 (er : Int)]) ∧ Below w.heap.size w w') :
    Calls Tryd.prog 17 #[v, .int .i64 h, .int .i64 at_, .int .i64 n] w (ErrRet (.tuple #[.slice none 0 0, .int .i64 (er : Int)]) w) := by
  have HSP := Lib.hid hsp
  clear hsp
  go_enter Tryd.func17, Tryd.ntmps17
  go_wp2_with (first
    | (go_at_call 43; (refine HSP.out.mono ?_); rintro e w1 ⟨rfl, hb1⟩)
    | (go_at_call 44; (refine (clone_none _).mono ?_); rintro e w2 ⟨rfl, rfl⟩))
  go_ret2
  exact ⟨rfl, hb1⟩
theorem copy_nil (ty : TypeId) (ao : Option Addr) (n c : Nat) (W : World) : (Builtin.copy_ #[34, 34] ty #[.slice none 0 0, .slice ao n c]).run Tryd.prog W = .ok (goInt 0) W :=
  run_copy_none (P := Tryd.prog) W 34 34 ty 5 none ao 0 0 n c Tryd.underlying34 (by kernel_rfl) (by simp)
set_option maxHeartbeats 4000000 in
theorem write_err (v b : Value) (l : List UInt8) (h at_ : Int) (er : Nat) (w : World) (hb : RdB b l w) (hl : l.length ≤ 1048576) (hsp : Calls Tryd.prog 43 #[v, .int .i64 h, .int .i64 at_, .int .i64 (l.length : Int)] w fun e w' => e = .returned (.tuple #[.slice none 0 0, .int .i64 (er : Int)]) ∧ Below w.heap.size w w') :
    Calls Tryd.prog 19 #[v, .int .i64 h, .int .i64 at_, b] w (ErrRet (.int .i64 (er : Int)) w) := by
  have HSP := Lib.hid hsp
  clear hsp
  obtain ⟨ao, cap, rfl, hc⟩ := hb.form
  have hcp := fun ty W => copy_nil ty ao l.length cap W
  clear hc hb
  go_enter Tryd.func19, Tryd.ntmps19
  go_wp2_with (first
    | (go_at_call 43; (refine HSP.out.mono ?_); rintro e w1 ⟨rfl, hb1⟩))
  go_ret
  exact ⟨rfl, hb1⟩
theorem copy_in (ty : TypeId) (M o d1 d2 c : Nat) (mem l : List UInt8) (src : Addr) (W : World) (h : Blk W M (mem.map encB) 5) (hn : l.length ≤ d1) (ht : o + l.length ≤ mem.length) (hsrc : ∀ j (hj : j < l.length), W.cell? (src.add j) = some (encB l[j])) :
    (Builtin.copy_ #[34, 34] ty #[.slice (some ⟨M, o, none⟩) d1 d2, .slice (some src) l.length c]).run Tryd.prog W = .ok (goInt l.length) (W.setRow M ((Ar.put mem o l).map encB).toArray) := by
  have hl : (l.map encB).length = l.length := by simp
  have hr := run_copy_row (P := Tryd.prog) W 34 34 ty 5 M o d1 d2 src l.length c (mem.map encB).toArray 5 (l.map encB) Tryd.underlying34 (by kernel_rfl) h (by rw [hl]; exact (Nat.min_eq_left hn).symm) (fun j v hj => by
    obtain ⟨hj1, hj2⟩ := List.getElem?_eq_some_iff.1 hj
    rw [← hj2, hsrc j (by simpa using hj1)]
    simp) (by simp; omega) (fun v hv => by obtain ⟨x, _, rfl⟩ := List.mem_map.1 hv; exact encB_one x)
  rw [hr, hl]
  congr 3
  unfold Ar.put
  simp
def WriteRet (A : Nat) (L : Loc) (S : Ar.St) (f : Nat → Prop) (w : World) (e : Ending) (w' : World) : Prop := e = .returned (.int .i64 0) ∧ Ars A L S f w w'
set_option maxHeartbeats 4000000 in
theorem write_good (A : Nat) (L : Loc) (S : Ar.St) (f : Nat → Prop) (h : Int) (at_ : Nat) (b : Value) (l : List UInt8) (a sz : Nat) (w : World) (hA : ArE A L S f w) (hs : Ar.Sane S) (hb : RdB b l w) (hq : Ar.PlaceOf S h = some a) (hp : (Ar.headAt S.mem a).size = sz) (ha : a + 8 + sz ≤ S.mem.length) (ha2 : a + 8 < S.mem.length) (hw : at_ + l.length ≤ sz) :
    Calls Tryd.prog 19 #[.pointer (some ⟨A, 0, none⟩), .int .i64 h, .int .i64 (at_ : Int), b] w (WriteRet A L { S with mem := Ar.put S.mem (a + 8 + at_) l } f w) := by
  have hsp := Lib.hid (span_good A L S f h at_ l.length a sz w hA hs hq hp ha ha2 hw)
  have HA := Lib.hid hA
  have hm := hs.mem
  obtain ⟨ao, cap, rfl, hc⟩ := hb.form
  by_cases h0 : l = []
  · subst h0
    have e0 : Ar.put S.mem (a + 8 + at_) [] = S.mem := by simp [Ar.put]
    have E0 := Lib.hid e0
    clear hq hp hA hc e0
    go_enter Tryd.func19, Tryd.ntmps19
    go_wp2_with (first
      | (go_at_call 43; (refine hsp.out.mono ?_); rintro e w1 ⟨⟨ad, c, rfl, had⟩, hb1⟩; have hcp := fun ty W => run_copy_none (P := Tryd.prog) W 34 34 ty 5 (some ad) ao 0 c 0 cap Tryd.underlying34 (by kernel_rfl) (by simp)))
    go_ret
    exact ⟨rfl, by rw [E0.out]; exact (Ars.start HA.out).below hb1⟩
  · have hlen : 0 < l.length := List.length_pos_iff.2 h0
    obtain ⟨sb, so, hao, _⟩ := hc 0 hlen
    subst hao
    have HC : Hid (∀ (W : World), Below w.heap.size w W → ∀ j (hj : j < l.length), W.cell? ((⟨sb, so, none⟩ : Addr).add j) = some (encB l[j])) := Lib.hid (fun W hB j hj => by
      obtain ⟨b', off', e, c1⟩ := hc j hj
      cases e
      have e2 : (⟨sb, so, none⟩ : Addr).add j = ⟨sb, so + j, none⟩ := by unfold Addr.add; split <;> simp_all
      rw [e2]
      exact (hB.cell (p := ⟨sb, so + j, none⟩) (cell_lt c1)).trans c1)
    have hM := Lib.hid hA.mem
    have hsz : a + 8 + at_ + l.length ≤ S.mem.length := by omega
    clear hq hp hA hc hb
    go_enter Tryd.func19, Tryd.ntmps19
    go_wp2_with (first
      | (go_at_call 43; (refine hsp.out.mono ?_); rintro e w1 ⟨⟨ad, c, rfl, had⟩, hb1⟩; obtain rfl := had hlen; have hM1 := hM.out.kept (hb1.block _ hM.out.lt); have hcp := fun ty => copy_in ty L.M (a + 8 + at_) l.length c cap S.mem l ⟨sb, so, none⟩ w1 hM1 (Nat.le_refl _) hsz (HC.out w1 hb1); have CB := Lib.hid (copy_blk L.M S.mem (Ar.put S.mem (a + 8 + at_) l) w1 hM1); have HB1 := Lib.hid hb1; clear hb1 hM1 had))
    go_ret
    refine ⟨rfl, ((Ars.start HA.out).below HB1.out).call (CB.out.2.mono (fun k _ e => .inr (.inl e))) (((HA.out.below HB1.out).tight).setMem CB.out.1 (Ar.put_len _ _ _ hsz) (fun k hk hs => CB.out.2.block k hs hk) CB.out.2.size)⟩
end Go.Proofs.YtkndbldjablhoaaDoor
