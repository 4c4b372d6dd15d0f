/- 4 texts put together: Ardwr, Wrm, Newm, SeqB. -/
import Derived.RangeFuncNested
import Derived.RangeFuncBound
import Derived.RangeFuncLeaves
import Derived.RangeFuncFrom
import Derived.RangeFuncWrites
import Derived.Test.YtdbaocphglijbaaDoorJB1
import Derived.Test.YtdbaocphglijbaaDoorJB8
import Derived.Test.YtdbaocphglijbaaDoorJB11
import Derived.Test.YtdbaocphglijbaaDoorJB12
/- Read, Write. -/
set_option maxRecDepth 100000
namespace Go.Proofs.YtdbaocphglijbaaDoor
open Go.RowKit Go.Shelf
/-- A slice of bytes that is read. -/
structure RdB (v : Value) (l : List UInt8) (W : World) : Prop where
  form : ∃ ao cap, v = .slice ao l.length cap ∧ ∀ (j : Nat) (h : j < l.length), ∃ b off, ao = some ⟨b, off, none⟩ ∧ W.cell? ⟨b, off + j, none⟩ = some (encB l[j])
theorem RdB.below {v : Value} {l : List UInt8} {W W' : World} (h : RdB v l W) (hb : Below W.heap.size W W') : RdB v l W' := by
  obtain ⟨ao, cap, rfl, hc⟩ := h.form
  exact ⟨ao, cap, rfl, fun j hj => by
    obtain ⟨b, off, e, c⟩ := hc j hj
    exact ⟨b, off, e, (hb.cell (cell_lt c)).trans c⟩⟩
theorem RdB.own {v : Value} {l : List UInt8} {W : World} {base : Nat} (h : W.ownsRow base 5 1 v l.length (l.map encB)) : RdB v l W := by
  rcases h.2 with ⟨rfl, hn⟩ | ⟨g, cap, cur, rfl, _⟩
  · exact ⟨none, 0, by rw [hn], fun j hj => by omega⟩
  · exact ⟨some ⟨g, 0, none⟩, cap, rfl, fun j hj => ⟨g, 0, rfl, by
      have := World.ownsRow.cells h (g := g) rfl j (encB l[j]) (by simp [hj])
      have e : (⟨g, 0, none⟩ : Addr).add j = ⟨g, 0 + j, none⟩ := by unfold Addr.add; split <;> simp_all
      rwa [e] at this⟩⟩
theorem ownsRow_base {W : World} {b b' n : Nat} {e : TypeId} {v : Value} {xs : List Value} (h : W.ownsRow b e 1 v n xs) (hb : b' ≤ b) : W.ownsRow b' e 1 v n xs := by
  obtain ⟨h1, h2⟩ := h
  refine ⟨h1, h2.imp id ?_⟩
  rintro ⟨g, cap, cur, e, h3, h4⟩
  exact ⟨g, cap, cur, e, by omega, h4⟩
theorem below_trans {W A C : World} (h : Below W.heap.size W A) (k : Below A.heap.size A C) : Below W.heap.size W C := h.trans (k.mono h.size)
/-- What Read hands back: new memory. -/
def ReadRet (l : List UInt8) (w : World) (e : Ending) (w' : World) : Prop := ∃ v, e = .returned (.tuple #[v, .int .i64 0]) ∧ w'.ownsRow w.heap.size 5 1 v l.length (l.map encB) ∧ Below w.heap.size w w'
theorem clone_some (ad : Addr) (c n : Nat) (l : List UInt8) (w : World) (hn : n = l.length) (hl : l.length ≤ 1048576) (hc : ∀ i (h : i < l.length), w.cell? (ad.add i) = some (encB l[i])) :
    Calls Tryd.prog 65 #[.slice (some ad) n c] w fun e w' => ∃ v', e = .returned v' ∧ w'.ownsRow w.heap.size 5 1 v' l.length (l.map encB) ∧ Below w.heap.size w w' := by
  subst hn
  refine (Any.bytes_Clone_at Tryd.lays4 ad l.length c (l.map fun x => (x.toNat : Int)) w (by simp) (by omega) (fun i hi => by rw [hc i hi]; simp [hi, encB])).mono fun e w' ⟨v', h1, h2, _, h3⟩ => ⟨v', h1, ?_, h3⟩
  rw [List.map_map] at h2
  exact h2
theorem clone_none (w : World) : Calls Tryd.prog 65 #[.slice none 0 0] w fun e w' => e = .returned (.slice none 0 0) ∧ w = w' :=
  (Any.bytes_Clone_nil Tryd.lays4 0 0 w).mono fun _e _w' ⟨h1, h2⟩ => ⟨h1, h2.symm⟩
set_option maxHeartbeats 4000000 in
theorem read_good (A : Nat) (L : Loc) (S : Ar.St) (f : Nat → Prop) (h : Int) (at_ n : Nat) (a sz : Nat) (w : World) (hA : ArE A L S f w) (hs : Ar.Sane S) (hq : Ar.PlaceOf S h = some a) (hp : (Ar.headAt S.mem a).size = sz) (ha : a + 8 + sz ≤ S.mem.length) (ha2 : a + 8 < S.mem.length) (hw : at_ + n ≤ sz) :
    Calls Tryd.prog 21 #[.pointer (some ⟨A, 0, none⟩), .int .i64 h, .int .i64 (at_ : Int), .int .i64 (n : Int)] w (ReadRet ((S.mem.drop (a + 8 + at_)).take n) w) := by
  have hsp := Lib.hid (span_good A L S f h at_ n a sz w hA hs hq hp ha ha2 hw)
  have HA := Lib.hid hA
  have hm := hs.mem
  have hl : ((S.mem.drop (a + 8 + at_)).take n).length = n := by simp; omega
  have hcell : ∀ i (hi : i < ((S.mem.drop (a + 8 + at_)).take n).length), w.cell? ⟨L.M, a + 8 + at_ + i, none⟩ = some (encB ((S.mem.drop (a + 8 + at_)).take n)[i]) := fun i hi => by
    refine hA.mem.cell ?_
    have hlt : a + 8 + at_ + i < S.mem.length := by rw [hl] at hi; omega
    simp [hlt]
  have HC := Lib.hid hcell
  have HL := Lib.hid hl
  have hMl := hA.mem.lt
  generalize (S.mem.drop (a + 8 + at_)).take n = l at *
  clear hA hq hp hcell hl
  go_enter Tryd.func21, Tryd.ntmps21
  go_wp2_with (first
    | (go_at_call 64; (refine hsp.out.mono ?_); rintro e w1 ⟨⟨ad, c, rfl, had⟩, hb1⟩; have HAD := Lib.hid had; clear had)
    | (go_at_call 65; (refine (clone_some ad c n l _ HL.out.symm (by rw [HL.out]; omega) (fun i hi => by
        rw [HAD.out (by rw [← HL.out]; omega)]
        have e : (⟨L.M, a + 8 + at_, none⟩ : Addr).add i = ⟨L.M, a + 8 + at_ + i, none⟩ := by unfold Addr.add; split <;> simp_all
        rw [e, ← HC.out i hi]
        exact hb1.cell (p := ⟨L.M, a + 8 + at_ + i, none⟩) hMl)).mono ?_); rintro e w2 ⟨v', rfl, hown, hb2⟩))
  go_ret2
  exact ⟨v', rfl, ownsRow_base hown hb1.size, below_trans hb1 hb2⟩
def ErrRet (v : Value) (w : World) (e : Ending) (w' : World) : Prop := e = .returned v ∧ Below w.heap.size w w'
theorem below_dr (w : World) (n : Nat) : Below w.heap.size w (w.drewN n) := ⟨rfl, rfl, rfl, Nat.le_refl _, fun _ _ => rfl⟩
set_option maxHeartbeats 4000000 in
theorem read_err (v : Value) (h at_ n : Int) (er : Nat) (w : World) (hsp : Calls Tryd.prog 64 #[v, .int .i64 h, .int .i64 at_, .int .i64 n] w fun e w' => e = .returned (.tuple #[.slice none 0 0, .int .i64 (er : Int)]) ∧ Below w.heap.size w w') :
    Calls Tryd.prog 21 #[v, .int .i64 h, .int .i64 at_, .int .i64 n] w (ErrRet (.tuple #[.slice none 0 0, .int .i64 (er : Int)]) w) := by
  have HSP := Lib.hid hsp
  clear hsp
  go_enter Tryd.func21, Tryd.ntmps21
  go_wp2_with (first
    | (go_at_call 64; (refine HSP.out.mono ?_); rintro e w1 ⟨rfl, hb1⟩)
    | (go_at_call 65; (refine (clone_none _).mono ?_); rintro e w2 ⟨rfl, rfl⟩))
  go_ret2
  exact ⟨rfl, hb1⟩
theorem copy_nil (ty : TypeId) (ao : Option Addr) (n c : Nat) (W : World) : (Builtin.copy_ #[34, 34] ty #[.slice none 0 0, .slice ao n c]).run Tryd.prog W = .ok (goInt 0) W :=
  run_copy_none (P := Tryd.prog) W 34 34 ty 5 none ao 0 0 n c Tryd.underlying34 (by kernel_rfl) (by simp)
set_option maxHeartbeats 4000000 in
theorem write_err (v b : Value) (l : List UInt8) (h at_ : Int) (er : Nat) (w : World) (hb : RdB b l w) (_hl : l.length ≤ 1048576) (hsp : Calls Tryd.prog 64 #[v, .int .i64 h, .int .i64 at_, .int .i64 (l.length : Int)] w fun e w' => e = .returned (.tuple #[.slice none 0 0, .int .i64 (er : Int)]) ∧ Below w.heap.size w w') :
    Calls Tryd.prog 23 #[v, .int .i64 h, .int .i64 at_, b] w (ErrRet (.int .i64 (er : Int)) w) := by
  have HSP := Lib.hid hsp
  clear hsp
  obtain ⟨ao, cap, rfl, hc⟩ := hb.form
  have hcp := fun ty W => copy_nil ty ao l.length cap W
  clear hc hb
  go_enter Tryd.func23, Tryd.ntmps23
  go_wp2_with (first
    | (go_at_call 64; (refine HSP.out.mono ?_); rintro e w1 ⟨rfl, hb1⟩))
  go_ret
  exact ⟨rfl, hb1⟩
theorem copy_in (ty : TypeId) (M o d1 d2 c : Nat) (mem l : List UInt8) (src : Addr) (W : World) (h : Blk W M (mem.map encB) 5) (hn : l.length ≤ d1) (ht : o + l.length ≤ mem.length) (hsrc : ∀ j (hj : j < l.length), W.cell? (src.add j) = some (encB l[j])) :
    (Builtin.copy_ #[34, 34] ty #[.slice (some ⟨M, o, none⟩) d1 d2, .slice (some src) l.length c]).run Tryd.prog W = .ok (goInt l.length) (W.setRow M ((Ar.put mem o l).map encB).toArray) := by
  have hl : (l.map encB).length = l.length := by simp
  have hr := run_copy_row (P := Tryd.prog) W 34 34 ty 5 M o d1 d2 src l.length c (mem.map encB).toArray 5 (l.map encB) Tryd.underlying34 (by kernel_rfl) h (by rw [hl]; exact (Nat.min_eq_left hn).symm) (fun j v hj => by
    obtain ⟨hj1, hj2⟩ := List.getElem?_eq_some_iff.1 hj
    rw [← hj2, hsrc j (by simpa using hj1)]
    simp) (by simp; omega) (fun v hv => by obtain ⟨x, _, rfl⟩ := List.mem_map.1 hv; exact encB_one x)
  rw [hr, hl]
  congr 3
  unfold Ar.put
  simp
def WriteRet (A : Nat) (L : Loc) (S : Ar.St) (f : Nat → Prop) (w : World) (e : Ending) (w' : World) : Prop := e = .returned (.int .i64 0) ∧ Ars A L S f w w'
set_option maxHeartbeats 4000000 in
theorem write_good (A : Nat) (L : Loc) (S : Ar.St) (f : Nat → Prop) (h : Int) (at_ : Nat) (b : Value) (l : List UInt8) (a sz : Nat) (w : World) (hA : ArE A L S f w) (hs : Ar.Sane S) (hb : RdB b l w) (hq : Ar.PlaceOf S h = some a) (hp : (Ar.headAt S.mem a).size = sz) (ha : a + 8 + sz ≤ S.mem.length) (ha2 : a + 8 < S.mem.length) (hw : at_ + l.length ≤ sz) :
    Calls Tryd.prog 23 #[.pointer (some ⟨A, 0, none⟩), .int .i64 h, .int .i64 (at_ : Int), b] w (WriteRet A L { S with mem := Ar.put S.mem (a + 8 + at_) l } f w) := by
  have hsp := Lib.hid (span_good A L S f h at_ l.length a sz w hA hs hq hp ha ha2 hw)
  have HA := Lib.hid hA
  have hm := hs.mem
  obtain ⟨ao, cap, rfl, hc⟩ := hb.form
  by_cases h0 : l = []
  · subst h0
    have e0 : Ar.put S.mem (a + 8 + at_) [] = S.mem := by simp [Ar.put]
    have E0 := Lib.hid e0
    clear hq hp hA hc e0
    go_enter Tryd.func23, Tryd.ntmps23
    go_wp2_with (first
      | (go_at_call 64; (refine hsp.out.mono ?_); rintro e w1 ⟨⟨ad, c, rfl, had⟩, hb1⟩; have hcp := fun ty W => run_copy_none (P := Tryd.prog) W 34 34 ty 5 (some ad) ao 0 c 0 cap Tryd.underlying34 (by kernel_rfl) (by simp)))
    go_ret
    exact ⟨rfl, by rw [E0.out]; exact (Ars.start HA.out).below hb1⟩
  · have hlen : 0 < l.length := List.length_pos_iff.2 h0
    obtain ⟨sb, so, hao, _⟩ := hc 0 hlen
    subst hao
    have HC : Hid (∀ (W : World), Below w.heap.size w W → ∀ j (hj : j < l.length), W.cell? ((⟨sb, so, none⟩ : Addr).add j) = some (encB l[j])) := Lib.hid (fun W hB j hj => by
      obtain ⟨b', off', e, c1⟩ := hc j hj
      cases e
      have e2 : (⟨sb, so, none⟩ : Addr).add j = ⟨sb, so + j, none⟩ := by unfold Addr.add; split <;> simp_all
      rw [e2]
      exact (hB.cell (p := ⟨sb, so + j, none⟩) (cell_lt c1)).trans c1)
    have hM := Lib.hid hA.mem
    have hsz : a + 8 + at_ + l.length ≤ S.mem.length := by omega
    clear hq hp hA hc hb
    go_enter Tryd.func23, Tryd.ntmps23
    go_wp2_with (first
      | (go_at_call 64; (refine hsp.out.mono ?_); rintro e w1 ⟨⟨ad, c, rfl, had⟩, hb1⟩; obtain rfl := had hlen; have hM1 := hM.out.kept (hb1.block _ hM.out.lt); have hcp := fun ty => copy_in ty L.M (a + 8 + at_) l.length c cap S.mem l ⟨sb, so, none⟩ w1 hM1 (Nat.le_refl _) hsz (HC.out w1 hb1); have CB := Lib.hid (copy_blk L.M S.mem (Ar.put S.mem (a + 8 + at_) l) w1 hM1); have HB1 := Lib.hid hb1; clear hb1 hM1 had))
    go_ret
    refine ⟨rfl, ((Ars.start HA.out).below HB1.out).call (CB.out.2.mono (fun k _ e => .inr (.inl e))) (((HA.out.below HB1.out).tight).setMem CB.out.1 (Ar.put_len _ _ _ hsz) (fun k hk hs => CB.out.2.block k hs hk) CB.out.2.size)⟩
end Go.Proofs.YtdbaocphglijbaaDoor

/- The bytes of a block: what Read and Write do to what holds of an arena. -/
set_option maxRecDepth 100000
namespace Go.Proofs.YtdbaocphglijbaaDoor
namespace Ar
theorem mid_bytes (X D Y : List UInt8) (k n : Nat) (hk : k + n ≤ D.length) : ((X ++ (D ++ Y)).drop (X.length + k)).take n = (D.drop k).take n := by
  rw [List.drop_length_add_append, List.drop_append_of_le_length (by omega), List.take_append_of_le_length (by simp; omega)]
theorem put_in (X D Y l : List UInt8) (k : Nat) (hk : k + l.length ≤ D.length) : put (X ++ (D ++ Y)) (X.length + k) l = X ++ (put D k l ++ Y) := by
  unfold put
  rw [List.take_length_add_append, show X.length + k + l.length = X.length + (k + l.length) by omega, List.drop_length_add_append, List.take_append_of_le_length (by omega), List.drop_append_of_le_length (by omega)]
  simp [List.append_assoc]
theorem at_swap {p p' : Pc} (ht : p'.takes = p.takes) : ∀ {xs ys : List Pc} {v : Nat} {q : Pc}, At (xs ++ p :: ys) v q → At (xs ++ p' :: ys) v q ∨ (q = p ∧ At (xs ++ p' :: ys) v p')
  | [], ys, v, q, h => by
    rcases h with ⟨h1, h2⟩ | ⟨v', h1, h2⟩
    · exact .inr ⟨h2, .inl ⟨h1, rfl⟩⟩
    · exact .inl (.inr ⟨v', by rw [ht]; exact h1, h2⟩)
  | x :: xs, ys, v, q, h => by
    rcases h with ⟨h1, h2⟩ | ⟨v', h1, h2⟩
    · exact .inl (.inl ⟨h1, h2⟩)
    · rcases at_swap ht h2 with h3 | ⟨h3, h4⟩
      · exact .inl (.inr ⟨v', h1, h3⟩)
      · exact .inr ⟨h3, .inr ⟨v', h1, h4⟩⟩
theorem lastT_swap {p p' : Pc} (ht : p'.takes = p.takes) (a : Nat) (xs ys : List Pc) : lastT a (xs ++ p' :: ys) = lastT a (xs ++ p :: ys) := by
  rw [lastT_app, lastT_app]; simp only [lastT]; rw [ht]
theorem total_swap {p p' : Pc} (ht : p'.takes = p.takes) (xs ys : List Pc) : total (xs ++ p' :: ys) = total (xs ++ p :: ys) := by
  rw [total_app, total_app]; simp only [total]; rw [ht]
/-- Other bytes within one block. -/
theorem Inv.data {S : St} {xs ys : List Pc} {p : Pc} (I : Inv S (xs ++ p :: ys)) (hf : p.free = false) (d : List UInt8) (hd : d.length = p.data.length) :
    Inv { S with mem := put S.mem (total xs + 8) d } (xs ++ { p with data := d } :: ys) := by
  have ht : ({ p with data := d } : Pc).takes = p.takes := by show d.length + 8 = p.data.length + 8; rw [hd]
  obtain ⟨rest, hm, hr⟩ := I.mem
  have hmem : put S.mem (total xs + 8) d = lay 0 (xs ++ { p with data := d } :: ys) ++ rest := by
    rw [hm, lay_app, lay_app]
    simp only [lay, ht]
    have e : lay 0 xs ++ (p.bytes (lastT 0 xs) ++ lay p.takes ys) ++ rest = (lay 0 xs ++ byte8 (p.hd (lastT 0 xs)).word) ++ (p.data ++ (lay p.takes ys ++ rest)) := by
      unfold Pc.bytes; simp only [List.append_assoc]
    have e2 : lay 0 xs ++ (({ p with data := d } : Pc).bytes (lastT 0 xs) ++ lay p.takes ys) ++ rest = (lay 0 xs ++ byte8 (p.hd (lastT 0 xs)).word) ++ (d ++ (lay p.takes ys ++ rest)) := by
      unfold Pc.bytes Pc.hd; simp only [List.append_assoc]
    rw [e, e2]
    refine put_mid _ _ _ _ _ ?_ hd.symm
    rw [List.length_append, lay_len]
    unfold byte8
    rw [lastB_len]
  have hml : (put S.mem (total xs + 8) d).length = S.mem.length := by
    rw [hmem, hm, List.length_append, List.length_append, lay_len, lay_len, total_swap ht]
  have hat : ∀ v q, At (xs ++ { p with data := d } :: ys) v q → ∃ q', At (xs ++ p :: ys) v q' ∧ q'.free = q.free ∧ q'.owner = q.owner ∧ q'.size = q.size := fun v q h => by
    rcases at_swap (p := { p with data := d }) (p' := p) ht.symm h with h | ⟨rfl, h2⟩
    · exact ⟨q, h, rfl, rfl, rfl⟩
    · exact ⟨p, h2, rfl, rfl, rfl⟩
  have hat2 : ∀ v q, At (xs ++ p :: ys) v q → ∃ q', At (xs ++ { p with data := d } :: ys) v q' ∧ q'.free = q.free ∧ q'.owner = q.owner ∧ q'.size = q.size := fun v q h => by
    rcases at_swap (p := p) (p' := { p with data := d }) ht h with h | ⟨rfl, h2⟩
    · exact ⟨q, h, rfl, rfl, rfl⟩
    · exact ⟨_, h2, rfl, rfl, rfl⟩
  obtain ⟨E, sp, hc, hfr⟩ := I.fr
  refine ⟨⟨rest, hmem, hr⟩, by show (put _ _ _).length ≤ _; rw [hml]; exact I.lim, fun q hq => ?_, ⟨E, sp, hc, fun i c v => ?_⟩, I.nd, I.tab.congr rfl rfl rfl, by show (put _ _ _).length / 16 ≤ _; rw [hml]; exact I.cap, fun h v => ?_, ?_⟩
  · rcases List.mem_append.1 hq with h | h
    · exact I.ok q (List.mem_append_left _ h)
    · rcases List.mem_cons.1 h with rfl | h
      · have k := I.ok p (by simp)
        exact ⟨by rw [ht]; exact k.m16, by rw [ht]; exact k.ge, k.own, fun e => by rw [ht]; exact k.fr e, fun e => by rw [ht]; exact k.bl e⟩
      · exact I.ok q (List.mem_append_right _ (List.mem_cons_of_mem _ h))
  · rw [hfr i c v]
    constructor
    · rintro ⟨q, h1, h2, h3, h4⟩
      have h1 := (atG_zero _ _ _ _).1 h1
      rw [List.append_nil] at h1
      obtain ⟨q', k1, k2, k3, k4⟩ := hat2 v q h1
      exact ⟨q', (atG_zero _ _ _ _).2 (by rw [List.append_nil]; exact k1), by rw [k2]; exact h2, by rw [k3]; exact h3, by rw [k4]; exact h4⟩
    · rintro ⟨q, h1, h2, h3, h4⟩
      have h1 := (atG_zero _ _ _ _).1 h1
      rw [List.append_nil] at h1
      obtain ⟨q', k1, k2, k3, k4⟩ := hat v q h1
      exact ⟨q', (atG_zero _ _ _ _).2 (by rw [List.append_nil]; exact k1), by rw [k2]; exact h2, by rw [k3]; exact h3, by rw [k4]; exact h4⟩
  · show PlaceOf S (h : Int) = some v ↔ _
    rw [I.hn]
    constructor
    · rintro ⟨q, h1, h2, h3⟩
      obtain ⟨q', k1, k2, k3, _⟩ := hat2 v q h1
      exact ⟨q', k1, by rw [k2]; exact h2, by rw [k3]; exact h3⟩
    · rintro ⟨q, h1, h2, h3⟩
      obtain ⟨q', k1, k2, k3, _⟩ := hat v q h1
      exact ⟨q', k1, by rw [k2]; exact h2, by rw [k3]; exact h3⟩
  · show S.used = _
    rw [I.used, blocks_app, blocks_app, blocks_block ys hf, blocks_block (p := { p with data := d }) ys hf, sumT_app, sumT_app, sumT_cons, sumT_cons, ht]
/-- Where the bytes of a block lie. -/
theorem Inv.bytes {S : St} {xs ys : List Pc} {p : Pc} (I : Inv S (xs ++ p :: ys)) (k n : Nat) (hk : k + n ≤ p.data.length) : (S.mem.drop (total xs + 8 + k)).take n = (p.data.drop k).take n := by
  obtain ⟨rest, hm, _⟩ := I.mem
  have e : S.mem = (lay 0 xs ++ byte8 (p.hd (lastT 0 xs)).word) ++ (p.data ++ (lay p.takes ys ++ rest)) := by
    rw [hm, lay_app]; simp only [lay]; unfold Pc.bytes; simp only [List.append_assoc]
  have hl : (lay 0 xs ++ byte8 (p.hd (lastT 0 xs)).word).length = total xs + 8 := by
    rw [List.length_append, lay_len]; unfold byte8; rw [lastB_len]
  rw [e, ← hl]
  exact mid_bytes _ _ _ _ _ hk
/-- Bytes put within a block. -/
theorem Inv.put_ {S : St} {xs ys : List Pc} {p : Pc} (I : Inv S (xs ++ p :: ys)) (k : Nat) (l : List UInt8) (hk : k + l.length ≤ p.data.length) : put S.mem (total xs + 8 + k) l = put S.mem (total xs + 8) (put p.data k l) := by
  obtain ⟨rest, hm, _⟩ := I.mem
  have e : S.mem = (lay 0 xs ++ byte8 (p.hd (lastT 0 xs)).word) ++ (p.data ++ (lay p.takes ys ++ rest)) := by
    rw [hm, lay_app]; simp only [lay]; unfold Pc.bytes; simp only [List.append_assoc]
  have hl : (lay 0 xs ++ byte8 (p.hd (lastT 0 xs)).word).length = total xs + 8 := by
    rw [List.length_append, lay_len]; unfold byte8; rw [lastB_len]
  rw [e]
  generalize lay 0 xs ++ byte8 (p.hd (lastT 0 xs)).word = X at *
  generalize lay p.takes ys ++ rest = Y
  rw [put_mid X p.data Y (put p.data k l) _ hl.symm (by rw [put_len _ _ _ hk]), ← hl]
  exact put_in _ _ _ _ _ hk
end Ar
end Go.Proofs.YtdbaocphglijbaaDoor

/- What holds of a new arena. -/
set_option maxRecDepth 100000
namespace Go.Proofs.YtdbaocphglijbaaDoor
namespace Ar
theorem placeOf_new (B k : Nat) (z : Int) : PlaceOf (newSt B k) z = none := by
  cases h : PlaceOf (newSt B k) z with
  | none => rfl
  | some v =>
    obtain ⟨i, e, hk, hb, _⟩ := placeOf_some h
    exfalso
    rw [bitOn_test', Nat.add_sub_cancel] at hb
    have : (newSt B k).us.getD (i / 64) 0 = 0 := by unfold newSt; simp [List.getD_eq_getElem?_getD, List.getElem?_replicate]; split <;> rfl
    rw [this] at hb
    simp at hb
theorem new_inv (B : Nat) (h1 : 1024 ≤ B) (h2 : B ≤ 1048576) : ∃ pcs, Inv (new B) pcs ∧ blocks pcs = [] ∧ (new B).mem.length = B := by
  obtain ⟨k, hk⟩ : ∃ k, k = (B / 16 + 63) / 64 := ⟨_, rfl⟩
  have hlen : (newSt B k).mem.length = B := by simp [newSt]
  have hfr : Frees (fun _ => none) [] (List.replicate (B / 16 * 16) (0 : UInt8)).length [] := fun i c v => by
    constructor
    · intro h; cases h
    · rintro ⟨p, h1, _⟩; cases at_of_atG h1
  have g : Gap (newSt B k) [] (List.replicate (B / 16 * 16) 0) 0 [] (List.replicate (B % 16) 0) (fun _ => none) [] :=
    ⟨by simp only [lay, List.nil_append, List.append_nil]; rw [List.replicate_append_replicate, show B / 16 * 16 + B % 16 = B by omega]; rfl, by simp; omega, by rw [hlen]; exact h2, (fun p hp => by cases hp), (fun p hp => by cases hp), by omega, Ch.ring0, hfr, by show ring0.length < _; unfold ring0; rw [ring_len]; omega⟩
  have htab : Tab (newSt B k) := ⟨by simp [newSt]; omega, by simp [newSt]; omega, fun x hx => by have := List.eq_of_mem_replicate hx; omega, fun x hx => by have := List.eq_of_mem_replicate hx; omega, Nat.zero_le _, fun j hj => by cases hj⟩
  obtain ⟨i, _, hinv, hb⟩ := g.inv (by simp; omega) (by simp) (by show ring0.length ≤ _; unfold ring0; rw [ring_len]; omega) htab (by rw [hlen]; simp [newSt]; omega) (fun h v => by
    rw [placeOf_new]
    constructor
    · intro h; cases h
    · rintro ⟨p, h1, _⟩; cases at_of_atG h1) rfl
  simp only [total, lastT, List.length_replicate] at hinv
  have hput := (g.fill (by simp; omega) (by simp)).1
  simp only [total, lastT, List.length_replicate] at hput
  unfold new
  rw [← hk]
  exact ⟨_, hinv, hb, by rw [putFree_len _ _ _ _ hput.1 hput.2.1 hput.2.2.1]; exact hlen⟩
end Ar
end Go.Proofs.YtdbaocphglijbaaDoor

/- A range over a function whose body may make a map and write it: the caller's invariant abides the turn of book-keeping alone (a loop's record, a block for deferred calls), and the body keeps no more than that. -/
namespace Go.Proofs.YtdbaocphglijbaaDoor
open Go Go.RowKit
variable {F : Fence} {n : Nat} {P : Program}

theorem bookC {A : World} {r : Nat} (h : ∃ o : Obj, A.heap[r]? = some o ∧ isBook o = true) : ∃ o : Obj, A.heap[r]? = some o ∧ o.isCells = false := by
  obtain ⟨o, ho, hk⟩ := h
  exact ⟨o, ho, book_cells hk⟩
/-- The invariant abides the turn of book-keeping from B on. -/
def OwnBk {β : Type} (B : Nat) (I : β → World → Prop) : Prop :=
  ∀ s W W' row, I s W → W.grownBy W' row → (∀ r, row = some r → B ≤ r ∧ ∃ o : Obj, W.heap[r]? = some o ∧ isBook o = true) → I s W'
theorem ownFrom_book {β : Type} {B : Nat} {I : β → World → Prop} (h : OwnFrom B I) : OwnBk B I := fun s W W' row hs hg hr => h s W W' row hs hg (fun r e => ⟨(hr r e).1, by obtain ⟨o, ho, hk⟩ := (hr r e).2; exact ⟨o, ho, book_cells hk⟩⟩)
theorem OwnBk.putObj {β : Type} {B : Nat} {I : β → World → Prop} (h : OwnBk B I) {s : β} {W : World} {l : Nat} {o : Obj} (o' : Obj) (hs : I s W) (hB : B ≤ l) (hl : W.heap[l]? = some o) (ho : isBook o = true) : I s (W.putObj l o') :=
  h s W _ (some l) hs (grownBy_putObj' W l o') (fun r e => by cases e; exact ⟨hB, o, hl, ho⟩)
theorem OwnBk.alloc {β : Type} {B : Nat} {I : β → World → Prop} (h : OwnBk B I) {s : β} {W : World} (o : Obj) (hs : I s W) : I s (W.alloc o) :=
  h s W _ none hs (World.grownBy_alloc W o none) (fun r e => by cases e)
theorem OwnBk.and {β : Type} {B : Nat} {I I' : β → World → Prop} (h : OwnBk B I) (h' : OwnBk B I') : OwnBk B (fun s W => I s W ∧ I' s W) := fun s W W' row hs hg hr => ⟨h s W W' row hs.1 hg hr, h' s W W' row hs.2 hg hr⟩
theorem ownBk_pure {β : Type} (B : Nat) (p : β → Prop) : OwnBk B (fun s (_ : World) => p s) := fun _ _ _ _ hs _ _ => hs
/-- Book-keeping from B on lies as it lay. -/
structure KeepsBk (B : Nat) (W W' : World) : Prop where
  size : W.heap.size ≤ W'.heap.size
  same : ∀ (k : Nat) (o : Obj), B ≤ k → W.heap[k]? = some o → isBook o = true → W'.heap[k]? = some o
theorem keepsFrom_book {B : Nat} {W W' : World} (h : KeepsFrom B W W') : KeepsBk B W W' := ⟨h.size, fun k o hB hk ho => h.same k o hB hk (book_cells ho)⟩
theorem KeepsBk.refl (B : Nat) (W : World) : KeepsBk B W W := keepsFrom_book (KeepsFrom.refl B W)
theorem KeepsBk.trans {B : Nat} {X Y Z : World} (h : KeepsBk B X Y) (k : KeepsBk B Y Z) : KeepsBk B X Z := ⟨Nat.le_trans h.size k.size, fun i o hB hi ho => k.same i o hB (h.same i o hB hi ho) ho⟩
theorem KeepsBk.of_grownBy {B : Nat} {W W' : World} {row : Option Nat} (hg : W.grownBy W' row) (hrow : ∀ j, row = some j → j < B) : KeepsBk B W W' := keepsFrom_book (KeepsFrom.of_grownBy hg hrow)
def ownPostB {α : Type} (B : Nat) (Kp : World → World → Prop) (I : List α → World → Prop) (Ix : Code → List α → World → Prop) (xs : List α) (W : World) : Exit → Act → World → Prop
  | .normal, _, W' => KeepsBk B W W' ∧ Kp W W' ∧ I xs W'
  | .ret, _, W' => KeepsBk B W W' ∧ Ix .ret xs W'
  | .exit id, _, W' => KeepsBk B W W' ∧ Ix (.exit id) xs W'
  | .goto t, _, W' => KeepsBk B W W' ∧ Ix (.goto t) xs W'
  | .panic _, _, _ => False
  | .outgrown, _, _ => False

/-- The contract of an iterator that loops over another. -/
def SeqStopsB {α : Type} (F : Fence) (n : Nat) (P : Program) (g : Nat) (lb : Array Value) (encs : α → Array Value) (Kp : World → World → Prop) (S Sp : List α → Prop) (N : Nat) (w : World) : Prop :=
  ∀ (l : Nat) (J Jx : List α → World → Prop) (W : World), Below w.heap.size w W → OwnBk W.heap.size J → OwnBk W.heap.size Jx →
    (∀ pre x W1, J pre W1 → pre.length < N → Sp (pre ++ [x]) → YieldAt F (n - 1) P l (encs x) W1 fun e W' =>
      (e = .returned (.bool true) ∧ J (pre ++ [x]) W' ∧ Kp W1 W' ∧ KeepsBk W.heap.size W1 W') ∨ (e = .returned (.bool false) ∧ Jx (pre ++ [x]) W' ∧ KeepsBk W.heap.size W1 W')) →
    J [] W →
    CallsIn F n P g (#[.func (.yield l) #[] #[]] ++ lb) W fun e W' => (∃ v, e = .returned v) ∧ ((∃ xs, S xs ∧ J xs W') ∨ (∃ pre, Sp pre ∧ Jx pre W'))

theorem keeps_put {B l : Nat} {W : World} (o : Obj) (h : l < B) : KeepsBk B W (W.putObj l o) :=
  KeepsBk.of_grownBy (grownBy_putObj' W l o) (fun j e => by cases e; exact h)

theorem wpIn_rangeFunc_ownB {α : Type} {g : Operand} {ps : Array Tmp} {assign body : Code} {Q : Exit → Act → World → Prop} {a : Act} {w : World}
    (hro : F.round = none) (h1 : 1 ≤ n) {gf : Nat} {lb : Array Value} (hg : a.eval g = .func (.func gf) #[] lb) (hFg : F.fn gf) (eg : ∀ args w, (callFunc gf args).run P w = .ok (.enter gf args) w)
    {encs : α → Array Value} {Kp : World → World → Prop} {S Sp : List α → Prop} {N : Nat} {w0 : World} (hseq : SeqStopsB F (n - 1) P gf lb encs Kp S Sp N w0)
    (hKt : ∀ {A B C : World}, Kp A B → Kp B C → Kp A C) (hKb : ∀ (W : World) (l : Nat) (o o' : Obj), w.heap.size ≤ l → W.heap[l]? = some o → o.isCells = false → o.isWalk = false → Kp W (W.putObj l o')) (hb0 : Below w0.heap.size w0 w) (hps : ∀ x, (encs x).size = ps.size)
    (I : List α → World → Prop) (Ix : Code → List α → World → Prop) (hI : OwnBk w.heap.size I) (hIx : ∀ c, OwnBk w.heap.size (Ix c)) (h0 : I [] w) (a₁ : α → Act)
    (hassign : ∀ (l : Nat) (x : α) (W : World) (K : Act → World → Prop), K (a₁ x) W →
      assign.wpIn (F.inRound l) (n - 1 - 1) P (Exit.then K (fun _ _ _ => False)) { tmps := (ps.zip (encs x)).foldl (fun t (p, v) => t.setIfInBounds p v) a.tmps, defers := [] } W)
    (hbody : ∀ (l : Nat) (pre : List α) (x : α) (W : World), I pre W → pre.length < N → Sp (pre ++ [x]) → body.wpIn (F.inRound l) (n - 1 - 1) P (ownPostB w.heap.size Kp I Ix (pre ++ [x]) W) (a₁ x) W)
    (hdone : ∀ (D : Nat) (xs : List α) (W : World), w.heap.size ≤ D → S xs → I xs W → W.heap[D]? = some (.deferred (some [])) → Q .normal { a with defers := { target := .collected D, args := #[] } :: a.defers } W)
    (hstop : ∀ (D : Nat) (c : Code) (pre : List α) (W : World), w.heap.size ≤ D → Sp pre → Ix c pre W → W.heap[D]? = some (.deferred (some [])) → c.wpIn F n P Q { a with defers := { target := .collected D, args := #[] } :: a.defers } W) :
    (Code.rangeFunc g ps assign body).wpIn F n P Q a w := by
  refine wpIn_rangeFunc ?_
  intro fn hfn
  rw [hro]
  obtain ⟨rec, hrec⟩ : ∃ rec : LoopState → Option Code → Loop, rec = fun st pe => { state := st, pending := pe, fn, tmps := a.tmps, params := ps, assign, body, defers := w.heap.size } := ⟨_, rfl⟩
  obtain ⟨W1, hW1⟩ : ∃ W1, (w.alloc (.deferred (some []))).alloc (.loop (rec .ready none)) = W1 := ⟨_, rfl⟩
  have hsz1 : W1.heap.size = w.heap.size + 2 := by rw [← hW1]; simp
  have hL1 : W1.heap[w.heap.size + 1]? = some (.loop (rec .ready none)) := by
    rw [← hW1]; have := World.alloc_heap_new (w.alloc (.deferred (some []))) (.loop (rec .ready none)); rwa [World.size_alloc] at this
  have hK1 : W1.heap[w.heap.size]? = some (.deferred (some [])) := by
    rw [← hW1]; exact (Below.heap_alloc _ _ _ (by simp)).trans (World.alloc_heap_new w _)
  have hI1 : I [] W1 := by rw [← hW1]; exact hI.alloc _ (hI.alloc _ h0)
  have hb1 : Below w0.heap.size w0 W1 := by
    rw [← hW1]; exact hb0.trans ((((Below.refl _ w).alloc (Nat.le_refl _) _).alloc (by simp) _).mono hb0.size)
  refine ⟨w.heap.size + 1, [{ target := .collected w.heap.size, args := #[] }], W1, { target := .fn (.func gf) lb, args := #[.func (.yield (w.heap.size + 1)) #[] #[]] }, W1, gf,
    #[.func (.yield (w.heap.size + 1)) #[] #[]] ++ lb, W1, ?_, ?_, ?_, ?_, fun _ => h1, ?_⟩
  · rw [← hW1, hrec]; exact run_enterLoop_outer _ _ _ _ _
  · simp only [resolve, hg]
    simp [go_sem]
  · intro f' hf'; simp [Target.leads] at hf'; subst hf'; exact hFg
  · simp [invoke, go_sem, eg]
  · have hnw : ∀ {A : World} {row : Option Nat}, (∀ r, row = some r → W1.heap.size ≤ r ∧ ∃ o : Obj, A.heap[r]? = some o ∧ isBook o = true) → (∀ r, row = some r → w.heap.size ≤ r ∧ ∃ o : Obj, A.heap[r]? = some o ∧ isBook o = true) :=
      fun hr r e => ⟨by have := (hr r e).1; omega, (hr r e).2⟩
    have hkeep : ∀ {A B : World} {row : Option Nat} {k : Nat} {o : Obj}, A.grownBy B row → (∀ r, row = some r → W1.heap.size ≤ r ∧ ∃ o : Obj, A.heap[r]? = some o ∧ isBook o = true) → k < W1.heap.size → A.heap[k]? = some o → B.heap[k]? = some o :=
      fun {A B row k o} hg' hr hk h => (hg'.block k (Array.getElem?_eq_some_iff.1 h).1 (fun e => by have := (hr k e.symm).1; omega)).trans h
    refine (hseq (w.heap.size + 1)
      (fun pre W => I pre W ∧ W.heap[w.heap.size + 1]? = some (.loop (rec .ready none)) ∧ W.heap[w.heap.size]? = some (.deferred (some [])))
      (fun pre W => ∃ c, Ix c pre W ∧ W.heap[w.heap.size + 1]? = some (.loop (rec .done (some c))) ∧ W.heap[w.heap.size]? = some (.deferred (some [])))
      W1 hb1
      (fun s A B row hs hg' hr => ⟨hI s A B row hs.1 hg' (hnw hr), hkeep hg' hr (by omega) hs.2.1, hkeep hg' hr (by omega) hs.2.2⟩)
      (fun s A B row hs hg' hr => by
        obtain ⟨c, hc, hl, hk⟩ := hs
        exact ⟨c, hIx c s A B row hc hg' (hnw hr), hkeep hg' hr (by omega) hl, hkeep hg' hr (by omega) hk⟩)
      ?_ ⟨hI1, hL1, hK1⟩).mono ?_
    · rintro pre x W ⟨hi, hl, hk⟩ hlen hsp
      have hlt : w.heap.size + 1 < W.heap.size := (Array.getElem?_eq_some_iff.1 hl).1
      have hy := run_yield (P := P) (args := encs x) hl (by rw [hrec]; exact hps x)
      rw [hrec] at hy
      refine ⟨fn, _, assign, body, hy, roundIn_of_wpIn hfn (hassign _ x W _ ?_)⟩
      clear hy
      refine ⟨_, run_beginRound hl (by rw [hrec]), ?_⟩
      have hl2 : (W.putObj (w.heap.size + 1) (.loop { rec .ready none with state := .busy })).heap[w.heap.size + 1]? = some (.loop { rec .ready none with state := .busy }) := World.putObj_heap_same hlt
      have hk2 : (W.putObj (w.heap.size + 1) (.loop { rec .ready none with state := .busy })).heap[w.heap.size]? = some (.deferred (some [])) := (World.putObj_heap_other (by omega)).trans hk
      have hw2 : Kp W (W.putObj (w.heap.size + 1) (.loop { rec .ready none with state := .busy })) := hKb _ _ _ _ (by omega) hl rfl rfl
      have hf2 : KeepsBk W1.heap.size W (W.putObj (w.heap.size + 1) (.loop { rec .ready none with state := .busy })) := keeps_put _ (by omega)
      refine wpIn_mono (hbody _ pre x _ (hI.putObj _ hi (by omega) hl rfl) hlen hsp) ?_
      have fin : ∀ (jump : Option Code) (W3 : World), KeepsBk w.heap.size (W.putObj (w.heap.size + 1) (.loop { rec .ready none with state := .busy })) W3 →
          (Instr.endRound (w.heap.size + 1) jump).run P W3 = .ok (.bool jump.isNone) (W3.putObj (w.heap.size + 1) (.loop (rec (if jump.isNone then .ready else .done) jump))) ∧
          W3.heap[w.heap.size + 1]? = some (.loop { rec .ready none with state := .busy }) ∧
          (W3.putObj (w.heap.size + 1) (.loop (rec (if jump.isNone then .ready else .done) jump))).heap[w.heap.size + 1]? = some (.loop (rec (if jump.isNone then .ready else .done) jump)) ∧
          (W3.putObj (w.heap.size + 1) (.loop (rec (if jump.isNone then .ready else .done) jump))).heap[w.heap.size]? = some (.deferred (some [])) ∧
          KeepsBk W1.heap.size W (W3.putObj (w.heap.size + 1) (.loop (rec (if jump.isNone then .ready else .done) jump))) := fun jump W3 hk3 => by
        have hl3 := hk3.same _ _ (by omega) hl2 rfl
        have := run_endRound (P := P) jump hl3
        rw [hrec] at this ⊢
        refine ⟨this, by rw [hrec] at hl3; exact hl3, World.putObj_heap_same (Array.getElem?_eq_some_iff.1 hl3).1, (World.putObj_heap_other (by omega)).trans (hk3.same _ _ (Nat.le_refl _) hk2 rfl), ?_⟩
        refine hf2.trans (KeepsBk.trans ⟨hk3.size, fun k o hB hk ho => hk3.same k o (by omega) hk ho⟩ (keeps_put _ (by omega)))
      rintro e a3 W3 hp
      cases e with
      | normal =>
        obtain ⟨hk3, hkp3, hi3⟩ := hp
        obtain ⟨hr, hl3, hl4, hk4, hkf⟩ := fin none W3 hk3
        exact ⟨_, _, hr, .inl ⟨rfl, ⟨hI.putObj _ hi3 (by omega) hl3 rfl, hl4, hk4⟩, hKt (hKt hw2 hkp3) (hKb _ _ _ _ (by omega) hl3 rfl rfl), hkf⟩⟩
      | ret =>
        obtain ⟨hk3, hi3⟩ := hp
        obtain ⟨hr, hl3, hl4, hk4, hkf⟩ := fin (some .ret) W3 hk3
        exact ⟨_, _, hr, .inr ⟨rfl, ⟨.ret, (hIx _).putObj _ hi3 (by omega) hl3 rfl, hl4, hk4⟩, hkf⟩⟩
      | exit id =>
        obtain ⟨hk3, hi3⟩ := hp
        obtain ⟨hr, hl3, hl4, hk4, hkf⟩ := fin (some (.exit id)) W3 hk3
        exact ⟨_, _, hr, .inr ⟨rfl, ⟨.exit id, (hIx _).putObj _ hi3 (by omega) hl3 rfl, hl4, hk4⟩, hkf⟩⟩
      | goto t =>
        obtain ⟨hk3, hi3⟩ := hp
        obtain ⟨hr, hl3, hl4, hk4, hkf⟩ := fin (some (.goto t)) W3 hk3
        exact ⟨_, _, hr, .inr ⟨rfl, ⟨.goto t, (hIx _).putObj _ hi3 (by omega) hl3 rfl, hl4, hk4⟩, hkf⟩⟩
      | panic ch => exact hp.elim
      | outgrown => exact hp.elim
    · rintro e W2 ⟨⟨v, rfl⟩, (⟨xs, hS, hi, hl, hk⟩ | ⟨pre, hSp, c, hi, hl, hk⟩)⟩
      · exact ⟨none, _, by have := run_endLoop (P := P) hl (by rw [hrec]; simp); rw [hrec] at this; exact this, hdone _ xs _ (Nat.le_refl _) hS (hI.putObj _ hi (by omega) hl rfl) ((World.putObj_heap_other (by omega)).trans hk)⟩
      · exact ⟨some c, _, by have := run_endLoop (P := P) hl (by rw [hrec]; simp); rw [hrec] at this; exact this, hstop _ c pre _ (Nat.le_refl _) hSp ((hIx c).putObj _ hi (by omega) hl rfl) ((World.putObj_heap_other (by omega)).trans hk)⟩
end Go.Proofs.YtdbaocphglijbaaDoor
