/- 3 texts put together: Aput, Ahan, Anewc. -/
import Derived.Laws.MakeOwn
import Derived.Laws.OwnMore
import Derived.Test.YtdbaocphglijbaaDoorJB2
/- putHead. -/
set_option maxRecDepth 100000
namespace Go.Proofs.YtdbaocphglijbaaDoor
open Go.RowKit Go.Shelf
namespace Ar
/-- The last k of eight bytes of a number. -/
def lastB : Nat → Nat → List UInt8
  | 0, _ => []
  | k + 1, x => lastB k (x / 256) ++ [UInt8.ofNat (x % 256)]
def byte8 (x : Nat) : List UInt8 := lastB 8 x
def put (mem : List UInt8) (a : Nat) (l : List UInt8) : List UInt8 := mem.take a ++ l ++ mem.drop (a + l.length)
def putHd (mem : List UInt8) (a : Nat) (p : Head) : List UInt8 := put mem a (byte8 p.word)
theorem lastB_len : ∀ k x, (lastB k x).length = k
  | 0, _ => rfl
  | k + 1, x => by simp [lastB, lastB_len k]
theorem put_len (mem : List UInt8) (a : Nat) (l : List UInt8) (h : a + l.length ≤ mem.length) : (put mem a l).length = mem.length := by simp [put]; omega
/-- What is there when the last k of eight bytes are written, of a number that is x at first. -/
def putK (mem : List UInt8) (a : Nat) (x : Nat) (k : Nat) : List UInt8 := mem.take (a + 8 - k) ++ lastB k x ++ mem.drop (a + 8)
theorem lastB_succ : ∀ (k x : Nat), lastB (k + 1) x = UInt8.ofNat (x / 256 ^ k % 256) :: lastB k x
  | 0, x => by simp [lastB]
  | k + 1, x => by
    rw [lastB, lastB_succ k (x / 256), lastB, Nat.pow_succ, Nat.div_div_eq_div_mul, Nat.mul_comm 256]
    rfl
theorem putK_set (mem : List UInt8) (a x k : Nat) (hk : k < 8) (ha : a + 8 ≤ mem.length) : (putK mem a x k).set (a + 7 - k) (UInt8.ofNat (x / 256 ^ k % 256)) = putK mem a x (k + 1) := by
  unfold putK
  rw [lastB_succ]
  have h1 : (mem.take (a + 8 - k)) = mem.take (a + 8 - (k + 1)) ++ [mem[a + 7 - k]] := by
    rw [show a + 8 - k = (a + 7 - k) + 1 by omega, List.take_succ_eq_append_getElem (by omega), show a + 8 - (k + 1) = a + 7 - k by omega]
  rw [h1]
  have h2 : (mem.take (a + 8 - (k + 1))).length = a + 7 - k := by simp; omega
  rw [List.append_assoc, List.append_assoc, List.set_append_right _ _ (by omega), h2]
  simp
theorem putK_len (mem : List UInt8) (a x k : Nat) (hk : k ≤ 8) (ha : a + 8 ≤ mem.length) : (putK mem a x k).length = mem.length := by
  unfold putK; simp [lastB_len]; omega
theorem putK_full (mem : List UInt8) (a x : Nat) : putK mem a x 8 = put mem a (byte8 x) := by
  unfold putK put byte8; rw [lastB_len]; simp
theorem wordOf_lastB : ∀ k x, wordOf (lastB k x) = x % 256 ^ k
  | 0, x => by rw [Nat.pow_zero, Nat.mod_one]; rfl
  | k + 1, x => by
    have e : (UInt8.ofNat (x % 256)).toNat = x % 256 := by simp
    rw [lastB, wordOf_snoc, wordOf_lastB k, e, Nat.pow_succ, Nat.mul_comm (256 ^ k), Nat.mod_mul]
    omega
theorem put_take (mem : List UInt8) (a : Nat) (l : List UInt8) (ha : a ≤ mem.length) : ((put mem a l).drop a).take l.length = l := by
  unfold put
  rw [List.append_assoc, List.drop_append_of_le_length (by simp; omega)]
  have : (mem.take a).drop a = [] := List.drop_eq_nil_of_le (by simp; omega)
  rw [this, List.nil_append, List.take_left' rfl]
theorem headAt_putHd (mem : List UInt8) (a : Nat) (p : Head) (ha : a ≤ mem.length) (hp : p.fits) : headAt (putHd mem a p) a = p := by
  unfold headAt putHd
  have := put_take mem a (byte8 p.word) ha
  rw [show (byte8 p.word).length = 8 from lastB_len 8 _] at this
  rw [this]
  unfold byte8
  rw [wordOf_lastB, Nat.mod_eq_of_lt (word_lt hp), headOf_word hp]
theorem putK_none (mem : List UInt8) (a x : Nat) : putK mem a x 0 = mem := by
  unfold putK; simp [lastB]
end Ar
theorem ArE.setMem {A : Nat} {L : Loc} {S : Ar.St} {f : Nat → Prop} {w w' : World} (h : ArE A L S f w) {m : List UInt8} (hm : Blk w' L.M (m.map encB) 5) (hl : m.length = S.mem.length) (hk : ∀ k, k ≠ L.M → k < w.heap.size → w'.heap[k]? = w.heap[k]?) (hs : w.heap.size ≤ w'.heap.size) : ArE A L { S with mem := m } f w' :=
  ⟨by
    have := h.box.kept (W' := w') (hk _ (h.box.ne h.mem (by decide)) h.box.lt)
    unfold arBox at this ⊢
    simp only [hl]
    exact this, hm, h.pl.kept (hk _ (h.pl.ne h.mem (by decide)) h.pl.lt), h.us.kept (hk _ (h.us.ne h.mem (by decide)) h.us.lt), h.nd.kept (hk _ (h.nd.ne h.mem (by decide)) h.nd.lt), h.cap, h.cm, h.fA, h.fM, h.fP, h.fU, h.fN, fun k e => Nat.lt_of_lt_of_le (h.fb k e) hs⟩
theorem word_or (o s a : Nat) (ho : o < 2097152) (hs : s < 2097152) (ha : a < 2097152) : bits .or .u64 (bits .or .u64 ((o : Int) * 4398046511104) ((s : Int) * 2097152)) (a : Int) = ((o * 4398046511104 + s * 2097152 + a : Nat) : Int) := by
  rw [show ((o : Int) * 4398046511104) = ((o * 4398046511104 : Nat) : Int) from rfl, show ((s : Int) * 2097152) = ((s * 2097152 : Nat) : Int) from rfl, u64_or_nat _ _ (by omega) (by omega), nat_join 42 _ _ (Nat.mul_mod_left o 4398046511104) (show s * 2097152 < 4398046511104 by omega), u64_or_nat _ _ (by omega) (by omega), nat_join 21 _ _ (show (o * 4398046511104 + s * 2097152) % 2097152 = 0 by omega) (show a < 2097152 by omega)]
theorem word_or_free (x : Nat) (hx : x < 9223372036854775808) : bits .or .u64 (x : Int) 9223372036854775808 = ((9223372036854775808 + x : Nat) : Int) := by
  have := u64_or_nat x 9223372036854775808 (by omega) (by decide)
  rw [Nat.or_comm, nat_join 63 _ _ (by decide) (show x < 9223372036854775808 by omega)] at this
  exact this
theorem word_or_mark (x : Nat) (hx : x < 4611686018427387904) : bits .or .u64 (x : Int) 4611686018427387904 = ((4611686018427387904 + x : Nat) : Int) := by
  have := u64_or_nat x 4611686018427387904 (by omega) (by decide)
  rw [Nat.or_comm, nat_join 62 _ _ (by decide) (show x < 4611686018427387904 by omega)] at this
  exact this
theorem word_or_both (x : Nat) (hx : x < 4611686018427387904) : bits .or .u64 (9223372036854775808 + (x : Int)) 4611686018427387904 = 13835058055282163712 + (x : Int) := by
  have h := u64_or_nat (9223372036854775808 + x) 4611686018427387904 (by omega) (by decide)
  have e : (9223372036854775808 + x) ||| 4611686018427387904 = 13835058055282163712 + x := by
    have e1 := nat_join 63 9223372036854775808 x (by decide) (show x < 2 ^ 63 by omega)
    have e2 := nat_join 62 4611686018427387904 x (by decide) (show x < 2 ^ 62 by omega)
    have e3 := nat_join 63 9223372036854775808 (4611686018427387904 + x) (by decide) (show _ < 2 ^ 63 by omega)
    rw [← e1, Nat.or_assoc, Nat.or_comm x, e2, e3]
    omega
  rw [e] at h
  exact h
theorem byte_of (X k : Nat) : Value.int .u8 ((X : Int) / 256 ^ k % 256) = encB (UInt8.ofNat (X / 256 ^ k % 256)) := by
  unfold encB
  congr 1
  have e : (256 : Int) ^ k = ((256 ^ k : Nat) : Int) := by simp
  rw [e]
  simp
/-- The loop's relation. -/
structure PutR (A : Nat) (L : Loc) (a X : Nat) (mem : List UInt8) (w : World) (k : Nat) (z : Int) (wr : World) : Prop where
  k8 : k ≤ 8
  z : z + k = a + 7
  blk : Blk wr L.M ((Ar.putK mem a X k).map encB) 5
  trn : Trn (fun j => j = L.M) w wr
theorem PutR.step {A : Nat} {L : Loc} {a X : Nat} {mem : List UInt8} {w wr : World} {k j : Nat} (h : PutR A L a X mem w k (j : Int) wr) (hk : k < 8) (ha : a + 8 ≤ mem.length) : PutR A L a X mem w (k + 1) ((j : Int) - 1) (wr.setCell ⟨L.M, j, none⟩ (.int .u8 ((X : Int) / 256 ^ k % 256))) :=
  ⟨by omega, by have := h.z; omega, by
    have hz := h.z
    have hb := h.blk.set j (.int .u8 ((X : Int) / 256 ^ k % 256))
    rw [byte_of] at hb ⊢
    rw [← Ar.putK_set mem a X k hk ha, show a + 7 - k = j by omega, List.map_set]
    exact hb, h.trn.trans ((Trn.set h.blk (.inl rfl) _ _))⟩
set_option maxHeartbeats 2000000 in
theorem putHead_any (A : Nat) (L : Loc) (S : Ar.St) (f : Nat → Prop) (a : Nat) (p : Ar.Head) (w : World) (h : ArE A L S f w) (hm : S.mem.length ≤ 1048576) (ha : a + 8 ≤ S.mem.length) (hp : p.fits) :
    Calls Tryd.prog 83 #[.pointer (some ⟨A, 0, none⟩), .int .i64 (a : Int), encH p] w fun e w' => e = .returned (.tuple #[]) ∧ Trn f w w' ∧ ArE A L { S with mem := Ar.putHd S.mem a p } f w' := by
  have hword := Ar.word_lt hp
  have fin : ∀ w', Blk w' L.M ((Ar.putK S.mem a p.word 8).map encB) 5 → Trn (fun j => j = L.M) w w' → Trn f w w' ∧ ArE A L { S with mem := Ar.putHd S.mem a p } f w' := fun w' hb ht => by
    rw [Ar.putK_full] at hb
    exact ⟨ht.mono (fun k _ e => e ▸ h.fM), h.setMem hb (Ar.put_len _ _ _ (by unfold Ar.byte8; rw [Ar.lastB_len]; omega)) (fun k hk hs => ht.block k hs hk) ht.size⟩
  have Fin := Lib.hid fin
  clear fin
  have hcM : ∀ (k : Nat) (l : List UInt8) (j : Nat) (W : World), Blk W L.M (l.map encB) 5 → j < l.length → W.cell? ⟨L.M, j, none⟩ = some (encB (l.getD j 0)) := fun k l j W hb hj => hb.cell (by simp [hj])
  have HcM := Lib.hid hcM
  clear hcM
  have hX : p.word = (if p.free then 9223372036854775808 else 0) + (if p.marked then 4611686018427387904 else 0) + (p.owner * 4398046511104 + p.size * 2097152 + p.ahead) := by unfold Ar.Head.word; omega
  generalize p.word = X at hword Fin hX
  obtain ⟨fr, mk, ow, sz, ah⟩ := p
  obtain ⟨h1, h2, h3⟩ := hp
  simp only at h1 h2 h3 hX
  have hor := word_or ow sz ah (by omega) h2 h3
  have hx0 : ow * 4398046511104 + sz * 2097152 + ah < 4611686018427387904 := by omega
  generalize ow * 4398046511104 + sz * 2097152 + ah = x0 at hor hx0 hX
  have horf := word_or_free x0 (by omega)
  have horm := word_or_mark x0 hx0
  have horb := word_or_both x0 hx0
  have hbox := h.cells.1
  have hAl := h.box.lt
  have hMl := h.mem.lt
  have hAM : A ≠ L.M := h.box.ne h.mem (by decide)
  have H0 : Hid (Blk w L.M (S.mem.map encB) 5) := Lib.hid h.mem
  cases fr <;> cases mk
  all_goals
    simp only [Bool.false_eq_true, if_false, if_true, Nat.zero_add, Nat.add_zero] at hX
    have HX := Lib.hid hX
    clear hX
    unfold encH encI
    simp only
    go_enter Tryd.func83, Tryd.ntmps83
    go_wp2_with (simp only [hor, horf, horm, horb])
    clear hor horf horm horb
    go_loopw [6, 7] (fun x i wr => ∃ (k : Nat) (z : Int), i = .int .i64 z ∧ x = .int .u64 ((X / 256 ^ k : Nat) : Int) ∧ PutR A L a X S.mem w k z wr) (fun _ i _ => ((intOf i) + 1 - a).toNat)
    case atStart => exact ⟨0, _, rfl, by rw [HX.out]; simp, by omega, by omega, by rw [Ar.putK_none]; exact H0.out.alloc _, Trn.alloc w _⟩
    case round =>
      obtain ⟨k, z, rfl, rfl, hR⟩ := hrel
      have hbx : wr.cell? ⟨A, 0, none⟩ = some (.slice (some ⟨L.M, 0, none⟩) S.mem.length S.mem.length) := (World.cell?_of_block (a := ⟨A, 0, none⟩) (hR.trn.block A hAl hAM)).trans hbox
      by_cases hlt : k < 8
      · have hz := hR.z
        obtain ⟨j, rfl⟩ : ∃ j : Nat, z = (j : Int) := ⟨z.toNat, by omega⟩
        have hj1 : a ≤ j := by omega
        have hj2 : j < S.mem.length := by omega
        have hcj := HcM.out k _ j wr hR.blk (by rw [Ar.putK_len _ _ _ _ hR.k8 ha]; exact hj2)
        have hfj := hR.blk.frozen j
        have hst := Lib.hid (hR.step hlt ha)
        have hpw : (X : Int) / 256 ^ k / 256 = ((X / 256 ^ (k + 1) : Nat) : Int) := by
          rw [Nat.pow_succ, ← Nat.div_div_eq_div_mul]; simp
        have Hpw := Lib.hid hpw
        clear hpw
        go_wp2
        go_roundw
        case rel => exact ⟨k + 1, (j : Int) - 1, rfl, by rw [Hpw.out], hst.out⟩
        case measure => simp [intOf]; omega
      · have hz := hR.z
        obtain rfl : k = 8 := by have := hR.k8; omega
        have hz1 : z < a := by omega
        have hend := Lib.hid (Fin.out wr hR.blk hR.trn)
        go_wp2
        go_end0
        exact ⟨rfl, hend.out⟩
end Go.Proofs.YtdbaocphglijbaaDoor

/- The table of handles. -/
set_option maxRecDepth 100000
namespace Go.Proofs.YtdbaocphglijbaaDoor
open Go.RowKit Go.Shelf
namespace Ar
/-- The bit of a handle. -/
def bitOn (us : List Nat) (h : Nat) : Bool := decide (us.getD ((h - 1) / 64) 0 / 2 ^ ((h - 1) % 64) % 2 = 1)
def bitOff (us : List Nat) (h : Nat) : List Nat := us.set ((h - 1) / 64) (us.getD ((h - 1) / 64) 0 &&& (18446744073709551615 - 2 ^ ((h - 1) % 64)))
end Ar
theorem ArE.setPl {A : Nat} {L : Loc} {S : Ar.St} {f : Nat → Prop} {w w' : World} (h : ArE A L S f w) {m : List Nat} (hm : Blk w' L.P (m.map encP) 21) (hl : m.length = S.pl.length) (hk : ∀ k, k ≠ L.P → k < w.heap.size → w'.heap[k]? = w.heap[k]?) (hs : w.heap.size ≤ w'.heap.size) : ArE A L { S with pl := m } f w' :=
  ⟨by
    have := h.box.kept (W' := w') (hk _ (h.box.ne h.pl (by decide)) h.box.lt)
    unfold arBox at this ⊢
    simp only [hl]
    exact this, h.mem.kept (hk _ (h.mem.ne h.pl (by decide)) h.mem.lt), hm, h.us.kept (hk _ (h.us.ne h.pl (by decide)) h.us.lt), h.nd.kept (hk _ (h.nd.ne h.pl (by decide)) h.nd.lt), h.cap, h.cm, h.fA, h.fM, h.fP, h.fU, h.fN, fun k e => Nat.lt_of_lt_of_le (h.fb k e) hs⟩
theorem ArE.setUs {A : Nat} {L : Loc} {S : Ar.St} {f : Nat → Prop} {w w' : World} (h : ArE A L S f w) {m : List Nat} (hm : Blk w' L.U (m.map encU) 126) (hl : m.length = S.us.length) (hk : ∀ k, k ≠ L.U → k < w.heap.size → w'.heap[k]? = w.heap[k]?) (hs : w.heap.size ≤ w'.heap.size) : ArE A L { S with us := m } f w' :=
  ⟨by
    have := h.box.kept (W' := w') (hk _ (h.box.ne h.us (by decide)) h.box.lt)
    unfold arBox at this ⊢
    simp only [hl]
    exact this, h.mem.kept (hk _ (h.mem.ne h.us (by decide)) h.mem.lt), h.pl.kept (hk _ (h.pl.ne h.us (by decide)) h.pl.lt), hm, h.nd.kept (hk _ (h.nd.ne h.us (by decide)) h.nd.lt), h.cap, h.cm, h.fA, h.fM, h.fP, h.fU, h.fN, fun k e => Nat.lt_of_lt_of_le (h.fb k e) hs⟩
/-- A store into the box. -/
theorem ArE.setBox {A : Nat} {L : Loc} {S S' : Ar.St} {f : Nat → Prop} {w : World} (h : ArE A L S f w) (i : Nat) (v : Value) (hb : (arBox L S).set i v = arBox L S') (e1 : S'.mem = S.mem) (e2 : S'.pl = S.pl) (e3 : S'.us = S.us) (e4 : S'.nd = S.nd) : ArE A L S' f (w.setCell ⟨A, i, none⟩ v) :=
  ⟨by rw [← hb]; exact h.box.set i v, by rw [e1]; exact h.mem.other (fun e => h.box.ne h.mem (by decide) e.symm) _ _, by rw [e2]; exact h.pl.other (fun e => h.box.ne h.pl (by decide) e.symm) _ _, by rw [e3]; exact h.us.other (fun e => h.box.ne h.us (by decide) e.symm) _ _, by rw [e4]; exact h.nd.other (fun e => h.box.ne h.nd (by decide) e.symm) _ _, by rw [e4]; exact h.cap, h.cm, h.fA, h.fM, h.fP, h.fU, h.fN, fun k e => by have := h.fb k e; simpa [World.setCell] using this⟩
theorem ArE.drew {A : Nat} {L : Loc} {S : Ar.St} {f : Nat → Prop} {w : World} (h : ArE A L S f w) (n : Nat) : ArE A L S f (w.drewN n) := ⟨h.box, h.mem, h.pl, h.us, h.nd, h.cap, h.cm, h.fA, h.fM, h.fP, h.fU, h.fN, h.fb⟩
theorem ArE.drw {A : Nat} {L : Loc} {S : Ar.St} {f : Nat → Prop} {w : World} (h : ArE A L S f w) : ArE A L S f w.drew := ⟨h.box, h.mem, h.pl, h.us, h.nd, h.cap, h.cm, h.fA, h.fM, h.fP, h.fU, h.fN, h.fb⟩
theorem Trn.drw {f : Nat → Prop} (W : World) : Trn f W W.drew := Trn.of_below ⟨rfl, rfl, rfl, Nat.le_refl _, fun _ _ => rfl⟩
theorem pow_lt64 {k : Nat} (h : k < 64) : 2 ^ k < 18446744073709551616 := Nat.lt_of_lt_of_le (Nat.pow_lt_pow_right (by decide) h) (by decide)
set_option maxHeartbeats 1000000 in
theorem bit_any (z : Int) (k : Nat) (w : World) (hz : z = (k : Int) + 1) (h2 : k ≤ 2000000) :
    Calls Tryd.prog 88 #[.int .i64 z] w fun e w' => ∃ m : Nat, Hid (m = 2 ^ (k % 64)) ∧ e = .returned (.tuple #[.int .i64 ((k / 64 : Nat) : Int), .int .u64 (m : Int)]) ∧ ∃ n, w' = w.drewN n := by
  subst hz
  have hp := pow_lt64 (Nat.mod_lt k (show 0 < 64 by decide))
  go_enter Tryd.func88, Tryd.ntmps88
  go_wp2
  go_quiet (fail)
  go_wp2
  go_ret2
  refine ⟨2 ^ (k % 64), Lib.hid rfl, ?_, _, rfl⟩
  have e2 : IntKind.u64.wrap (2 ^ (k % 64)) = ((2 ^ (k % 64) : Nat) : Int) := by
    rw [IntKind.wrap_u64, show (2 : Int) ^ (k % 64) = ((2 ^ (k % 64) : Nat) : Int) by simp]
    generalize 2 ^ (k % 64) = m at hp
    omega
  rw [← e2]
  rfl
set_option maxHeartbeats 1000000 in
theorem move_any (A : Nat) (L : Loc) (S : Ar.St) (f : Nat → Prop) (z : Int) (k place : Nat) (w : World) (hA : ArE A L S f w) (hz : z = (k : Int) + 1) (h2 : k < S.pl.length) (h3 : S.pl.length ≤ 1000000) (h4 : place ≤ 1048576) :
    Calls Tryd.prog 89 #[.pointer (some ⟨A, 2, none⟩), .int .i64 z, .int .i64 (place : Int)] w fun e w' => e = .returned (.tuple #[]) ∧ Trn f w w' ∧ ArE A L { S with pl := S.pl.set k place } f w' := by
  subst hz
  have hc := hA.cells.2.2.1
  have hx := hA.pl.cell (i := k) (v := encP (S.pl.getD k 0)) (by simp [show k < S.pl.length by omega])
  have hf := hA.pl.frozen k
  unfold encP at hx
  go_enter Tryd.func89, Tryd.ntmps89
  have hb := hA.pl.set k (encP place)
  have hk : (S.pl.map encP).set k (encP place) = (S.pl.set k place).map encP := List.map_set.symm
  rw [hk] at hb
  have ht : Trn f w (w.setCell ⟨L.P, k, none⟩ (encP place)) := Trn.set hA.pl hA.fP _ _
  have R := Lib.hid (And.intro ht (hA.setPl hb (by simp) (fun j hj _ => Below.heap_setCell w ⟨L.P, k, none⟩ _ j hj) (by simp [World.setCell])))
  clear hb ht hk
  unfold encP at R
  go_wp2
  go_end0
  exact ⟨rfl, R.out⟩
namespace Ar
def PlaceOf (S : St) (h : Int) : Option Nat := if 1 ≤ h ∧ h ≤ S.pl.length then if bitOn S.us h.toNat then some (S.pl.getD (h.toNat - 1) 0) else none else none
end Ar
def optV : Option Nat → Value
  | some x => .tuple #[encI x, .bool true]
  | none => .tuple #[encI 0, .bool false]
theorem bitOn_test (us : List Nat) (k x : Nat) (hx : us.getD (k / 64) 0 = x) (hx2 : x < 18446744073709551616) : (bits .and .u64 (x : Int) ((2 ^ (k % 64) : Nat) : Int) == 0) = !Ar.bitOn us (k + 1) := by
  have hp := pow_lt64 (Nat.mod_lt k (show 0 < 64 by decide))
  unfold Ar.bitOn
  rw [Nat.add_sub_cancel, hx, u64_and_nat _ _ hx2 hp, nat_bit]
  have : x / 2 ^ (k % 64) % 2 = 0 ∨ x / 2 ^ (k % 64) % 2 = 1 := by omega
  have hp0 := Nat.two_pow_pos (k % 64)
  rcases this with h | h <;> rw [h]
  · simp
  · rw [Nat.one_mul]
    generalize 2 ^ (k % 64) = m at hp hp0
    rw [show ((m : Int) == 0) = false by rw [beq_eq_false_iff_ne]; omega]
    rfl
set_option maxHeartbeats 2000000 in
theorem place_any (A : Nat) (L : Loc) (S : Ar.St) (f : Nat → Prop) (h : Int) (w : World) (hA : ArE A L S f w) (h3 : S.pl.length ≤ 1000000) (h4 : S.pl.length = 64 * S.us.length) (h5 : ∀ x ∈ S.us, x < 18446744073709551616) (h6 : ∀ x ∈ S.pl, x ≤ 1048576) :
    Calls Tryd.prog 92 #[.pointer (some ⟨A, 2, none⟩), .int .i64 h] w fun e w' => e = .returned (optV (Ar.PlaceOf S h)) ∧ ∃ n, w' = w.drewN n := by
  have hc := hA.cells.2.2.1
  have hc3 := hA.cells.2.2.2.1
  unfold Ar.PlaceOf
  by_cases hh : 1 ≤ h ∧ h ≤ S.pl.length
  · rw [if_pos hh]
    obtain ⟨k, rfl⟩ : ∃ k : Nat, h = ((k + 1 : Nat) : Int) := ⟨h.toNat - 1, by omega⟩
    have hk : k < S.pl.length := by omega
    have hk2 : k / 64 < S.us.length := by omega
    have hx := hA.pl.cell (i := k) (v := encP (S.pl.getD k 0)) (by simp [hk])
    have hu := hA.us.cell (i := k / 64) (v := encU (S.us.getD (k / 64) 0)) (by simp [hk2])
    have hu64 : S.us.getD (k / 64) 0 < 18446744073709551616 := by simp only [List.getD, List.getElem?_eq_getElem hk2, Option.getD_some]; exact h5 _ (List.getElem_mem hk2)
    have hx6 : S.pl.getD k 0 ≤ 1048576 := by simp only [List.getD, List.getElem?_eq_getElem hk, Option.getD_some]; exact h6 _ (List.getElem_mem hk)
    unfold encP at hx
    unfold encU at hu
    have H4 := Lib.hid h4
    clear h4
    have hbt : ∀ m : Nat, m = 2 ^ (k % 64) → (bits .and .u64 ((S.us.getD (k / 64) 0 : Nat) : Int) (m : Int) == 0) = !Ar.bitOn S.us (k + 1) := fun m e => e ▸ bitOn_test S.us k _ rfl hu64
    have hg : ¬ ((S.pl.length : Int) < ((k + 1 : Nat) : Int)) := by omega
    have hn1 : ¬ (((k + 1 : Nat) : Int) < 1) := by omega
    rw [Int.toNat_natCast]
    generalize S.us.getD (k / 64) 0 = x at hu hu64 hbt
    rw [Nat.add_sub_cancel]
    generalize S.pl.getD k 0 = y at hx hx6 ⊢
    have HBT := Lib.hid hbt
    clear hbt
    by_cases hb : Ar.bitOn S.us (k + 1) = true
    · rw [if_pos hb]
      rw [hb] at HBT
      go_enter Tryd.func92, Tryd.ntmps92
      go_wp2_with (go_at_call 88; (with_reducible refine (bit_any _ k _ rfl (by omega)).mono ?_); rintro e w' ⟨m, hm, rfl, n, rfl⟩; have hbm := HBT.out m hm.out)
      go_ret2
      exact ⟨rfl, _, rfl⟩
    · rw [if_neg hb]
      rw [eq_false_of_ne_true hb] at HBT
      go_enter Tryd.func92, Tryd.ntmps92
      go_wp2_with (go_at_call 88; (with_reducible refine (bit_any _ k _ rfl (by omega)).mono ?_); rintro e w' ⟨m, hm, rfl, n, rfl⟩; have hbm := HBT.out m hm.out)
      go_ret2
      exact ⟨rfl, _, rfl⟩
  · rw [if_neg hh]
    go_enter Tryd.func92, Tryd.ntmps92
    by_cases h1 : h < 1
    · go_wp2
      go_ret2
      exact ⟨rfl, 0, rfl⟩
    · have h2 : (S.pl.length : Int) < h := by omega
      go_wp2
      go_ret2
      exact ⟨rfl, 0, rfl⟩
end Go.Proofs.YtdbaocphglijbaaDoor

/- newChains, newHandles. -/
set_option maxRecDepth 100000
namespace Go.Proofs.YtdbaocphglijbaaDoor
open Go.RowKit Go.Shelf
namespace Ar
def ring (k : Nat) : List Node := (List.range 17).map fun i => if i < k then ⟨0, i, i⟩ else ⟨0, 0, 0⟩
def ring0 : List Node := ring 17
theorem ring_len (k : Nat) : (ring k).length = 17 := by simp [ring]
theorem ring_step : ∀ k : Fin 17, link (ring k.1) k.1 k.1 = ring (k.1 + 1) := by decide +kernel
theorem ring_zero : ring 0 = List.replicate 17 ⟨0, 0, 0⟩ := by decide +kernel
end Ar
theorem make_ring (w : World) : (Instr.makeSlice 90 (.int .i64 17) (.int .i64 17)).run Tryd.prog w = .ok (.slice (some ⟨w.heap.size, 0, none⟩) 17 17) (w.alloc (.cells (encNs (Ar.ring 0)).toArray 142)) := by
  obtain ⟨i, hi, hz0, hz1, hz2⟩ := info_parts infoN
  have h := run_make (P := Tryd.prog) w 90 142 i _ Tryd.underlying90 hi hz0 .i64 .i64 17 17 (by omega) (by omega) (by rw [hz2]; decide) (by decide)
  rw [h, hz1]
  have e : madeCells (Value.agg #[.int .i64 0, .int .i64 0, .int .i64 0]).cells ((17 : Int).toNat * 3) = (encNs (Ar.ring 0)).toArray := by kernel_rfl
  rw [e]
  rfl
def RingRet (w : World) (e : Ending) (w' : World) : Prop := ∃ N, e = .returned (.agg #[.slice (some ⟨N, 0, none⟩) 17 17, .int .i64 0]) ∧ Blk w' N (encNs Ar.ring0) 142 ∧ w.heap.size ≤ N ∧ Below w.heap.size w w'
set_option maxHeartbeats 4000000 in
theorem newChains_any (w : World) : Calls Tryd.prog 51 #[.int .i64 17] w (RingRet w) := by
  go_enter Tryd.func51, Tryd.ntmps51
  have hmk := make_ring
  have h0 : Hid (ChE (w.heap.size + 1 + 1) 0 92 [.slice (some ⟨w.heap.size + 1, 0, none⟩) 17 17, .int .i64 0] (w.heap.size + 1) 17 [] (Ar.ring 0) 0 (((w.alloc (.cells #[.slice none 0 0, .int .i64 0] 92)).alloc (.cells (encNs (Ar.ring 0)).toArray 142)).alloc (.cells #[.slice (some ⟨w.heap.size + 1, 0, none⟩) 17 17, .int .i64 0] 92))) := by
    have b1 := Blk.new (w.alloc (.cells #[.slice none 0 0, .int .i64 0] 92)) (encNs (Ar.ring 0)) 142
    have b2 := Blk.new ((w.alloc (.cells #[.slice none 0 0, .int .i64 0] 92)).alloc (.cells (encNs (Ar.ring 0)).toArray 142)) [.slice (some ⟨w.heap.size + 1, 0, none⟩) 17 17, .int .i64 0] 92
    rw [World.size_alloc] at b1
    rw [World.size_alloc, World.size_alloc] at b2
    exact Lib.hid ⟨b2, rfl, rfl, by rw [List.append_nil]; exact b1.alloc _, by simp [Ar.ring_len], by omega, by simp [Ar.ring_len], by unfold maxLen; omega⟩
  have h1 : Hid (Blk (((w.alloc (.cells #[.slice none 0 0, .int .i64 0] 92)).alloc (.cells (encNs (Ar.ring 0)).toArray 142)).alloc (.cells #[.slice (some ⟨w.heap.size + 1, 0, none⟩) 17 17, .int .i64 0] 92)) w.heap.size [.slice none 0 0, .int .i64 0] 92) := Lib.hid (((Blk.new w [.slice none 0 0, .int .i64 0] 92).alloc _).alloc _)
  have h2 : Hid (Below w.heap.size w (((w.alloc (.cells #[.slice none 0 0, .int .i64 0] 92)).alloc (.cells (encNs (Ar.ring 0)).toArray 142)).alloc (.cells #[.slice (some ⟨w.heap.size + 1, 0, none⟩) 17 17, .int .i64 0] 92))) := Lib.hid ((((Below.refl _ _).alloc (Nat.le_refl _) _).alloc (by simp) _).alloc (by simp; omega) _)
  go_wp2
  generalize hC : w.heap.size + 1 + 1 = C at *
  generalize hN : w.heap.size + 1 = N at *
  have hNw : w.heap.size < N := by omega
  clear hC hN hmk
  go_loopw [11] (fun i wr => ∃ k : Nat, k ≤ 17 ∧ i = .int .i64 (k : Int) ∧ Hid (ChE C 0 92 [.slice (some ⟨N, 0, none⟩) 17 17, .int .i64 0] N 17 [] (Ar.ring k) 0 wr) ∧ Hid (Blk wr w.heap.size [.slice none 0 0, .int .i64 0] 92) ∧ Hid (Below w.heap.size w wr)) (fun i _ => 17 - (intOf i).toNat)
  case atStart => exact ⟨0, by omega, rfl, h0, h1, h2⟩
  case round =>
    obtain ⟨k, hk, rfl, hc, hb, hw⟩ := hrel
    clear h0 h1 h2
    by_cases hlt : k < 17
    · go_wp2_with (go_at_call 82; (refine (link_any C 0 92 _ N 17 [] (Ar.ring k) 0 k k _ hc.out (by rw [Ar.ring_len]; exact hlt) (by rw [Ar.ring_len]; exact hlt)).mono ?_); rintro e w1 ⟨rfl, ht, hc1⟩; have hst := Lib.hid (Ar.ring_step ⟨k, hlt⟩); have hc2 : Hid (ChE C 0 92 [.slice (some ⟨N, 0, none⟩) 17 17, .int .i64 0] N 17 [] (Ar.ring (k + 1)) 0 w1) := Lib.hid (by have := hst.out; simp only at this; rw [← this]; exact hc1); have hb2 := Lib.hid (hb.out.trn ht (fun e => by omega)); have hw2 := Lib.hid (hw.out.trans (ht.below (n := w.heap.size) (fun j e => by omega) hw.out.size)); clear ht hc1 hst)
      go_roundw
      case rel => exact ⟨k + 1, by omega, by go_num, hc2, hb2, hw2⟩
      case measure => simp [intOf]; omega
    · obtain rfl : k = 17 := by omega
      have c0 := hc.out.box0.1
      have c1 := hc.out.box0.2
      have d0 := hb.out.cell (i := 0) rfl
      have d1 := hb.out.cell (i := 1) rfl
      have df := fun i => hb.out.frozen i
      unfold encI at c1
      rw [Ar.ring_len] at c0
      have hbb := (hb.out.set 0 (.slice (some ⟨N, 0, none⟩) 17 17)).set 1 (.int .i64 0)
      have y0 := hbb.cell (i := 0) rfl
      have y1 := hbb.cell (i := 1) rfl
      have hnn := (hc.out.nd.other (B' := w.heap.size) (by omega) 0 (.slice (some ⟨N, 0, none⟩) 17 17)).other (B' := w.heap.size) (by omega) 1 (.int .i64 0)
      rw [List.append_nil] at hnn
      have hww := (hw.out.setCell (p := ⟨w.heap.size, 0, none⟩) (Nat.le_refl _) (.slice (some ⟨N, 0, none⟩) 17 17)).setCell (p := ⟨w.heap.size, 1, none⟩) (Nat.le_refl _) (.int .i64 0)
      have R := Lib.hid (And.intro hnn hww)
      clear hnn hww hbb
      go_wp2
      generalize World.setCell (World.setCell wr _ _) _ _ = W at *
      exact bodyPost_ret (v := .agg #[.slice (some ⟨N, 0, none⟩) 17 17, .int .i64 0]) (by simp [results, Tryd.results51, go_sem, y0, y1]) rfl ⟨N, rfl, R.out.1, by omega, R.out.2⟩
end Go.Proofs.YtdbaocphglijbaaDoor
