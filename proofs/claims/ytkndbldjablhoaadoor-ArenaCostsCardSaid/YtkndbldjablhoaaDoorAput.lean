/- putHead. -/
import Derived.Test.YtkndbldjablhoaaDoorAhead
set_option maxRecDepth 100000
namespace Go.Proofs.YtkndbldjablhoaaDoor
open Go.RowKit Go.Shelf
namespace Ar
/-- The last k of eight bytes of a number. -/
def lastB : Nat → Nat → List UInt8
  | 0, _ => []
  | k + 1, x => lastB k (x / 256) ++ [UInt8.ofNat (x % 256)]
def byte8 (x : Nat) : List UInt8 := lastB 8 x
def put (mem : List UInt8) (a : Nat) (l : List UInt8) : List UInt8 := mem.take a ++ l ++ mem.drop (a + l.length)
def putHd (mem : List UInt8) (a : Nat) (p : Head) : List UInt8 := put mem a (byte8 p.word)
theorem lastB_len : ∀ k x, (lastB k x).length = k
  | 0, _ => rfl
  | k + 1, x => by simp [lastB, lastB_len k]
theorem put_len (mem : List UInt8) (a : Nat) (l : List UInt8) (h : a + l.length ≤ mem.length) : (put mem a l).length = mem.length := by simp [put]; omega
/-- What is there when the last k of eight bytes are written, of a number that is x at first. -/
def putK (mem : List UInt8) (a : Nat) (x : Nat) (k : Nat) : List UInt8 := mem.take (a + 8 - k) ++ lastB k x ++ mem.drop (a + 8)
theorem lastB_succ : ∀ (k x : Nat), lastB (k + 1) x = UInt8.ofNat (x / 256 ^ k % 256) :: lastB k x
  | 0, x => by simp [lastB]
  | k + 1, x => by
    rw [lastB, lastB_succ k (x / 256), lastB, Nat.pow_succ, Nat.div_div_eq_div_mul, Nat.mul_comm 256]
    rfl
theorem putK_set (mem : List UInt8) (a x k : Nat) (hk : k < 8) (ha : a + 8 ≤ mem.length) : (putK mem a x k).set (a + 7 - k) (UInt8.ofNat (x / 256 ^ k % 256)) = putK mem a x (k + 1) := by
  unfold putK
  rw [lastB_succ]
  have h1 : (mem.take (a + 8 - k)) = mem.take (a + 8 - (k + 1)) ++ [mem[a + 7 - k]] := by
    rw [show a + 8 - k = (a + 7 - k) + 1 by omega, List.take_succ_eq_append_getElem (by omega), show a + 8 - (k + 1) = a + 7 - k by omega]
  rw [h1]
  have h2 : (mem.take (a + 8 - (k + 1))).length = a + 7 - k := by simp; omega
  rw [List.append_assoc, List.append_assoc, List.set_append_right _ _ (by omega), h2]
  simp
theorem putK_len (mem : List UInt8) (a x k : Nat) (hk : k ≤ 8) (ha : a + 8 ≤ mem.length) : (putK mem a x k).length = mem.length := by
  unfold putK; simp [lastB_len]; omega
theorem putK_full (mem : List UInt8) (a x : Nat) : putK mem a x 8 = put mem a (byte8 x) := by
  unfold putK put byte8; rw [lastB_len]; simp
theorem wordOf_lastB : ∀ k x, wordOf (lastB k x) = x % 256 ^ k
  | 0, x => by rw [Nat.pow_zero, Nat.mod_one]; rfl
  | k + 1, x => by
    have e : (UInt8.ofNat (x % 256)).toNat = x % 256 := by simp
    rw [lastB, wordOf_snoc, wordOf_lastB k, e, Nat.pow_succ, Nat.mul_comm (256 ^ k), Nat.mod_mul]
    omega
theorem put_take (mem : List UInt8) (a : Nat) (l : List UInt8) (ha : a ≤ mem.length) : ((put mem a l).drop a).take l.length = l := by
  unfold put
  rw [List.append_assoc, List.drop_append_of_le_length (by simp; omega)]
  have : (mem.take a).drop a = [] := List.drop_eq_nil_of_le (by simp; omega)
  rw [this, List.nil_append, List.take_left' rfl]
theorem headAt_putHd (mem : List UInt8) (a : Nat) (p : Head) (ha : a ≤ mem.length) (hp : p.fits) : headAt (putHd mem a p) a = p := by
  unfold headAt putHd
  have := put_take mem a (byte8 p.word) ha
  rw [show (byte8 p.word).length = 8 from lastB_len 8 _] at this
  rw [this]
  unfold byte8
  rw [wordOf_lastB, Nat.mod_eq_of_lt (word_lt hp), headOf_word hp]
theorem putK_none (mem : List UInt8) (a x : Nat) : putK mem a x 0 = mem := by
  unfold putK; simp [lastB]
end Ar
theorem ArE.setMem {A : Nat} {L : Loc} {S : Ar.St} {f : Nat → Prop} {w w' : World} (h : ArE A L S f w) {m : List UInt8} (hm : Blk w' L.M (m.map encB) 5) (hl : m.length = S.mem.length) (hk : ∀ k, k ≠ L.M → k < w.heap.size → w'.heap[k]? = w.heap[k]?) (hs : w.heap.size ≤ w'.heap.size) : ArE A L { S with mem := m } f w' :=
  ⟨by
    have := h.box.kept (W' := w') (hk _ (h.box.ne h.mem (by decide)) h.box.lt)
    unfold arBox at this ⊢
    simp only [hl]
    exact this, hm, h.pl.kept (hk _ (h.pl.ne h.mem (by decide)) h.pl.lt), h.us.kept (hk _ (h.us.ne h.mem (by decide)) h.us.lt), h.nd.kept (hk _ (h.nd.ne h.mem (by decide)) h.nd.lt), h.cap, h.cm, h.fA, h.fM, h.fP, h.fU, h.fN, fun k e => Nat.lt_of_lt_of_le (h.fb k e) hs⟩
theorem word_or (o s a : Nat) (ho : o < 2097152) (hs : s < 2097152) (ha : a < 2097152) : bits .or .u64 (bits .or .u64 ((o : Int) * 4398046511104) ((s : Int) * 2097152)) (a : Int) = ((o * 4398046511104 + s * 2097152 + a : Nat) : Int) := by
  rw [show ((o : Int) * 4398046511104) = ((o * 4398046511104 : Nat) : Int) from rfl, show ((s : Int) * 2097152) = ((s * 2097152 : Nat) : Int) from rfl, u64_or_nat _ _ (by omega) (by omega), nat_join 42 _ _ (Nat.mul_mod_left o 4398046511104) (show s * 2097152 < 4398046511104 by omega), u64_or_nat _ _ (by omega) (by omega), nat_join 21 _ _ (show (o * 4398046511104 + s * 2097152) % 2097152 = 0 by omega) (show a < 2097152 by omega)]
theorem word_or_free (x : Nat) (hx : x < 9223372036854775808) : bits .or .u64 (x : Int) 9223372036854775808 = ((9223372036854775808 + x : Nat) : Int) := by
  have := u64_or_nat x 9223372036854775808 (by omega) (by decide)
  rw [Nat.or_comm, nat_join 63 _ _ (by decide) (show x < 9223372036854775808 by omega)] at this
  exact this
theorem byte_of (X k : Nat) : Value.int .u8 ((X : Int) / 256 ^ k % 256) = encB (UInt8.ofNat (X / 256 ^ k % 256)) := by
  unfold encB
  congr 1
  have e : (256 : Int) ^ k = ((256 ^ k : Nat) : Int) := by simp
  rw [e]
  simp
/-- The loop's relation. -/
structure PutR (A : Nat) (L : Loc) (a X : Nat) (mem : List UInt8) (w : World) (k : Nat) (z : Int) (wr : World) : Prop where
  k8 : k ≤ 8
  z : z + k = a + 7
  blk : Blk wr L.M ((Ar.putK mem a X k).map encB) 5
  trn : Trn (fun j => j = L.M) w wr
theorem PutR.step {A : Nat} {L : Loc} {a X : Nat} {mem : List UInt8} {w wr : World} {k j : Nat} (h : PutR A L a X mem w k (j : Int) wr) (hk : k < 8) (ha : a + 8 ≤ mem.length) : PutR A L a X mem w (k + 1) ((j : Int) - 1) (wr.setCell ⟨L.M, j, none⟩ (.int .u8 ((X : Int) / 256 ^ k % 256))) :=
  ⟨by omega, by have := h.z; omega, by
    have hz := h.z
    have hb := h.blk.set j (.int .u8 ((X : Int) / 256 ^ k % 256))
    rw [byte_of] at hb ⊢
    rw [← Ar.putK_set mem a X k hk ha, show a + 7 - k = j by omega, List.map_set]
    exact hb, h.trn.trans ((Trn.set h.blk (.inl rfl) _ _))⟩
set_option maxHeartbeats 2000000 in
theorem putHead_any (A : Nat) (L : Loc) (S : Ar.St) (f : Nat → Prop) (a : Nat) (p : Ar.Head) (w : World) (h : ArE A L S f w) (hm : S.mem.length ≤ 1048576) (ha : a + 8 ≤ S.mem.length) (hp : p.fits) :
    Calls Tryd.prog 51 #[.pointer (some ⟨A, 0, none⟩), .int .i64 (a : Int), encH p] w fun e w' => e = .returned (.tuple #[]) ∧ Trn f w w' ∧ ArE A L { S with mem := Ar.putHd S.mem a p } f w' := by
  have hword := Ar.word_lt hp
  have fin : ∀ w', Blk w' L.M ((Ar.putK S.mem a p.word 8).map encB) 5 → Trn (fun j => j = L.M) w w' → Trn f w w' ∧ ArE A L { S with mem := Ar.putHd S.mem a p } f w' := fun w' hb ht => by
    rw [Ar.putK_full] at hb
    exact ⟨ht.mono (fun k _ e => e ▸ h.fM), h.setMem hb (Ar.put_len _ _ _ (by unfold Ar.byte8; rw [Ar.lastB_len]; omega)) (fun k hk hs => ht.block k hs hk) ht.size⟩
  have Fin := Lib.hid fin
  clear fin
  have hcM : ∀ (k : Nat) (l : List UInt8) (j : Nat) (W : World), Blk W L.M (l.map encB) 5 → j < l.length → W.cell? ⟨L.M, j, none⟩ = some (encB (l.getD j 0)) := fun k l j W hb hj => hb.cell (by simp [hj])
  have HcM := Lib.hid hcM
  clear hcM
  have hX : p.word = (if p.free then 9223372036854775808 else 0) + (p.owner * 4398046511104 + p.size * 2097152 + p.ahead) := by unfold Ar.Head.word; omega
  generalize p.word = X at hword Fin hX
  obtain ⟨fr, ow, sz, ah⟩ := p
  obtain ⟨h1, h2, h3⟩ := hp
  simp only at h1 h2 h3 hX
  have hor := word_or ow sz ah h1 h2 h3
  have hx0 : ow * 4398046511104 + sz * 2097152 + ah < 9223372036854775808 := by omega
  generalize ow * 4398046511104 + sz * 2097152 + ah = x0 at hor hx0 hX
  have horf := word_or_free x0 hx0
  have hbox := h.cells.1
  have hAl := h.box.lt
  have hMl := h.mem.lt
  have hAM : A ≠ L.M := h.box.ne h.mem (by decide)
  have H0 : Hid (Blk w L.M (S.mem.map encB) 5) := Lib.hid h.mem
  cases fr
  all_goals
    simp only [Bool.false_eq_true, if_false, if_true, Nat.zero_add] at hX
    have HX := Lib.hid hX
    clear hX
    unfold encH encI
    simp only
    go_enter Tryd.func51, Tryd.ntmps51
    go_wp2_with (simp only [hor, horf])
    clear hor horf
    go_loopw [6, 7] (fun x i wr => ∃ (k : Nat) (z : Int), i = .int .i64 z ∧ x = .int .u64 ((X / 256 ^ k : Nat) : Int) ∧ PutR A L a X S.mem w k z wr) (fun _ i _ => ((intOf i) + 1 - a).toNat)
    case atStart => exact ⟨0, _, rfl, by rw [HX.out]; simp, by omega, by omega, by rw [Ar.putK_none]; exact H0.out.alloc _, Trn.alloc w _⟩
    case round =>
      obtain ⟨k, z, rfl, rfl, hR⟩ := hrel
      have hbx : wr.cell? ⟨A, 0, none⟩ = some (.slice (some ⟨L.M, 0, none⟩) S.mem.length S.mem.length) := (World.cell?_of_block (a := ⟨A, 0, none⟩) (hR.trn.block A hAl hAM)).trans hbox
      by_cases hlt : k < 8
      · have hz := hR.z
        obtain ⟨j, rfl⟩ : ∃ j : Nat, z = (j : Int) := ⟨z.toNat, by omega⟩
        have hj1 : a ≤ j := by omega
        have hj2 : j < S.mem.length := by omega
        have hcj := HcM.out k _ j wr hR.blk (by rw [Ar.putK_len _ _ _ _ hR.k8 ha]; exact hj2)
        have hfj := hR.blk.frozen j
        have hst := Lib.hid (hR.step hlt ha)
        have hpw : (X : Int) / 256 ^ k / 256 = ((X / 256 ^ (k + 1) : Nat) : Int) := by
          rw [Nat.pow_succ, ← Nat.div_div_eq_div_mul]; simp
        have Hpw := Lib.hid hpw
        clear hpw
        go_wp2
        go_roundw
        case rel => exact ⟨k + 1, (j : Int) - 1, rfl, by rw [Hpw.out], hst.out⟩
        case measure => simp [intOf]; omega
      · have hz := hR.z
        obtain rfl : k = 8 := by have := hR.k8; omega
        have hz1 : z < a := by omega
        have hend := Lib.hid (Fin.out wr hR.blk hR.trn)
        go_wp2
        go_end0
        exact ⟨rfl, hend.out⟩
end Go.Proofs.YtkndbldjablhoaaDoor
