/- 4 texts put together: Bits, MsgW, MsgR, MsgD. -/
import Derived.Test.YtfmghbmbahembaaJB14
import Derived.Test.YtfmghbmbahembaaJB16
/- What a mask leaves of a number: for the head's flags. -/
namespace Go.Proofs.Ytfmghbmbahembaa
open Go.RowKit Go.Shelf

theorem bits_and_nat (a b : Nat) (ha : a < 4611686018427387904) (hb : b < 4611686018427387904) : bits .and .i64 (a : Int) (b : Int) = ((a &&& b : Nat) : Int) := by
  show IntKind.i64.wrap ((BitVec.ofInt 64 (a : Int) &&& BitVec.ofInt 64 (b : Int)).toNat : Int) = _
  have h1 : (BitVec.ofInt 64 (a : Int)).toNat = a := by rw [BitVec.toNat_ofInt]; omega
  have h2 : (BitVec.ofInt 64 (b : Int)).toNat = b := by rw [BitVec.toNat_ofInt]; omega
  rw [BitVec.toNat_and, h1, h2, IntKind.wrap_i64]
  have := Nat.and_le_left (n := a) (m := b)
  omega
theorem nat_and_shift (F m k : Nat) : F &&& (m <<< k) = ((F >>> k) &&& m) <<< k := by
  apply Nat.eq_of_testBit_eq
  intro i
  rw [Nat.testBit_and, Nat.testBit_shiftLeft, Nat.testBit_shiftLeft, Nat.testBit_and, Nat.testBit_shiftRight]
  by_cases h : k ≤ i
  · simp only [ge_iff_le, h, decide_true, Bool.true_and]
    rw [show k + (i - k) = i by omega]
  · simp [h]
/-- A mask of j digits from the k-th on. -/
theorem and_mask (F j k : Nat) : F &&& ((2 ^ j - 1) * 2 ^ k) = F / 2 ^ k % 2 ^ j * 2 ^ k := by
  rw [← Nat.shiftLeft_eq, nat_and_shift, Nat.and_two_pow_sub_one_eq_mod, Nat.shiftRight_eq_div_pow, Nat.shiftLeft_eq]
section
variable (F : Nat) (h : F < 4611686018427387904)
include h
theorem and1 : bits .and .i64 (F : Int) 1 = ((F % 2 : Nat) : Int) := (bits_and_nat F 1 h (by decide)).trans (congrArg _ ((and_mask F 1 0).trans (by simp)))
theorem and7 : bits .and .i64 (F : Int) 7 = ((F % 8 : Nat) : Int) := (bits_and_nat F 7 h (by decide)).trans (congrArg _ ((and_mask F 3 0).trans (by simp)))
theorem and15 : bits .and .i64 (F : Int) 15 = ((F % 16 : Nat) : Int) := (bits_and_nat F 15 h (by decide)).trans (congrArg _ ((and_mask F 4 0).trans (by simp)))
theorem and255 : bits .and .i64 (F : Int) 255 = ((F % 256 : Nat) : Int) := (bits_and_nat F 255 h (by decide)).trans (congrArg _ ((and_mask F 8 0).trans (by simp)))
theorem and128 : bits .and .i64 (F : Int) 128 = ((F / 128 % 2 * 128 : Nat) : Int) := (bits_and_nat F 128 h (by decide)).trans (congrArg _ (and_mask F 1 7))
theorem and256 : bits .and .i64 (F : Int) 256 = ((F / 256 % 2 * 256 : Nat) : Int) := (bits_and_nat F 256 h (by decide)).trans (congrArg _ (and_mask F 1 8))
theorem and512 : bits .and .i64 (F : Int) 512 = ((F / 512 % 2 * 512 : Nat) : Int) := (bits_and_nat F 512 h (by decide)).trans (congrArg _ (and_mask F 1 9))
theorem and1024 : bits .and .i64 (F : Int) 1024 = ((F / 1024 % 2 * 1024 : Nat) : Int) := (bits_and_nat F 1024 h (by decide)).trans (congrArg _ (and_mask F 1 10))
theorem and32768 : bits .and .i64 (F : Int) 32768 = ((F / 32768 % 2 * 32768 : Nat) : Int) := (bits_and_nat F 32768 h (by decide)).trans (congrArg _ (and_mask F 1 15))
theorem and112 : bits .and .i64 (F : Int) 112 = ((F / 16 % 8 * 16 : Nat) : Int) := (bits_and_nat F 112 h (by decide)).trans (congrArg _ (and_mask F 3 4))
theorem and30720 : bits .and .i64 (F : Int) 30720 = ((F / 2048 % 16 * 2048 : Nat) : Int) := (bits_and_nat F 30720 h (by decide)).trans (congrArg _ (and_mask F 4 11))
end
theorem and143 : ∀ c : Fin 256, bits .and .u8 ((c.1 : Nat) : Int) 143 = ((c.1 / 128 * 128 + c.1 % 16 : Nat) : Int) := by decide +kernel
end Go.Proofs.Ytfmghbmbahembaa

/- Datagrams: what the writer's acts leave, whatever stood there ahead. -/
namespace Go.Proofs.Ytfmghbmbahembaa
open Nm

/-! ### What was written ahead makes no difference to what is written -/
def WS.over (S : WS) (o : List UInt8) : WS := { S with out := o }
theorem over_put {S : WS} (o : List UInt8) {x : List UInt8} (h : ((S.size + x.length : Nat) : Int) ≤ S.most) : (S.over o).put x = (S.put x).over (o ++ x) := by
  unfold WS.over WS.put
  simp only
  rw [if_neg (by omega)]
theorem over_note (S : WS) (o k : List UInt8) : (S.over o).note k = (S.note k).over o := by
  unfold WS.over WS.note
  simp only
  split <;> rfl
theorem over_over (S : WS) (o p : List UInt8) : (S.over o).over p = S.over p := rfl
theorem put_out {S : WS} {x : List UInt8} (h : ((S.size + x.length : Nat) : Int) ≤ S.most) : (S.put x).out = S.out ++ x := by rw [put_fits h]
theorem over_self (S : WS) : S.over S.out = S := rfl
theorem over_sq : ∀ (ls : List (List UInt8)) (S : WS), (((S.sq ls).size : Nat) : Int) ≤ S.most → ∃ x, ∀ o, (S.over o).sq ls = (S.sq ls).over (o ++ x)
  | [], S, h => by
    have h' : ((S.size + 1 : Nat) : Int) ≤ S.most := by simpa [WS.sq, WS.put] using h
    exact ⟨[0], fun o => by rw [WS.sq, WS.sq]; exact over_put o (by simpa using h')⟩
  | l :: r, S, h => by
    cases hk : look (made (l :: r)) S.tab with
    | some k =>
      have hS : ∀ o, (S.over o).sq (l :: r) = (S.over o).put (two (49152 + (k : Int))) := fun o => by rw [WS.sq]; show (match look _ S.tab with | some k => _ | none => _) = _; rw [hk]
      have hS0 : S.sq (l :: r) = S.put (two (49152 + (k : Int))) := by rw [WS.sq, hk]
      rw [hS0] at h
      exact ⟨_, fun o => by rw [hS, hS0]; exact over_put o h⟩
    | none =>
      have hS : ∀ o, (S.over o).sq (l :: r) = (((S.over o).note (made (l :: r))).put (UInt8.ofNat l.length :: l)).sq r := fun o => by rw [WS.sq]; show (match look _ S.tab with | some k => _ | none => _) = _; rw [hk]
      have hS0 : S.sq (l :: r) = ((S.note (made (l :: r))).put (UInt8.ofNat l.length :: l)).sq r := by rw [WS.sq, hk]
      rw [hS0] at h
      have hmono := sq_mono r ((S.note (made (l :: r))).put (UInt8.ofNat l.length :: l))
      obtain ⟨_, hmost, _⟩ := note_keeps S (made (l :: r))
      have hp : (((S.note (made (l :: r))).size + (UInt8.ofNat l.length :: l).length : Nat) : Int) ≤ (S.note (made (l :: r))).most := by
        have : ((S.note (made (l :: r))).put (UInt8.ofNat l.length :: l)).size = (S.note (made (l :: r))).size + (UInt8.ofNat l.length :: l).length := rfl
        rw [hmost]; omega
      obtain ⟨x, hx⟩ := over_sq r ((S.note (made (l :: r))).put (UInt8.ofNat l.length :: l)) (by
        show _ ≤ (S.note (made (l :: r))).most
        rw [hmost]; exact h)
      exact ⟨(UInt8.ofNat l.length :: l) ++ x, fun o => by rw [hS, hS0, over_note, over_put o hp, hx, List.append_assoc]⟩
theorem name_mono (S : WS) (n : List UInt8) (sq : Bool) : S.size ≤ (S.name n sq).size := by
  unfold WS.name
  split
  · exact Nat.le_refl _
  · split
    · exact sq_mono _ _
    · simp [WS.put]
theorem over_name {S : WS} {n : List UInt8} {sq : Bool} (h : (((S.name n sq).size : Nat) : Int) ≤ S.most) : ∃ x, ∀ o, (S.over o).name n sq = (S.name n sq).over (o ++ x) := by
  by_cases hv : valid n = false
  · refine ⟨[], fun o => ?_⟩
    unfold WS.name
    rw [if_pos hv, if_pos hv, List.append_nil]
    rfl
  · unfold WS.name at h ⊢
    rw [if_neg hv] at h
    cases sq with
    | true =>
      rw [if_pos rfl] at h
      obtain ⟨x, hx⟩ := over_sq _ S h
      exact ⟨x, fun o => by rw [if_neg hv, if_neg hv, if_pos rfl, if_pos rfl]; exact hx o⟩
    | false =>
      rw [if_neg (by simp)] at h
      exact ⟨n, fun o => by rw [if_neg hv, if_neg hv, if_neg (by simp), if_neg (by simp)]; exact over_put o h⟩
theorem name_most (S : WS) (n : List UInt8) (sq : Bool) : (S.name n sq).most = S.most := by
  unfold WS.name
  split
  · rfl
  · split
    · exact sq_most _ _
    · rfl
where
  sq_most : ∀ (ls : List (List UInt8)) (S : WS), (S.sq ls).most = S.most
  | [], _ => rfl
  | l :: r, S => by
    rw [WS.sq]
    split
    · rfl
    · rw [sq_most r]; exact (note_keeps S _).2.1
namespace Ms
theorem parts_mono (sq : Bool) (d : List UInt8) : ∀ (ps : List (Nat × Nat)) (k : Nat) (S : WS), S.size ≤ (wParts sq d k ps S).size
  | [], k, S => by simp [wParts, WS.put]
  | p :: ps, k, S => by
    have h1 := parts_mono sq d ps (p.1 + p.2) ((S.put ((d.drop k).take (p.1 - k))).name ((d.drop p.1).take p.2) sq)
    have h2 := name_mono (S.put ((d.drop k).take (p.1 - k))) ((d.drop p.1).take p.2) sq
    have h3 : S.size ≤ (S.put ((d.drop k).take (p.1 - k))).size := by simp [WS.put]
    unfold wParts
    omega
theorem parts_most (sq : Bool) (d : List UInt8) : ∀ (ps : List (Nat × Nat)) (k : Nat) (S : WS), (wParts sq d k ps S).most = S.most
  | [], k, S => rfl
  | p :: ps, k, S => by
    unfold wParts
    rw [parts_most sq d ps, name_most]
    rfl
theorem over_parts (sq : Bool) (d : List UInt8) : ∀ (ps : List (Nat × Nat)) (k : Nat) (S : WS), (((wParts sq d k ps S).size : Nat) : Int) ≤ S.most → ∃ x, ∀ o, wParts sq d k ps (S.over o) = (wParts sq d k ps S).over (o ++ x)
  | [], k, S, h => ⟨d.drop k, fun o => over_put o (by simpa [wParts, WS.put] using h)⟩
  | p :: ps, k, S, h => by
    unfold wParts at h
    have h1 := parts_mono sq d ps (p.1 + p.2) ((S.put ((d.drop k).take (p.1 - k))).name ((d.drop p.1).take p.2) sq)
    have h2 := name_mono (S.put ((d.drop k).take (p.1 - k))) ((d.drop p.1).take p.2) sq
    have e1 : (S.put ((d.drop k).take (p.1 - k))).size = S.size + ((d.drop k).take (p.1 - k)).length := rfl
    obtain ⟨y, hy⟩ := over_name (S := S.put ((d.drop k).take (p.1 - k))) (n := (d.drop p.1).take p.2) (sq := sq) (by
      show _ ≤ S.most
      omega)
    obtain ⟨x, hx⟩ := over_parts sq d ps (p.1 + p.2) ((S.put ((d.drop k).take (p.1 - k))).name ((d.drop p.1).take p.2) sq) (by
      rw [name_most]; exact h)
    exact ⟨(d.drop k).take (p.1 - k) ++ (y ++ x), fun o => by
      show wParts sq d (p.1 + p.2) ps (((S.over o).put _).name _ sq) = _
      rw [over_put o (by omega), hy, hx, List.append_assoc, List.append_assoc]
      rfl⟩
end Ms
end Go.Proofs.Ytfmghbmbahembaa

/- Datagrams: what was written is read. -/
namespace Go.Proofs.Ytfmghbmbahembaa.Ms
open Go.Proofs.Ytfmghbmbahembaa

/-- A Writer of 4096 bytes that has not gone over. -/
structure OkW (S : WS) : Prop where
  good : Good S
  tab : TabOk S
  bad : S.bad = false
  most : S.most = 4096
  le : S.size ≤ 4096
def Pre (o b : List UInt8) : Prop := ∃ y, b = o ++ y
theorem Pre.refl (o : List UInt8) : Pre o o := ⟨[], by simp⟩
theorem pre_app (o x : List UInt8) : Pre o (o ++ x) := ⟨x, rfl⟩
theorem Pre.trans {a b c : List UInt8} (h : Pre a b) (k : Pre b c) : Pre a c := by
  obtain ⟨x, rfl⟩ := h; obtain ⟨y, rfl⟩ := k; exact ⟨x ++ y, by simp⟩
theorem Pre.sub {a b : List UInt8} (h : Pre a b) : Sub a b := by obtain ⟨x, rfl⟩ := h; exact sub_append _ _
theorem Pre.len {a b : List UInt8} (h : Pre a b) : a.length ≤ b.length := by obtain ⟨x, rfl⟩ := h; simp
theorem Pre.holds {a b x : List UInt8} (h : Pre (a ++ x) b) : Holds b a.length x := by
  obtain ⟨y, rfl⟩ := h
  intro j c hj
  have hl : j < x.length := (List.getElem?_eq_some_iff.1 hj).1
  rw [List.append_assoc, List.getElem?_append_right (by omega), Nat.add_sub_cancel_left, List.getElem?_append_left hl]
  exact hj

theorem okw_put {S : WS} (h : OkW S) {x : List UInt8} (hs : S.size + x.length ≤ 4096) : OkW (S.put x) ∧ (S.put x).size = S.size + x.length ∧ (S.put x).out = S.out ++ x :=
  ⟨⟨h.good.put (by rw [h.most]; omega), h.tab, h.bad, h.most, hs⟩, rfl, put_out (by rw [h.most]; omega)⟩
theorem okw_name {S : WS} (h : OkW S) {n : List UInt8} (hv : Nm.valid n = true) (sq : Bool) (hs : (S.name n sq).size ≤ 4096) :
    OkW (S.name n sq) ∧ S.size < (S.name n sq).size ∧ Pre S.out (S.name n sq).out ∧ Rn (S.name n sq).out S.size S.size n (S.name n sq).size := by
  have hs' : (((S.name n sq).size : Nat) : Int) ≤ S.most := by rw [h.most]; omega
  obtain ⟨g1, g2, g3, g4, _, _, g7, _, _⟩ := name_good h.good h.tab hv sq hs'
  obtain ⟨x, hx⟩ := over_name hs'
  have hx' := hx S.out
  rw [over_self] at hx'
  exact ⟨⟨g1, tabOk_name h.tab n sq, by rw [g3]; exact h.bad, by rw [g2]; exact h.most, hs⟩, g4, ⟨x, congrArg WS.out hx'⟩, g7⟩
theorem get_read {o b n : List UInt8} {p e : Nat} (h : Rn o p p n e) (hp : Pre o b) (hn : Nm.valid n = true) : Wn.get b (p : Int) = some (n, e) :=
  (h.sub hp.sub).gets (Rd.valid_len hn)
theorem two_read {o b : List UInt8} {z : Int} (h : Pre (o ++ two z) b) (h0 : 0 ≤ z) (h1 : z ≤ 65535) : two? b o.length = some z.toNat := by
  have hh := h.holds
  have e0 := hh 0 _ rfl
  have e1 := hh 1 _ rfl
  rw [Nat.add_zero] at e0
  unfold two?
  rw [e0, e1]
  have m0 := byteOf_int (z / 256)
  have m1 := byteOf_int z
  simp only [Option.some.injEq]
  omega
theorem four_eq {z : Int} (_h0 : 0 ≤ z) (_h1 : z < 4294967296) : four z = Rd.four z := by
  unfold four two Rd.four byteOf
  simp only [List.cons_append, List.nil_append]
  have e1 : z / 65536 / 256 = z / 16777216 := by omega
  rw [e1]
theorem four_read {o b : List UInt8} {z : Int} (h : Pre (o ++ four z) b) (h0 : 0 ≤ z) (h1 : z < 4294967296) : (Rd.number ((b.drop o.length).take 4) : Int) = z := by
  have hh := h.holds.part
  have hl : (four z).length = 4 := rfl
  rw [hl] at hh
  rw [hh, four_eq h0 h1, Rd.number_four h0 h1]

/-! ### Questions -/
theorem wQ_read {S : WS} (h : OkW S) {q : Q} (hq : checkQ q = true) (hs : (wQ S q).size ≤ 4096) :
    OkW (wQ S q) ∧ S.size < (wQ S q).size ∧ Pre S.out (wQ S q).out ∧ ∀ b, Pre (wQ S q).out b → dQ b S.size = some (q, (wQ S q).size) := by
  unfold checkQ at hq
  rw [Bool.and_eq_true, decide_eq_true_eq] at hq
  obtain ⟨hv, q1, q2, q3, q4⟩ := hq
  have e : (wQ S q).size = (S.name q.name true).size + 2 + 2 := rfl
  obtain ⟨n1, n2, n3, n4⟩ := okw_name h hv true (by omega)
  obtain ⟨t1, t2, t3⟩ := okw_put n1 (x := two q.typ) (by rw [two_len]; omega)
  obtain ⟨c1, c2, c3⟩ := okw_put t1 (x := two q.cls) (by rw [two_len, t2, two_len]; omega)
  refine ⟨c1, by omega, n3.trans (by show Pre _ (WS.put _ _).out; rw [c3, t3]; exact ⟨two q.typ ++ two q.cls, by simp⟩), fun b hb => ?_⟩
  have hb1 : Pre ((S.name q.name true).out ++ two q.typ ++ two q.cls) b := by
    have : (wQ S q).out = (S.name q.name true).out ++ two q.typ ++ two q.cls := by show (WS.put _ _).out = _; rw [c3, t3]
    rw [← this]; exact hb
  have hb2 : Pre ((S.name q.name true).out ++ two q.typ) b := (pre_app _ _).trans hb1
  have hb3 : Pre (S.name q.name true).out b := (pre_app _ _).trans hb2
  have f := n1.good.full
  unfold dQ
  rw [get_read n4 hb3 hv]
  simp only
  have r1 := two_read hb2 q1 q2
  have r2 := two_read hb1 q3 q4
  rw [f] at r1
  rw [List.length_append, two_len, f] at r2
  rw [r1, r2]
  simp only
  rw [e]
  obtain ⟨nn, tt, cc⟩ := q
  simp only at q1 q3 ⊢
  congr 2
  congr 1
  · omega
  · omega
theorem wQ_mono (S : WS) (q : Q) : S.size ≤ (wQ S q).size := by
  have := name_mono S q.name true
  show S.size ≤ (S.name q.name true).size + 2 + 2
  omega
theorem wQs_mono : ∀ (qs : List Q) (S : WS), S.size ≤ (qs.foldl wQ S).size
  | [], _ => Nat.le_refl _
  | q :: qs, S => Nat.le_trans (wQ_mono S q) (wQs_mono qs _)
theorem wQs_read : ∀ (qs : List Q) {S : WS}, OkW S → qs.all checkQ = true → (qs.foldl wQ S).size ≤ 4096 →
    OkW (qs.foldl wQ S) ∧ Pre S.out (qs.foldl wQ S).out ∧ ∀ b, Pre (qs.foldl wQ S).out b → dQs b qs.length S.size = some (qs, (qs.foldl wQ S).size)
  | [], S, h, _, _ => ⟨h, Pre.refl _, fun b _ => rfl⟩
  | q :: qs, S, h, hq, hs => by
    rw [List.all_cons, Bool.and_eq_true] at hq
    rw [List.foldl_cons] at hs ⊢
    have hm := wQs_mono qs (wQ S q)
    obtain ⟨a1, a2, a3, a4⟩ := wQ_read h hq.1 (by omega)
    obtain ⟨b1, b2, b3⟩ := wQs_read qs a1 hq.2 hs
    refine ⟨b1, a3.trans b2, fun b hb => ?_⟩
    show (match dQ b S.size with | none => none | some (q, e) => _) = _
    rw [a4 b (b2.trans hb)]
    simp only
    rw [b3 b hb]
    rfl

/-! ### Records -/
theorem set_mid (A X : List UInt8) (x y a c : UInt8) : ((A ++ [x, y] ++ X).set A.length a).set (A.length + 1) c = A ++ [a, c] ++ X := by
  rw [List.append_assoc, List.set_append_right _ _ (Nat.le_refl _), Nat.sub_self, List.set_append_right _ _ (by omega), Nat.add_sub_cancel_left, List.append_assoc]
  rfl
theorem wD_mono (S : WS) (r : Rd.RR) : S.size ≤ (wD S r).size := parts_mono _ _ _ _ _
/-- The length of a record's data, written at once. -/
def wRc (S1 : WS) (r : Rd.RR) : WS := (wD (S1.put (two 0)) r).set S1.size (((wD (S1.put (two 0)) r).size : Int) - S1.size - 2)
theorem wR_c (S : WS) (r : Rd.RR) : wR S r = wRc (wR0 S r) r := rfl
theorem wRc_size (S1 : WS) (r : Rd.RR) : (wRc S1 r).size = (wD (S1.put (two 0)) r).size := by unfold wRc WS.set; split <;> rfl
theorem wR_eq {S1 : WS} {r : Rd.RR} (hg : OkW S1) (hs : (wRc S1 r).size ≤ 4096) :
    ∃ L : Nat, (wRc S1 r).size = S1.size + 2 + L ∧ wRc S1 r = wD (S1.put (two (L : Int))) r := by
  have e0 := wRc_size S1 r
  have hm := wD_mono (S1.put (two 0)) r
  have e2 : (S1.put (two 0)).size = S1.size + 2 := rfl
  have hfull := hg.good.full
  have hmost := hg.most
  rw [e0] at hs
  obtain ⟨X, hX⟩ := over_parts (r.typ != 33) r.data (Rd.partsD r.typ r.data) 0 (S1.put (two 0)) (by show (((wD (S1.put (two 0)) r).size : Nat) : Int) ≤ S1.most; rw [hmost]; omega)
  have hX' : ∀ o, wD ((S1.put (two 0)).over o) r = (wD (S1.put (two 0)) r).over (o ++ X) := hX
  have hX0 := hX' (S1.put (two 0)).out
  rw [over_self] at hX0
  have hput : ∀ z, S1.put (two z) = { S1 with size := S1.size + 2, out := S1.out ++ two z } := fun z => put_fits (by rw [hmost, two_len]; omega)
  have ho3 : (wD (S1.put (two 0)) r).out = S1.out ++ two 0 ++ X := by rw [congrArg WS.out hX0, hput]; rfl
  refine ⟨(wD (S1.put (two 0)) r).size - S1.size - 2, by rw [e0]; omega, ?_⟩
  have hL : (((wD (S1.put (two 0)) r).size - S1.size - 2 : Nat) : Int) = ((wD (S1.put (two 0)) r).size : Int) - S1.size - 2 := by omega
  rw [hL]
  unfold wRc
  obtain ⟨L, hLL⟩ : ∃ L : Int, ((wD (S1.put (two 0)) r).size : Int) - S1.size - 2 = L := ⟨_, rfl⟩
  rw [hLL]
  have e4 : S1.put (two L) = (S1.put (two 0)).over (S1.out ++ two L) := by rw [hput, hput]; rfl
  rw [e4, hX']
  obtain ⟨S3, h3⟩ : ∃ S3, wD (S1.put (two 0)) r = S3 := ⟨_, rfl⟩
  rw [h3] at ho3 ⊢
  unfold WS.set
  rw [if_neg (by rw [ho3]; simp only [List.length_append, two_len, hfull]; omega), ho3]
  unfold WS.over
  congr 1
  have := set_mid S1.out X (byteOf (0 / 256)) (byteOf 0) (byteOf (L / 256)) (byteOf L)
  rw [hfull] at this
  exact this
end Go.Proofs.Ytfmghbmbahembaa.Ms

/- Datagrams: a record's data, records and sections that were written are read. -/
namespace Go.Proofs.Ytfmghbmbahembaa.Ms
open Go.Proofs.Ytfmghbmbahembaa

theorem put_none {S : WS} (h : OkW S) : S.put [] = S := by
  rw [put_fits (by rw [h.most]; have := h.le; simp only [List.length_nil, Nat.add_zero]; omega), List.append_nil]
  rfl
/-- A name that data has at a place is one. -/
theorem nsz_name {l : List UInt8} (h : Rd.nsz l ≠ 0) : Nm.valid (l.take (Rd.nsz l)) = true ∧ Rd.nsz l ≤ l.length := by
  rcases Rd.nsz_cases l with ⟨h0, _⟩ | ⟨k, hk, hl, hv, _⟩
  · exact absurd h0 h
  · rw [hk]; exact ⟨hv, hl⟩
theorem names_read (sq : Bool) (d : List UInt8) : ∀ (n k : Nat) {ps : List (Nat × Nat)} {e : Nat}, Rd.run d n k = some (ps, e) → k ≤ d.length → ∀ {S : WS}, OkW S → (wParts sq d k ps S).size ≤ 4096 →
    ∃ T, wParts sq d k ps S = T.put (d.drop e) ∧ OkW T ∧ Pre S.out T.out ∧ S.size ≤ T.size ∧ e ≤ d.length ∧ k ≤ e ∧ ∀ b lim, Pre T.out b → T.size ≤ lim → dNames b lim n S.size = some ((d.drop k).take (e - k), T.size)
  | 0, k, ps, e, h, hk, S, hS, hs => by
    simp only [Rd.run, Option.some.injEq, Prod.mk.injEq] at h
    obtain ⟨rfl, rfl⟩ := h
    exact ⟨S, rfl, hS, Pre.refl _, Nat.le_refl _, hk, Nat.le_refl _, fun b lim _ _ => by simp [dNames]⟩
  | n + 1, k, ps, e, h, hk, S, hS, hs => by
    simp only [Rd.run] at h
    split at h
    · cases h
    · rename_i h0
      obtain ⟨x, hx, hxe⟩ := Option.map_eq_some_iff.1 h
      obtain ⟨ps', e'⟩ := x
      simp only [Prod.mk.injEq] at hxe
      obtain ⟨rfl, rfl⟩ := hxe
      obtain ⟨hv, hl⟩ := nsz_name h0
      rw [List.length_drop] at hl
      obtain ⟨z, hz⟩ : ∃ z, Rd.nsz (d.drop k) = z := ⟨_, rfl⟩
      rw [hz] at h0 hx hv hl hs ⊢
      have hw : wParts sq d k ((k, z) :: ps') S = wParts sq d (k + z) ps' (S.name ((d.drop k).take z) sq) := by
        show wParts sq d (k + z) ps' ((S.put ((d.drop k).take (k - k))).name _ sq) = _
        rw [Nat.sub_self, List.take_zero, put_none hS]
      rw [hw] at hs ⊢
      have hm := parts_mono sq d ps' (k + z) (S.name ((d.drop k).take z) sq)
      obtain ⟨n1, n2, n3, n4⟩ := okw_name hS hv sq (by omega)
      obtain ⟨T, t1, t2, t3, t4, t5, t6, t7⟩ := names_read sq d n (k + z) hx (by omega) n1 hs
      refine ⟨T, t1, t2, n3.trans t3, by omega, t5, by omega, fun b lim hb hlim => ?_⟩
      show (match Wn.get b (S.size : Int) with | none => none | some (x, nx) => _) = _
      rw [get_read n4 (t3.trans hb) hv]
      simp only
      rw [if_neg (by omega), t7 b lim hb hlim]
      simp only [Option.map_some, Option.some.injEq, Prod.mk.injEq, and_true]
      rw [show e' - k = z + (e' - (k + z)) by omega, List.take_add, List.drop_drop]

theorem parts_cases {t : Int} {d : List UInt8} (h : Rd.dataOk t d = true) : ((dl t).2.1 = 0 ∧ Rd.partsD t d = []) ∨
    ∃ a n c e, dl t = (a, n, c) ∧ n ≠ 0 ∧ Rd.run d n a = some (Rd.partsD t d, e) ∧ e + c = d.length ∧ a ≤ d.length := by
  unfold Rd.dataOk at h
  obtain ⟨ps, hp⟩ := Option.isSome_iff_exists.1 h
  have hD : Rd.partsD t d = ps := by unfold Rd.partsD; rw [hp]; rfl
  rw [hD]
  unfold Rd.parts at hp
  split at hp
  · cases hp
  · split at hp
    · rename_i ht
      left
      subst ht
      refine ⟨rfl, ?_⟩
      split at hp <;> cases hp
      rfl
    · cases hl : Rd.lay t with
      | none => rw [hl] at hp; cases hp; left; exact ⟨by unfold dl; rw [hl], rfl⟩
      | some x =>
        obtain ⟨a, n, c⟩ := x
        rw [hl] at hp
        simp only at hp
        cases hr : Rd.run d n a with
        | none => rw [hr] at hp; cases hp
        | some y =>
          obtain ⟨ps', e⟩ := y
          rw [hr] at hp
          simp only at hp
          split at hp
          · rename_i he
            cases hp
            by_cases hn : n = 0
            · left
              subst hn
              simp only [Rd.run, Option.some.injEq, Prod.mk.injEq] at hr
              exact ⟨by unfold dl; rw [hl]; rfl, hr.1.symm⟩
            · right
              have hb := Rd.run_bound d n a hr
              exact ⟨a, n, c, e, by unfold dl; rw [hl]; simp [hn], hn, hr, he, by have := hb.2.1 hn; omega⟩
          · cases hp
theorem run_first {d : List UInt8} {n a : Nat} {ps : List (Nat × Nat)} {e : Nat} (hn : n ≠ 0) (h : Rd.run d n a = some (ps, e)) : ∃ z ps', ps = (a, z) :: ps' := by
  cases n with
  | zero => exact absurd rfl hn
  | succ n =>
    simp only [Rd.run] at h
    split at h
    · cases h
    · obtain ⟨x, _, hx⟩ := Option.map_eq_some_iff.1 h
      simp only [Prod.mk.injEq] at hx
      exact ⟨_, _, hx.1.symm⟩
theorem wD_read {S : WS} (h : OkW S) {r : Rd.RR} (hd : Rd.dataOk r.typ r.data = true) (hs : (wD S r).size ≤ 4096) :
    OkW (wD S r) ∧ Pre S.out (wD S r).out ∧ S.size ≤ (wD S r).size ∧ ∀ b, Pre (wD S r).out b → dData b S.size ((wD S r).size - S.size) r.typ = some r.data := by
  rcases parts_cases hd with ⟨h0, hp⟩ | ⟨a, n, c, e, hdl, hn, hr, he, ha⟩
  · have e0 : wD S r = S.put r.data := by unfold wD; rw [hp]; rfl
    rw [e0] at hs ⊢
    obtain ⟨p1, p2, p3⟩ := okw_put h (x := r.data) hs
    refine ⟨p1, by rw [p3]; exact pre_app _ _, by omega, fun b hb => ?_⟩
    rw [p3] at hb
    unfold dData
    rw [if_pos h0, p2, Nat.add_sub_cancel_left]
    have := hb.holds.part
    rw [h.good.full] at this
    rw [this]
  · obtain ⟨z, ps', hps⟩ := run_first hn hr
    have hw : wD S r = wParts (r.typ != 33) r.data a (Rd.partsD r.typ r.data) (S.put (r.data.take a)) := by
      unfold wD
      rw [hps]
      show wParts _ _ (a + z) ps' ((S.put ((r.data.drop 0).take (a - 0))).name _ _) = wParts _ _ (a + z) ps' (((S.put (r.data.take a)).put ((r.data.drop a).take (a - a))).name _ _)
      rw [Nat.sub_self, List.take_zero, WS.put_put, List.append_nil, List.drop_zero, Nat.sub_zero]
    have hm := parts_mono (r.typ != 33) r.data (Rd.partsD r.typ r.data) a (S.put (r.data.take a))
    rw [hw] at hs ⊢
    have hal : (r.data.take a).length = a := by rw [List.length_take]; omega
    have e1 : (S.put (r.data.take a)).size = S.size + (r.data.take a).length := rfl
    obtain ⟨p1, p2, p3⟩ := okw_put h (x := r.data.take a) (by omega)
    obtain ⟨T, t1, t2, t3, t4, t5, t6, t7⟩ := names_read (r.typ != 33) r.data n a hr ha p1 hs
    rw [t1] at hs ⊢
    have hdl2 : (r.data.drop e).length = c := by rw [List.length_drop]; omega
    have e2 : (T.put (r.data.drop e)).size = T.size + (r.data.drop e).length := rfl
    obtain ⟨q1, q2, q3⟩ := okw_put t2 (x := r.data.drop e) (by omega)
    refine ⟨q1, ((by rw [p3]; exact pre_app _ _ : Pre S.out (S.put (r.data.take a)).out).trans t3).trans (by rw [q3]; exact pre_app _ _), by omega, fun b hb => ?_⟩
    rw [q3] at hb
    have hbT : Pre T.out b := (pre_app _ _).trans hb
    have hb1 : Pre (S.out ++ r.data.take a) b := by rw [← p3]; exact t3.trans hbT
    have g1 := hb1.holds.part
    have g2 := hb.holds.part
    rw [h.good.full, hal] at g1
    rw [t2.good.full, hdl2] at g2
    unfold dData
    rw [hdl]
    simp only
    have hT : S.size + ((T.put (r.data.drop e)).size - S.size) = T.size + c := by omega
    rw [if_neg hn, if_neg (by omega), hT]
    have hk : S.size + a = (S.put (r.data.take a)).size := by omega
    rw [hk, t7 b (T.size + c) hbT (by omega)]
    simp only
    rw [if_pos trivial, g1, show T.size + c - T.size = c by omega, g2]
    congr 1
    have h1 : r.data.take a ++ (r.data.drop a).take (e - a) = r.data.take e := by
      conv => rhs; rw [show e = a + (e - a) by omega, List.take_add]
    rw [h1, List.take_append_drop]

/-! ### Records -/
theorem check_parts {r : Rd.RR} (h : Rd.check r = true) : Nm.valid r.name = true ∧ (1 ≤ r.typ ∧ r.typ ≤ 65535 ∧ r.typ ≠ 41 ∧ 0 ≤ r.cls ∧ r.cls ≤ 65535 ∧ 0 ≤ r.ttl ∧ r.ttl ≤ 2147483647) ∧ Rd.dataOk r.typ r.data = true := by
  unfold Rd.check at h
  rw [Bool.and_eq_true, Bool.and_eq_true, decide_eq_true_eq] at h
  exact ⟨h.1.1, h.1.2, h.2⟩
theorem four_length (z : Int) : (four z).length = 4 := rfl
theorem wR0_size (S : WS) (r : Rd.RR) : (wR0 S r).size = (S.name r.name true).size + 8 := by
  show (S.name r.name true).size + 2 + 2 + 4 = _
  rfl
theorem wR0_read {S : WS} (h : OkW S) {r : Rd.RR} (hr : Rd.check r = true) (hs : (wR0 S r).size ≤ 4096) :
    OkW (wR0 S r) ∧ S.size < (S.name r.name true).size ∧ Pre S.out (wR0 S r).out ∧ ∀ b, Pre (wR0 S r).out b → Wn.get b (S.size : Int) = some (r.name, (S.name r.name true).size) ∧
      two? b (S.name r.name true).size = some r.typ.toNat ∧ two? b ((S.name r.name true).size + 2) = some r.cls.toNat ∧ (Rd.number ((b.drop ((S.name r.name true).size + 4)).take 4) : Int) = r.ttl := by
  obtain ⟨hv, hc, _⟩ := check_parts hr
  rw [wR0_size] at hs
  obtain ⟨n1, n2, n3, n4⟩ := okw_name h hv true (by omega)
  obtain ⟨t1, t2, t3⟩ := okw_put n1 (x := two r.typ) (by rw [two_len]; omega)
  obtain ⟨c1, c2, c3⟩ := okw_put t1 (x := two r.cls) (by rw [two_len, t2, two_len]; omega)
  obtain ⟨l1, l2, l3⟩ := okw_put c1 (x := four r.ttl) (by rw [four_length, c2, two_len, t2, two_len]; omega)
  have ho : (wR0 S r).out = (S.name r.name true).out ++ two r.typ ++ two r.cls ++ four r.ttl := by show (WS.put _ _).out = _; rw [l3, c3, t3]
  refine ⟨l1, n2, n3.trans (by rw [ho, List.append_assoc, List.append_assoc]; exact pre_app _ _), fun b hb => ?_⟩
  rw [ho] at hb
  have hb1 := (pre_app _ _).trans hb
  have hb2 := (pre_app _ _).trans hb1
  have hb3 := (pre_app _ _).trans hb2
  have f := n1.good.full
  have r1 := two_read hb2 (by omega) (by omega)
  have r2 := two_read hb1 (by omega) (by omega)
  have r3 := four_read hb (by omega) (by omega)
  rw [f] at r1
  rw [List.length_append, two_len, f] at r2
  rw [List.length_append, List.length_append, two_len, two_len, f] at r3
  exact ⟨get_read n4 hb3 hv, r1, r2, r3⟩
theorem wR_mono (S : WS) (r : Rd.RR) : S.size ≤ (wR S r).size := by
  have h1 := name_mono S r.name true
  have h2 := wD_mono ((wR0 S r).put (two 0)) r
  have h3 := wR0_size S r
  have h4 : ((wR0 S r).put (two 0)).size = (wR0 S r).size + 2 := rfl
  rw [wR_c, wRc_size]
  omega
theorem wR_read {S : WS} (h : OkW S) {r : Rd.RR} (hr : Rd.check r = true) (hs : (wR S r).size ≤ 4096) :
    OkW (wR S r) ∧ S.size < (wR S r).size ∧ Pre S.out (wR S r).out ∧ ∀ b, Pre (wR S r).out b → ∃ w, dRaw b S.size = some w ∧ (w.typ : Int) = r.typ ∧ w.at' + w.size = (wR S r).size ∧ dData b w.at' w.size w.typ = some r.data ∧ recOf w r.data = r := by
  obtain ⟨hv, hc, hd⟩ := check_parts hr
  have hm := wD_mono ((wR0 S r).put (two 0)) r
  have h4 : ((wR0 S r).put (two 0)).size = (wR0 S r).size + 2 := rfl
  have hsz : (wR S r).size = (wD ((wR0 S r).put (two 0)) r).size := wRc_size _ _
  obtain ⟨a1, a2, a3, a4⟩ := wR0_read h hr (by omega)
  rw [wR_c] at hs ⊢
  obtain ⟨L, hL, hLe⟩ := wR_eq a1 hs
  obtain ⟨b1, b2, b3⟩ := okw_put a1 (x := two (L : Int)) (by rw [two_len]; omega)
  rw [two_len] at b2
  have e1 := wR0_size S r
  rw [hLe] at hs
  obtain ⟨c1, c2, c3, c4⟩ := wD_read b1 hd hs
  rw [hLe] at hL ⊢
  refine ⟨c1, by omega, (a3.trans (by rw [b3]; exact pre_app _ _)).trans c2, fun b hb => ?_⟩
  have hb1 := c2.trans hb
  have hb0 : Pre (wR0 S r).out b := by rw [b3] at hb1; exact (pre_app _ _).trans hb1
  obtain ⟨g1, g2, g3, g4⟩ := a4 b hb0
  have g5 := two_read (z := (L : Int)) (by rw [b3] at hb1; exact hb1) (by omega) (by omega)
  rw [a1.good.full, e1] at g5
  have hdd := c4 b hb
  have hlen := hb.len
  rw [c1.good.full] at hlen
  refine ⟨⟨r.name, r.typ.toNat, r.cls.toNat, Rd.number ((b.drop ((S.name r.name true).size + 4)).take 4), (S.name r.name true).size + 10, L⟩, ?_, by show ((r.typ.toNat : Nat) : Int) = _; omega, by show (S.name r.name true).size + 10 + L = _; omega, ?_, ?_⟩
  · unfold dRaw
    rw [g1]
    simp only
    rw [g2, g3, g5]
    simp only [Int.toNat_natCast]
    rw [if_pos (by omega)]
  · show dData b ((S.name r.name true).size + 10) L ((r.typ.toNat : Nat) : Int) = _
    rw [show ((r.typ.toNat : Nat) : Int) = r.typ by omega]
    have e2 : (S.name r.name true).size + 10 = ((wR0 S r).put (two (L : Int))).size := by omega
    have e3 : L = (wD ((wR0 S r).put (two (L : Int))) r).size - ((wR0 S r).put (two (L : Int))).size := by omega
    rw [e2]
    conv => lhs; rw [e3]
    exact hdd
  · unfold recOf
    simp only
    obtain ⟨rn, rt, rc, rl, rd⟩ := r
    simp only at hc g4 ⊢
    rw [if_neg (by omega), g4]
    congr 1
    · omega
    · omega

/-! ### Sections -/
theorem wRs_mono : ∀ (l : List Rd.RR) (S : WS), S.size ≤ (l.foldl wR S).size
  | [], _ => Nat.le_refl _
  | r :: l, S => Nat.le_trans (wR_mono S r) (wRs_mono l _)
theorem dRec_rec {b : List UInt8} {i : Nat} {s : St} {w : Raw} {r : Rd.RR} (hw : dRaw b s.at' = some w) (ht : (w.typ : Int) = r.typ) (hd : dData b w.at' w.size w.typ = some r.data) (hr : recOf w r.data = r) (hc : Rd.check r = true) (hl : s.acc.length < 64) :
    dRec b i s = some ⟨w.at' + w.size, s.edns, s.esz, s.acc ++ [r]⟩ := by
  have h41 := (check_parts hc).2.1.2.2.1
  unfold dRec
  rw [hw]
  simp only
  rw [if_neg (by omega), hd]
  simp only
  rw [hr, if_pos ⟨hc, hl⟩]
theorem wRs_read (i : Nat) : ∀ (l : List Rd.RR) {S : WS}, OkW S → l.all Rd.check = true → (l.foldl wR S).size ≤ 4096 →
    OkW (l.foldl wR S) ∧ Pre S.out (l.foldl wR S).out ∧ ∀ b, Pre (l.foldl wR S).out b → ∀ ed es acc, acc.length + l.length ≤ 64 → dSec b i l.length ⟨S.size, ed, es, acc⟩ = some ⟨(l.foldl wR S).size, ed, es, acc ++ l⟩
  | [], S, h, _, _ => ⟨h, Pre.refl _, fun b _ ed es acc _ => by simp [dSec]⟩
  | r :: l, S, h, hc, hs => by
    rw [List.all_cons, Bool.and_eq_true] at hc
    rw [List.foldl_cons] at hs ⊢
    have hm := wRs_mono l (wR S r)
    obtain ⟨a1, a2, a3, a4⟩ := wR_read h hc.1 (by omega)
    obtain ⟨b1, b2, b3⟩ := wRs_read i l a1 hc.2 hs
    refine ⟨b1, a3.trans b2, fun b hb ed es acc hl => ?_⟩
    rw [List.length_cons] at hl
    obtain ⟨w, w1, w2, w3, w4, w5⟩ := a4 b (b2.trans hb)
    show (match dRec b i ⟨S.size, ed, es, acc⟩ with | none => none | some s' => _) = _
    rw [dRec_rec (s := ⟨S.size, ed, es, acc⟩) w1 w2 w4 w5 hc.1 (show acc.length < 64 by omega)]
    simp only
    rw [w3, b3 b hb ed es (acc ++ [r]) (by simp; omega), List.append_assoc]
    rfl
theorem dSec_append (b : List UInt8) (i : Nat) : ∀ (n k : Nat) (s : St), dSec b i (n + k) s = (dSec b i n s).bind (dSec b i k)
  | 0, k, s => by rw [Nat.zero_add]; rfl
  | n + 1, k, s => by
    rw [show n + 1 + k = (n + k) + 1 by omega]
    show (match dRec b i s with | none => none | some s' => dSec b i (n + k) s') = (match dRec b i s with | none => none | some s' => dSec b i n s').bind _
    cases dRec b i s with
    | none => rfl
    | some s' => exact dSec_append b i n k s'
end Go.Proofs.Ytfmghbmbahembaa.Ms
