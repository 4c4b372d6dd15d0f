/- What a Writer wrote is read again: plain mathematics. -/
import Derived.Test.YtipabiiffaipdaaSqMath
import Derived.Test.YtipabiiffaipdaaGetMath
namespace Go.Proofs.Ytipabiiffaipdaa
open Go.RowKit

/-- b holds x from p on. -/
def Holds (b : List UInt8) (p : Nat) (x : List UInt8) : Prop := ∀ (j : Nat) (c : UInt8), x[j]? = some c → b[p + j]? = some c
theorem Holds.app {b : List UInt8} {p : Nat} {x y : List UInt8} : Holds b p (x ++ y) ↔ Holds b p x ∧ Holds b (p + x.length) y := by
  constructor
  · intro h
    refine ⟨fun j c hj => h j c ?_, fun j c hj => ?_⟩
    · have := (List.getElem?_eq_some_iff.1 hj).1
      rw [List.getElem?_append_left this]; exact hj
    · rw [Nat.add_assoc]
      refine h _ c ?_
      rw [List.getElem?_append_right (by omega), show x.length + j - x.length = j by omega]; exact hj
  · rintro ⟨h1, h2⟩ j c hj
    by_cases hl : j < x.length
    · rw [List.getElem?_append_left hl] at hj; exact h1 j c hj
    · rw [List.getElem?_append_right (by omega)] at hj
      have := h2 _ c hj
      rw [show p + x.length + (j - x.length) = p + j by omega] at this; exact this
theorem holds_append (b x : List UInt8) : Holds (b ++ x) b.length x := fun j c hj => by
  rw [List.getElem?_append_right (by omega), show b.length + j - b.length = j by omega]; exact hj
theorem Holds.part {b x : List UInt8} {p : Nat} (h : Holds b p x) : (b.drop p).take x.length = x := by
  apply List.ext_getElem?
  intro j
  by_cases hj : j < x.length
  · rw [List.getElem?_take_of_lt hj, List.getElem?_drop, h j x[j] (List.getElem?_eq_getElem hj), List.getElem?_eq_getElem hj]
  · rw [List.getElem?_eq_none (by rw [List.length_take]; omega), List.getElem?_eq_none (by omega)]

/-- What changes neither what stands from 2 on. -/
def Sub (b b' : List UInt8) : Prop := ∀ (i : Nat) (c : UInt8), 2 ≤ i → b[i]? = some c → b'[i]? = some c
theorem Sub.refl (b : List UInt8) : Sub b b := fun _ _ _ h => h
theorem Sub.trans {a b c : List UInt8} (h : Sub a b) (k : Sub b c) : Sub a c := fun i x hi hx => k i x hi (h i x hi hx)
theorem sub_append (b x : List UInt8) : Sub b (b ++ x) := fun i c _ h => by
  have := (List.getElem?_eq_some_iff.1 h).1
  rw [List.getElem?_append_left this]; exact h
theorem sub_set (b : List UInt8) (c d : UInt8) : Sub b ((b.set 0 c).set 1 d) := fun i x hi h => by
  rw [List.getElem?_set_ne (by omega), List.getElem?_set_ne (by omega)]; exact h
theorem Holds.sub {b b' x : List UInt8} {p : Nat} (h : Holds b p x) (hs : Sub b b') (hp : 2 ≤ p) : Holds b' p x := fun j c hj => hs _ _ (by omega) (h j c hj)

/-- In b the name n is read at p, in a part that began at fr, and ends at e; nothing ahead of 2 is touched. -/
inductive Rd (b : List UInt8) : Nat → Nat → List UInt8 → Nat → Prop
  | zero {fr p : Nat} (hp : 2 ≤ p) (h : b[p]? = some 0) : Rd b fr p [0] (p + 1)
  | ptr {fr p t e : Nat} {n : List UInt8} (hp : 2 ≤ p) (ht : t < 16384) (h : Holds b p (two (49152 + (t : Int)))) (hf : t < fr) (r : Rd b t t n e) : Rd b fr p n (p + 2)
  | lab {fr p e : Nat} {n : List UInt8} (l : List UInt8) (hp : 2 ≤ p) (h1 : 1 ≤ l.length) (h2 : l.length ≤ 63) (h : Holds b p (UInt8.ofNat l.length :: l)) (r : Rd b fr (p + (1 + l.length)) n e) : Rd b fr p (UInt8.ofNat l.length :: l ++ n) e
theorem Rd.sub {b b' : List UInt8} {fr p e : Nat} {n : List UInt8} (h : Rd b fr p n e) (hs : Sub b b') : Rd b' fr p n e := by
  induction h with
  | zero hp h => exact .zero hp (hs _ _ hp h)
  | ptr hp ht h hf _ ih => exact .ptr hp ht (h.sub hs hp) hf ih
  | lab l hp h1 h2 h _ ih => exact .lab l hp h1 h2 (h.sub hs hp) ih
theorem Rd.widen {b : List UInt8} {fr p e : Nat} {n : List UInt8} (h : Rd b fr p n e) : ∀ {fr'}, fr ≤ fr' → Rd b fr' p n e := by
  induction h with
  | zero hp h => intro fr' _; exact .zero hp h
  | ptr hp ht h hf r _ => intro fr' hle; exact .ptr hp ht h (by omega) r
  | lab l hp h1 h2 h _ ih => intro fr' hle; exact .lab l hp h1 h2 h (ih hle)
theorem Rd.two {b : List UInt8} {fr p e : Nat} {n : List UInt8} (h : Rd b fr p n e) : 2 ≤ p := by cases h <;> assumption

theorem ptr_bytes {b : List UInt8} {p t : Nat} (ht : t < 16384) (h : Holds b p (two (49152 + (t : Int)))) : ∃ (h1 : p < b.length) (_ : p + 1 < b.length), 192 ≤ b[p].toNat ∧ Wn.ptr b p = some t := by
  have e0 : (byteOf ((49152 + (t : Int)) / 256)).toNat = 192 + t / 256 := by
    have := byteOf_int ((49152 + (t : Int)) / 256)
    omega
  have e1 : (byteOf (49152 + (t : Int))).toNat = t % 256 := by
    have := byteOf_int (49152 + (t : Int))
    omega
  have h0 := h 0 _ rfl
  have h1 := h 1 _ rfl
  obtain ⟨l0, g0⟩ := List.getElem?_eq_some_iff.1 h0
  obtain ⟨l1, g1⟩ := List.getElem?_eq_some_iff.1 h1
  simp only [Nat.add_zero] at l0 g0
  refine ⟨l0, l1, by rw [g0, e0]; omega, ?_⟩
  rw [Wn.ptr_some l1, g0, g1, e0, e1]
  congr 1
  omega
theorem Rd.get {b : List UInt8} {fr p e : Nat} {n : List UInt8} (h : Rd b fr p n e) : ∃ (e0 : Nat) (he : e0 < b.length), p ≤ e0 ∧ Wn.eol b p = some e0 ∧
    ((b[e0] = 0 ∧ n = Wn.part b p e0 ++ [0] ∧ e = e0 + 1) ∨ (b[e0] ≠ 0 ∧ ∃ t n' e', Wn.ptr b e0 = some t ∧ t < fr ∧ Wn.getU b t = some (n', e') ∧ n = Wn.part b p e0 ++ n' ∧ e = e0 + 2)) := by
  induction h with
  | @zero fr p hp h =>
    obtain ⟨hl, hc⟩ := List.getElem?_eq_some_iff.1 h
    exact ⟨p, hl, Nat.le_refl _, Wn.eol_end hl (by rw [hc]; left; rfl), .inl ⟨hc, by simp [Wn.part], rfl⟩⟩
  | @ptr fr p t e n hp ht h hf r ih =>
    obtain ⟨l0, l1, h192, hpt⟩ := ptr_bytes ht h
    have hne : b[p] ≠ 0 := by intro h0; rw [h0] at h192; simp at h192
    refine ⟨p, l0, Nat.le_refl _, Wn.eol_end l0 (.inr h192), .inr ⟨hne, t, n, e, hpt, hf, ?_, by simp [Wn.part], rfl⟩⟩
    obtain ⟨e0, he, hle, heol, hcase⟩ := ih
    rcases hcase with ⟨h0, hn, hE⟩ | ⟨h0, t', n', e', hp', htf, hg, hn, hE⟩
    · rw [Wn.getU_zero heol he h0, hn, hE]
    · rw [Wn.getU_ptr heol he h0, hp']
      simp only
      rw [if_pos htf, hg, hn, hE]
      rfl
  | @lab fr p e n l hp h1 h2 h r ih =>
    obtain ⟨e0, he, hle, heol, hcase⟩ := ih
    have h0 := h 0 _ rfl
    obtain ⟨l0, g0⟩ := List.getElem?_eq_some_iff.1 h0
    simp only [Nat.add_zero] at l0 g0
    have hn0 : b[p].toNat = l.length := by rw [g0, Nm.ofNat_toNat h2]
    have hpart : Wn.part b p e0 = UInt8.ofNat l.length :: l ++ Wn.part b (p + (1 + l.length)) e0 := by
      unfold Wn.part
      have hx : (b.drop p).take (1 + l.length) = UInt8.ofNat l.length :: l := by
        have := h.part
        rwa [List.length_cons, Nat.add_comm] at this
      rw [show e0 - p = (1 + l.length) + (e0 - (p + (1 + l.length))) by omega, List.take_add, hx, List.drop_drop]
    refine ⟨e0, he, by omega, by rw [Wn.eol_step l0 (by omega) (by omega), hn0]; exact heol, ?_⟩
    rcases hcase with ⟨c0, hn, hE⟩ | ⟨c0, t', n', e', hp', htf, hg, hn, hE⟩
    · exact .inl ⟨c0, by rw [hpart, hn, List.append_assoc], hE⟩
    · exact .inr ⟨c0, t', n', e', hp', htf, hg, by rw [hpart, hn, List.append_assoc], hE⟩
theorem Rd.getU {b : List UInt8} {p e : Nat} {n : List UInt8} (h : Rd b p p n e) : Wn.getU b p = some (n, e) := by
  obtain ⟨e0, he, hle, heol, hcase⟩ := h.get
  rcases hcase with ⟨h0, hn, hE⟩ | ⟨h0, t', n', e', hp', htf, hg, hn, hE⟩
  · rw [Wn.getU_zero heol he h0, hn, hE]
  · rw [Wn.getU_ptr heol he h0, hp']
    simp only
    rw [if_pos htf, hg, hn, hE]
    rfl
theorem Rd.gets {b : List UInt8} {p e : Nat} {n : List UInt8} (h : Rd b p p n e) (hn : n.length ≤ 255) : Wn.get b (p : Int) = some (n, e) := by
  rw [Wn.get_nat, h.getU, Wn.fin_yes (by simpa using hn), if_pos rfl]
  rfl

/-! ### What the acts write -/
/-- A Writer that has not gone over, whose table can be read. -/
structure Good (S : WS) : Prop where
  full : S.out.length = S.size
  two : 2 ≤ S.size
  tab : ∀ k v, look k S.tab = some v → v < S.size ∧ ∃ e, Rd S.out v v k e
theorem put_fits {S : WS} {b : List UInt8} (h : ((S.size + b.length : Nat) : Int) ≤ S.most) : S.put b = { S with size := S.size + b.length, out := S.out ++ b } := by
  unfold WS.put; rw [if_neg (by omega)]
theorem Good.put {S : WS} (h : Good S) {b : List UInt8} (hb : ((S.size + b.length : Nat) : Int) ≤ S.most) : Good (S.put b) := by
  rw [put_fits hb]
  refine ⟨by simp [h.full], by have := h.two; simp only; omega, fun k v hk => ?_⟩
  obtain ⟨h1, e, h2⟩ := h.tab k v hk
  exact ⟨by simp only; omega, e, h2.sub (sub_append _ _)⟩
/-- A whole name's bytes. -/
theorem rd_made {b : List UInt8} {fr : Nat} : ∀ {ls : List (List UInt8)} {p : Nat}, 2 ≤ p → Nm.good ls → Holds b p (Nm.made ls) → Rd b fr p (Nm.made ls) (p + (Nm.made ls).length)
  | [], p, hp, _, h => .zero hp (h 0 0 rfl)
  | l :: r, p, hp, hg, h => by
    have hm : Nm.made (l :: r) = UInt8.ofNat l.length :: l ++ Nm.made r := rfl
    rw [hm] at h ⊢
    obtain ⟨h1, h2⟩ := Holds.app.1 h
    rw [List.length_cons, Nat.add_comm l.length 1] at h2
    obtain ⟨g1, g2⟩ := hg l (by simp)
    have := rd_made (fr := fr) (p := p + (1 + l.length)) (by omega) (fun x hx => hg x (by simp [hx])) h2
    rw [show p + (UInt8.ofNat l.length :: l ++ Nm.made r).length = p + (1 + l.length) + (Nm.made r).length by simp; omega]
    exact .lab l hp g1 g2 h1 this
theorem sq_tab_len : ∀ (ls : List (List UInt8)) (S : WS), (S.sq ls).tab.length ≤ S.tab.length + ls.length
  | [], S => by simp [WS.sq, WS.put]
  | l :: r, S => by
    rw [WS.sq]
    split
    · simp [WS.put]
    · have h1 := sq_tab_len r ((S.note (Nm.made (l :: r))).put (UInt8.ofNat l.length :: l))
      have h2 := note_tab S (Nm.made (l :: r))
      have h3 : ((S.note (Nm.made (l :: r))).put (UInt8.ofNat l.length :: l)).tab.length ≤ S.tab.length + 1 := h2
      simp only [List.length_cons]
      omega
theorem note_keeps (S : WS) (k : List UInt8) : (S.note k).out = S.out ∧ (S.note k).most = S.most ∧ (S.note k).bad = S.bad := by unfold WS.note; split <;> exact ⟨rfl, rfl, rfl⟩
theorem look_noted {S : WS} {k x : List UInt8} {v : Nat} (h : look x (S.note k).tab = some v) : look x S.tab = some v ∨ (x = k ∧ v = S.size) := by
  unfold WS.note at h
  split at h
  · exact .inl h
  · simp only [look] at h
    split at h
    · rename_i e; cases h; exact .inr ⟨e.symm, rfl⟩
    · exact .inl h
/-- A name squeezed is read again, and so is each of its ends. -/
theorem sq_reads : ∀ (ls : List (List UInt8)) (S : WS) (fr : Nat), Nm.good ls → S.out.length = S.size → 2 ≤ fr → fr ≤ S.size →
    (∀ t, t <:+ ls → t ≠ [] → ∀ v, look (Nm.made t) S.tab = some v → v < 16384 ∧ v < fr ∧ ∃ e, Rd S.out v v (Nm.made t) e) → ((S.size + (Nm.encL ls + 1) : Nat) : Int) ≤ S.most →
    ∃ x, (S.sq ls).out = S.out ++ x ∧ (S.sq ls).out.length = (S.sq ls).size ∧ S.size < (S.sq ls).size ∧ (S.sq ls).size ≤ S.size + (Nm.encL ls + 1) ∧ Rd (S.sq ls).out fr S.size (Nm.made ls) (S.sq ls).size ∧
      (∀ k v, look k (S.sq ls).tab = some v → look k S.tab = some v ∨ (v < (S.sq ls).size ∧ ∃ e, Rd (S.sq ls).out v v k e)) ∧ (S.sq ls).most = S.most ∧ (S.sq ls).bad = S.bad
  | [], S, fr, _, hl, h2, hf, _, hm => by
    simp only [Nm.encL] at hm
    rw [WS.sq, put_fits (by simpa using hm)]
    refine ⟨[0], rfl, by simp [hl], by simp, by simp [Nm.encL], ?_, fun k v h => .inl h, rfl, rfl⟩
    have := holds_append S.out [0]
    rw [hl] at this
    exact .zero (by omega) (this 0 0 rfl)
  | l :: r, S, fr, hg, hl, h2, hf, ht, hm => by
    simp only [Nm.encL] at hm
    obtain ⟨g1, g2⟩ := hg l (by simp)
    cases hk : look (Nm.made (l :: r)) S.tab with
    | some k =>
      obtain ⟨t1, t2, e, t3⟩ := ht _ (List.suffix_refl _) (by simp) k hk
      have hS : S.sq (l :: r) = S.put (two (49152 + (k : Int))) := by rw [WS.sq, hk]
      rw [hS, put_fits (by rw [two_len]; omega)]
      refine ⟨_, rfl, by simp [hl, two_len], by simp [two_len], by simp [two_len, Nm.encL]; omega, ?_, fun k v h => .inl h, rfl, rfl⟩
      have := holds_append S.out (two (49152 + (k : Int)))
      rw [hl] at this
      exact .ptr (by omega) t1 this t2 (t3.sub (sub_append _ _))
    | none =>
      have hS : S.sq (l :: r) = ((S.note (Nm.made (l :: r))).put (UInt8.ofNat l.length :: l)).sq r := by rw [WS.sq, hk]
      obtain ⟨n1, n2, n3⟩ := note_keeps S (Nm.made (l :: r))
      have n4 := note_size S (Nm.made (l :: r))
      obtain ⟨T, hT⟩ : ∃ T, T = (S.note (Nm.made (l :: r))).put (UInt8.ofNat l.length :: l) := ⟨_, rfl⟩
      rw [hS, ← hT]
      have hTe : T = { S.note (Nm.made (l :: r)) with size := S.size + (1 + l.length), out := S.out ++ (UInt8.ofNat l.length :: l) } := by
        rw [hT, put_fits (by rw [n4, n2]; simp; omega), n1, n4]
        congr 1
        simp; omega
      have t_out : T.out = S.out ++ (UInt8.ofNat l.length :: l) := by rw [hTe]
      have t_size : T.size = S.size + (1 + l.length) := by rw [hTe]
      have t_most : T.most = S.most := by rw [hTe]; exact n2
      have t_bad : T.bad = S.bad := by rw [hTe]; exact n3
      have t_tab : T.tab = (S.note (Nm.made (l :: r))).tab := by rw [hTe]
      obtain ⟨x, i1, i2, i3, i4, i5, i6, i7, i8⟩ := sq_reads r T fr (fun y hy => hg y (by simp [hy])) (by rw [t_out, t_size]; simp [hl]; omega) h2 (by omega) (fun t htr hn v hv => by
        rw [t_tab, look_note_ne (by have := made_lt (l := l) htr; omega)] at hv
        obtain ⟨a, b, e, c⟩ := ht t (htr.trans (List.suffix_cons _ _)) hn v hv
        exact ⟨a, b, e, by rw [t_out]; exact c.sub (sub_append _ _)⟩) (by rw [t_most, t_size]; omega)
      have hh : Holds (T.sq r).out S.size (UInt8.ofNat l.length :: l) := by
        have h0 := holds_append S.out (UInt8.ofNat l.length :: l)
        rw [hl] at h0
        rw [i1, t_out]
        exact h0.sub (sub_append _ _) (by omega)
      have hR : Rd (T.sq r).out fr S.size (Nm.made (l :: r)) (T.sq r).size := .lab l (by omega) g1 g2 hh (by rw [← t_size]; exact i5)
      refine ⟨(UInt8.ofNat l.length :: l) ++ x, by rw [i1, t_out, List.append_assoc], i2, by omega, by simp only [Nm.encL]; omega, hR, fun k v h => ?_, by rw [i7, t_most], by rw [i8, t_bad]⟩
      rcases i6 k v h with h' | h'
      · rw [t_tab] at h'
        rcases look_noted h' with h'' | ⟨rfl, rfl⟩
        · exact .inl h''
        · exact .inr ⟨by omega, _, hR.widen hf⟩
      · exact .inr h'
/-- What Name leaves of a good Writer. -/
theorem name_good {S : WS} (h : Good S) (hT : TabOk S) {n : List UInt8} (hv : Nm.valid n = true) (sq : Bool) (hm : ((S.size + n.length : Nat) : Int) ≤ S.most) :
    Good (S.name n sq) ∧ (S.name n sq).most = S.most ∧ (S.name n sq).bad = S.bad ∧ S.size < (S.name n sq).size ∧ (S.name n sq).size ≤ S.size + n.length ∧ (sq = false → (S.name n sq).size = S.size + n.length) ∧
      Rd (S.name n sq).out S.size S.size n (S.name n sq).size ∧ Sub S.out (S.name n sq).out ∧ (S.name n sq).tab.length ≤ S.tab.length + n.length := by
  obtain ⟨_, hmade, hgood, _⟩ := Nm.labs_of_valid hv
  have henc : Nm.encL (Nm.labsD n) + 1 = n.length := by conv => rhs; rw [hmade, Nm.made_length]
  have hl := @Nm.length_le_encL (Nm.labsD n)
  have h2 := h.two
  cases sq with
  | false =>
    have e : S.name n false = S.put n := by unfold WS.name; rw [if_neg (by simp [hv]), if_neg (by simp)]
    have hg := h.put hm
    rw [e]
    rw [put_fits hm] at hg ⊢
    refine ⟨hg, rfl, rfl, by simp only; omega, Nat.le_refl _, fun _ => rfl, ?_, sub_append _ _, by simp⟩
    have h0 := holds_append S.out n
    rw [h.full] at h0
    have := rd_made (b := S.out ++ n) (fr := S.size) (p := S.size) h2 hgood (by rw [← hmade]; exact h0)
    rwa [← hmade] at this
  | true =>
    have e : S.name n true = S.sq (Nm.labsD n) := by unfold WS.name; rw [if_neg (by simp [hv]), if_pos rfl]
    rw [e]
    obtain ⟨x, i1, i2, i3, i4, i5, i6, i7, i8⟩ := sq_reads (Nm.labsD n) S S.size hgood h.full h2 (Nat.le_refl _) (fun t _ _ v hv => by
      obtain ⟨a, b⟩ := h.tab _ _ hv
      exact ⟨hT _ _ hv, a, b⟩) (by rw [henc]; exact hm)
    refine ⟨⟨i2, by omega, fun k v hk => ?_⟩, i7, i8, i3, by omega, fun h => (nomatch h), by rwa [← hmade] at i5, by rw [i1]; exact sub_append _ _, by have := sq_tab_len (Nm.labsD n) S; omega⟩
    rcases i6 k v hk with h' | h'
    · obtain ⟨a, e, b⟩ := h.tab k v h'
      exact ⟨by omega, e, by rw [i1]; exact b.sub (sub_append _ _)⟩
    · exact h'
end Go.Proofs.Ytipabiiffaipdaa
