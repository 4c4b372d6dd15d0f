/- 3 texts put together: BackMath, WrMath, Msg. -/
import Derived.Test.YtdodamkndigjkaaJB3
import Derived.Test.YtdodamkndigjkaaJB20
/- What a Writer wrote is read again: plain mathematics. -/
namespace Go.Proofs.Ytdodamkndigjkaa

/-- b holds x from p on. -/
def Holds (b : List UInt8) (p : Nat) (x : List UInt8) : Prop := ∀ (j : Nat) (c : UInt8), x[j]? = some c → b[p + j]? = some c
theorem Holds.app {b : List UInt8} {p : Nat} {x y : List UInt8} : Holds b p (x ++ y) ↔ Holds b p x ∧ Holds b (p + x.length) y := by
  constructor
  · intro h
    refine ⟨fun j c hj => h j c ?_, fun j c hj => ?_⟩
    · have := (List.getElem?_eq_some_iff.1 hj).1
      rw [List.getElem?_append_left this]; exact hj
    · rw [Nat.add_assoc]
      refine h _ c ?_
      rw [List.getElem?_append_right (by omega), show x.length + j - x.length = j by omega]; exact hj
  · rintro ⟨h1, h2⟩ j c hj
    by_cases hl : j < x.length
    · rw [List.getElem?_append_left hl] at hj; exact h1 j c hj
    · rw [List.getElem?_append_right (by omega)] at hj
      have := h2 _ c hj
      rw [show p + x.length + (j - x.length) = p + j by omega] at this; exact this
theorem holds_append (b x : List UInt8) : Holds (b ++ x) b.length x := fun j c hj => by
  rw [List.getElem?_append_right (by omega), show b.length + j - b.length = j by omega]; exact hj
theorem Holds.part {b x : List UInt8} {p : Nat} (h : Holds b p x) : (b.drop p).take x.length = x := by
  apply List.ext_getElem?
  intro j
  by_cases hj : j < x.length
  · rw [List.getElem?_take_of_lt hj, List.getElem?_drop, h j x[j] (List.getElem?_eq_getElem hj), List.getElem?_eq_getElem hj]
  · rw [List.getElem?_eq_none (by rw [List.length_take]; omega), List.getElem?_eq_none (by omega)]

/-- What changes neither what stands from 2 on. -/
def Sub (b b' : List UInt8) : Prop := ∀ (i : Nat) (c : UInt8), 2 ≤ i → b[i]? = some c → b'[i]? = some c
theorem Sub.refl (b : List UInt8) : Sub b b := fun _ _ _ h => h
theorem Sub.trans {a b c : List UInt8} (h : Sub a b) (k : Sub b c) : Sub a c := fun i x hi hx => k i x hi (h i x hi hx)
theorem sub_append (b x : List UInt8) : Sub b (b ++ x) := fun i c _ h => by
  have := (List.getElem?_eq_some_iff.1 h).1
  rw [List.getElem?_append_left this]; exact h
theorem sub_set (b : List UInt8) (c d : UInt8) : Sub b ((b.set 0 c).set 1 d) := fun i x hi h => by
  rw [List.getElem?_set_ne (by omega), List.getElem?_set_ne (by omega)]; exact h
theorem Holds.sub {b b' x : List UInt8} {p : Nat} (h : Holds b p x) (hs : Sub b b') (hp : 2 ≤ p) : Holds b' p x := fun j c hj => hs _ _ (by omega) (h j c hj)

/-- In b the name n is read at p, in a part that began at fr, and ends at e; nothing ahead of 2 is touched. -/
inductive Rn (b : List UInt8) : Nat → Nat → List UInt8 → Nat → Prop
  | zero {fr p : Nat} (hp : 2 ≤ p) (h : b[p]? = some 0) : Rn b fr p [0] (p + 1)
  | ptr {fr p t e : Nat} {n : List UInt8} (hp : 2 ≤ p) (ht : t < 16384) (h : Holds b p (two (49152 + (t : Int)))) (hf : t < fr) (r : Rn b t t n e) : Rn b fr p n (p + 2)
  | lab {fr p e : Nat} {n : List UInt8} (l : List UInt8) (hp : 2 ≤ p) (h1 : 1 ≤ l.length) (h2 : l.length ≤ 63) (h : Holds b p (UInt8.ofNat l.length :: l)) (r : Rn b fr (p + (1 + l.length)) n e) : Rn b fr p (UInt8.ofNat l.length :: l ++ n) e
theorem Rn.sub {b b' : List UInt8} {fr p e : Nat} {n : List UInt8} (h : Rn b fr p n e) (hs : Sub b b') : Rn b' fr p n e := by
  induction h with
  | zero hp h => exact .zero hp (hs _ _ hp h)
  | ptr hp ht h hf _ ih => exact .ptr hp ht (h.sub hs hp) hf ih
  | lab l hp h1 h2 h _ ih => exact .lab l hp h1 h2 (h.sub hs hp) ih
theorem Rn.widen {b : List UInt8} {fr p e : Nat} {n : List UInt8} (h : Rn b fr p n e) : ∀ {fr'}, fr ≤ fr' → Rn b fr' p n e := by
  induction h with
  | zero hp h => intro fr' _; exact .zero hp h
  | ptr hp ht h hf r _ => intro fr' hle; exact .ptr hp ht h (by omega) r
  | lab l hp h1 h2 h _ ih => intro fr' hle; exact .lab l hp h1 h2 h (ih hle)
theorem Rn.two {b : List UInt8} {fr p e : Nat} {n : List UInt8} (h : Rn b fr p n e) : 2 ≤ p := by cases h <;> assumption

theorem ptr_bytes {b : List UInt8} {p t : Nat} (ht : t < 16384) (h : Holds b p (two (49152 + (t : Int)))) : ∃ (h1 : p < b.length) (_ : p + 1 < b.length), 192 ≤ b[p].toNat ∧ Wn.ptr b p = some t := by
  have e0 : (byteOf ((49152 + (t : Int)) / 256)).toNat = 192 + t / 256 := by
    have := byteOf_int ((49152 + (t : Int)) / 256)
    omega
  have e1 : (byteOf (49152 + (t : Int))).toNat = t % 256 := by
    have := byteOf_int (49152 + (t : Int))
    omega
  have h0 := h 0 _ rfl
  have h1 := h 1 _ rfl
  obtain ⟨l0, g0⟩ := List.getElem?_eq_some_iff.1 h0
  obtain ⟨l1, g1⟩ := List.getElem?_eq_some_iff.1 h1
  simp only [Nat.add_zero] at l0 g0
  refine ⟨l0, l1, by rw [g0, e0]; omega, ?_⟩
  rw [Wn.ptr_some l1, g0, g1, e0, e1]
  congr 1
  omega
theorem Rn.get {b : List UInt8} {fr p e : Nat} {n : List UInt8} (h : Rn b fr p n e) : ∃ (e0 : Nat) (he : e0 < b.length), p ≤ e0 ∧ Wn.eol b p = some e0 ∧
    ((b[e0] = 0 ∧ n = Wn.part b p e0 ++ [0] ∧ e = e0 + 1) ∨ (b[e0] ≠ 0 ∧ ∃ t n' e', Wn.ptr b e0 = some t ∧ t < fr ∧ Wn.getU b t = some (n', e') ∧ n = Wn.part b p e0 ++ n' ∧ e = e0 + 2)) := by
  induction h with
  | @zero fr p hp h =>
    obtain ⟨hl, hc⟩ := List.getElem?_eq_some_iff.1 h
    exact ⟨p, hl, Nat.le_refl _, Wn.eol_end hl (by rw [hc]; left; rfl), .inl ⟨hc, by simp [Wn.part], rfl⟩⟩
  | @ptr fr p t e n hp ht h hf r ih =>
    obtain ⟨l0, l1, h192, hpt⟩ := ptr_bytes ht h
    have hne : b[p] ≠ 0 := by intro h0; rw [h0] at h192; simp at h192
    refine ⟨p, l0, Nat.le_refl _, Wn.eol_end l0 (.inr h192), .inr ⟨hne, t, n, e, hpt, hf, ?_, by simp [Wn.part], rfl⟩⟩
    obtain ⟨e0, he, hle, heol, hcase⟩ := ih
    rcases hcase with ⟨h0, hn, hE⟩ | ⟨h0, t', n', e', hp', htf, hg, hn, hE⟩
    · rw [Wn.getU_zero heol he h0, hn, hE]
    · rw [Wn.getU_ptr heol he h0, hp']
      simp only
      rw [if_pos htf, hg, hn, hE]
      rfl
  | @lab fr p e n l hp h1 h2 h r ih =>
    obtain ⟨e0, he, hle, heol, hcase⟩ := ih
    have h0 := h 0 _ rfl
    obtain ⟨l0, g0⟩ := List.getElem?_eq_some_iff.1 h0
    simp only [Nat.add_zero] at l0 g0
    have hn0 : b[p].toNat = l.length := by rw [g0, Nm.ofNat_toNat h2]
    have hpart : Wn.part b p e0 = UInt8.ofNat l.length :: l ++ Wn.part b (p + (1 + l.length)) e0 := by
      unfold Wn.part
      have hx : (b.drop p).take (1 + l.length) = UInt8.ofNat l.length :: l := by
        have := h.part
        rwa [List.length_cons, Nat.add_comm] at this
      rw [show e0 - p = (1 + l.length) + (e0 - (p + (1 + l.length))) by omega, List.take_add, hx, List.drop_drop]
    refine ⟨e0, he, by omega, by rw [Wn.eol_step l0 (by omega) (by omega), hn0]; exact heol, ?_⟩
    rcases hcase with ⟨c0, hn, hE⟩ | ⟨c0, t', n', e', hp', htf, hg, hn, hE⟩
    · exact .inl ⟨c0, by rw [hpart, hn, List.append_assoc], hE⟩
    · exact .inr ⟨c0, t', n', e', hp', htf, hg, by rw [hpart, hn, List.append_assoc], hE⟩
theorem Rn.getU {b : List UInt8} {p e : Nat} {n : List UInt8} (h : Rn b p p n e) : Wn.getU b p = some (n, e) := by
  obtain ⟨e0, he, hle, heol, hcase⟩ := h.get
  rcases hcase with ⟨h0, hn, hE⟩ | ⟨h0, t', n', e', hp', htf, hg, hn, hE⟩
  · rw [Wn.getU_zero heol he h0, hn, hE]
  · rw [Wn.getU_ptr heol he h0, hp']
    simp only
    rw [if_pos htf, hg, hn, hE]
    rfl
theorem Rn.gets {b : List UInt8} {p e : Nat} {n : List UInt8} (h : Rn b p p n e) (hn : n.length ≤ 255) : Wn.get b (p : Int) = some (n, e) := by
  rw [Wn.get_nat, h.getU, Wn.fin_yes (by simpa using hn), if_pos rfl]
  rfl

/-! ### What the acts write -/
/-- A Writer that has not gone over, whose table can be read. -/
structure Good (S : WS) : Prop where
  full : S.out.length = S.size
  two : 2 ≤ S.size
  tab : ∀ k v, look k S.tab = some v → v < S.size ∧ ∃ e, Rn S.out v v k e
theorem put_fits {S : WS} {b : List UInt8} (h : ((S.size + b.length : Nat) : Int) ≤ S.most) : S.put b = { S with size := S.size + b.length, out := S.out ++ b } := by
  unfold WS.put; rw [if_neg (by omega)]
theorem Good.put {S : WS} (h : Good S) {b : List UInt8} (hb : ((S.size + b.length : Nat) : Int) ≤ S.most) : Good (S.put b) := by
  rw [put_fits hb]
  refine ⟨by simp [h.full], by have := h.two; simp only; omega, fun k v hk => ?_⟩
  obtain ⟨h1, e, h2⟩ := h.tab k v hk
  exact ⟨by simp only; omega, e, h2.sub (sub_append _ _)⟩
/-- A whole name's bytes. -/
theorem rd_made {b : List UInt8} {fr : Nat} : ∀ {ls : List (List UInt8)} {p : Nat}, 2 ≤ p → Nm.good ls → Holds b p (Nm.made ls) → Rn b fr p (Nm.made ls) (p + (Nm.made ls).length)
  | [], p, hp, _, h => .zero hp (h 0 0 rfl)
  | l :: r, p, hp, hg, h => by
    have hm : Nm.made (l :: r) = UInt8.ofNat l.length :: l ++ Nm.made r := rfl
    rw [hm] at h ⊢
    obtain ⟨h1, h2⟩ := Holds.app.1 h
    rw [List.length_cons, Nat.add_comm l.length 1] at h2
    obtain ⟨g1, g2⟩ := hg l (by simp)
    have := rd_made (fr := fr) (p := p + (1 + l.length)) (by omega) (fun x hx => hg x (by simp [hx])) h2
    rw [show p + (UInt8.ofNat l.length :: l ++ Nm.made r).length = p + (1 + l.length) + (Nm.made r).length by simp; omega]
    exact .lab l hp g1 g2 h1 this
theorem sq_tab_len : ∀ (ls : List (List UInt8)) (S : WS), (S.sq ls).tab.length ≤ S.tab.length + ls.length
  | [], S => by simp [WS.sq, WS.put]
  | l :: r, S => by
    rw [WS.sq]
    split
    · simp [WS.put]
    · have h1 := sq_tab_len r ((S.note (Nm.made (l :: r))).put (UInt8.ofNat l.length :: l))
      have h2 := note_tab S (Nm.made (l :: r))
      have h3 : ((S.note (Nm.made (l :: r))).put (UInt8.ofNat l.length :: l)).tab.length ≤ S.tab.length + 1 := h2
      simp only [List.length_cons]
      omega
theorem note_keeps (S : WS) (k : List UInt8) : (S.note k).out = S.out ∧ (S.note k).most = S.most ∧ (S.note k).bad = S.bad := by unfold WS.note; split <;> exact ⟨rfl, rfl, rfl⟩
theorem look_noted {S : WS} {k x : List UInt8} {v : Nat} (h : look x (S.note k).tab = some v) : look x S.tab = some v ∨ (x = k ∧ v = S.size) := by
  unfold WS.note at h
  split at h
  · exact .inl h
  · simp only [look] at h
    split at h
    · rename_i e; cases h; exact .inr ⟨e.symm, rfl⟩
    · exact .inl h
/-- What is written only grows. -/
theorem sq_mono : ∀ (ls : List (List UInt8)) (S : WS), S.size ≤ (S.sq ls).size
  | [], S => by simp [WS.sq, WS.put]
  | l :: r, S => by
    rw [WS.sq]
    split
    · simp [WS.put]
    · have h := sq_mono r ((S.note (Nm.made (l :: r))).put (UInt8.ofNat l.length :: l))
      have e : ((S.note (Nm.made (l :: r))).put (UInt8.ofNat l.length :: l)).size = (S.note (Nm.made (l :: r))).size + (UInt8.ofNat l.length :: l).length := rfl
      rw [note_size] at e
      omega
/-- A name squeezed is read again, and so is each of its ends. -/
theorem sq_reads : ∀ (ls : List (List UInt8)) (S : WS) (fr : Nat), Nm.good ls → S.out.length = S.size → 2 ≤ fr → fr ≤ S.size →
    (∀ t, t <:+ ls → t ≠ [] → ∀ v, look (Nm.made t) S.tab = some v → v < 16384 ∧ v < fr ∧ ∃ e, Rn S.out v v (Nm.made t) e) → (((S.sq ls).size : Nat) : Int) ≤ S.most →
    ∃ x, (S.sq ls).out = S.out ++ x ∧ (S.sq ls).out.length = (S.sq ls).size ∧ S.size < (S.sq ls).size ∧ (S.sq ls).size ≤ S.size + (Nm.encL ls + 1) ∧ Rn (S.sq ls).out fr S.size (Nm.made ls) (S.sq ls).size ∧
      (∀ k v, look k (S.sq ls).tab = some v → look k S.tab = some v ∨ (v < (S.sq ls).size ∧ ∃ e, Rn (S.sq ls).out v v k e)) ∧ (S.sq ls).most = S.most ∧ (S.sq ls).bad = S.bad
  | [], S, fr, _, hl, h2, hf, _, hm => by
    have hm' : ((S.size + 1 : Nat) : Int) ≤ S.most := by simpa [WS.sq, WS.put] using hm
    rw [WS.sq, put_fits (by simpa using hm')]
    refine ⟨[0], rfl, by simp [hl], by simp, by simp [Nm.encL], ?_, fun k v h => .inl h, rfl, rfl⟩
    have := holds_append S.out [0]
    rw [hl] at this
    exact .zero (by omega) (this 0 0 rfl)
  | l :: r, S, fr, hg, hl, h2, hf, ht, hm => by
    obtain ⟨g1, g2⟩ := hg l (by simp)
    cases hk : look (Nm.made (l :: r)) S.tab with
    | some k =>
      obtain ⟨t1, t2, e, t3⟩ := ht _ (List.suffix_refl _) (by simp) k hk
      have hS : S.sq (l :: r) = S.put (two (49152 + (k : Int))) := by rw [WS.sq, hk]
      rw [hS] at hm
      have hm' : ((S.size + 2 : Nat) : Int) ≤ S.most := by simpa [WS.put, two_len] using hm
      rw [hS, put_fits (by rw [two_len]; omega)]
      refine ⟨_, rfl, by simp [hl, two_len], by simp [two_len], by simp [two_len, Nm.encL]; omega, ?_, fun k v h => .inl h, rfl, rfl⟩
      have := holds_append S.out (two (49152 + (k : Int)))
      rw [hl] at this
      exact .ptr (by omega) t1 this t2 (t3.sub (sub_append _ _))
    | none =>
      have hS : S.sq (l :: r) = ((S.note (Nm.made (l :: r))).put (UInt8.ofNat l.length :: l)).sq r := by rw [WS.sq, hk]
      obtain ⟨n1, n2, n3⟩ := note_keeps S (Nm.made (l :: r))
      have n4 := note_size S (Nm.made (l :: r))
      obtain ⟨T, hT⟩ : ∃ T, T = (S.note (Nm.made (l :: r))).put (UInt8.ofNat l.length :: l) := ⟨_, rfl⟩
      rw [hS, ← hT] at hm
      rw [hS, ← hT]
      have hTs : T.size = S.size + (1 + l.length) := by rw [hT]; show (S.note _).size + _ = _; rw [n4]; simp; omega
      have hmono := sq_mono r T
      have hTe : T = { S.note (Nm.made (l :: r)) with size := S.size + (1 + l.length), out := S.out ++ (UInt8.ofNat l.length :: l) } := by
        rw [hT, put_fits (by rw [n4, n2]; simp only [List.length_cons]; omega), n1, n4]
        congr 1
        simp; omega
      have t_out : T.out = S.out ++ (UInt8.ofNat l.length :: l) := by rw [hTe]
      have t_size : T.size = S.size + (1 + l.length) := by rw [hTe]
      have t_most : T.most = S.most := by rw [hTe]; exact n2
      have t_bad : T.bad = S.bad := by rw [hTe]; exact n3
      have t_tab : T.tab = (S.note (Nm.made (l :: r))).tab := by rw [hTe]
      obtain ⟨x, i1, i2, i3, i4, i5, i6, i7, i8⟩ := sq_reads r T fr (fun y hy => hg y (by simp [hy])) (by rw [t_out, t_size]; simp [hl]; omega) h2 (by omega) (fun t htr hn v hv => by
        rw [t_tab, look_note_ne (by have := made_lt (l := l) htr; omega)] at hv
        obtain ⟨a, b, e, c⟩ := ht t (htr.trans (List.suffix_cons _ _)) hn v hv
        exact ⟨a, b, e, by rw [t_out]; exact c.sub (sub_append _ _)⟩) (by rw [t_most]; exact hm)
      have hh : Holds (T.sq r).out S.size (UInt8.ofNat l.length :: l) := by
        have h0 := holds_append S.out (UInt8.ofNat l.length :: l)
        rw [hl] at h0
        rw [i1, t_out]
        exact h0.sub (sub_append _ _) (by omega)
      have hR : Rn (T.sq r).out fr S.size (Nm.made (l :: r)) (T.sq r).size := .lab l (by omega) g1 g2 hh (by rw [← t_size]; exact i5)
      refine ⟨(UInt8.ofNat l.length :: l) ++ x, by rw [i1, t_out, List.append_assoc], i2, by omega, by simp only [Nm.encL]; omega, hR, fun k v h => ?_, by rw [i7, t_most], by rw [i8, t_bad]⟩
      rcases i6 k v h with h' | h'
      · rw [t_tab] at h'
        rcases look_noted h' with h'' | ⟨rfl, rfl⟩
        · exact .inl h''
        · exact .inr ⟨by omega, _, hR.widen hf⟩
      · exact .inr h'
/-- What Name leaves of a good Writer. -/
theorem name_good {S : WS} (h : Good S) (hT : TabOk S) {n : List UInt8} (hv : Nm.valid n = true) (sq : Bool) (hm : (((S.name n sq).size : Nat) : Int) ≤ S.most) :
    Good (S.name n sq) ∧ (S.name n sq).most = S.most ∧ (S.name n sq).bad = S.bad ∧ S.size < (S.name n sq).size ∧ (S.name n sq).size ≤ S.size + n.length ∧ (sq = false → (S.name n sq).size = S.size + n.length) ∧
      Rn (S.name n sq).out S.size S.size n (S.name n sq).size ∧ Sub S.out (S.name n sq).out ∧ (S.name n sq).tab.length ≤ S.tab.length + n.length := by
  obtain ⟨_, hmade, hgood, _⟩ := Nm.labs_of_valid hv
  have henc : Nm.encL (Nm.labsD n) + 1 = n.length := by conv => rhs; rw [hmade, Nm.made_length]
  have hl := @Nm.length_le_encL (Nm.labsD n)
  have h2 := h.two
  cases sq with
  | false =>
    have e : S.name n false = S.put n := by unfold WS.name; rw [if_neg (by simp [hv]), if_neg (by simp)]
    rw [e] at hm
    have hm : ((S.size + n.length : Nat) : Int) ≤ S.most := hm
    have hg := h.put hm
    rw [e]
    rw [put_fits hm] at hg ⊢
    refine ⟨hg, rfl, rfl, by simp only; omega, Nat.le_refl _, fun _ => rfl, ?_, sub_append _ _, by simp⟩
    have h0 := holds_append S.out n
    rw [h.full] at h0
    have := rd_made (b := S.out ++ n) (fr := S.size) (p := S.size) h2 hgood (by rw [← hmade]; exact h0)
    rwa [← hmade] at this
  | true =>
    have e : S.name n true = S.sq (Nm.labsD n) := by unfold WS.name; rw [if_neg (by simp [hv]), if_pos rfl]
    rw [e] at hm
    rw [e]
    obtain ⟨x, i1, i2, i3, i4, i5, i6, i7, i8⟩ := sq_reads (Nm.labsD n) S S.size hgood h.full h2 (Nat.le_refl _) (fun t _ _ v hv => by
      obtain ⟨a, b⟩ := h.tab _ _ hv
      exact ⟨hT _ _ hv, a, b⟩) hm
    refine ⟨⟨i2, by omega, fun k v hk => ?_⟩, i7, i8, i3, by omega, fun h => (nomatch h), by rwa [← hmade] at i5, by rw [i1]; exact sub_append _ _, by have := sq_tab_len (Nm.labsD n) S; omega⟩
    rcases i6 k v hk with h' | h'
    · obtain ⟨a, e, b⟩ := h.tab k v h'
      exact ⟨by omega, e, by rw [i1]; exact b.sub (sub_append _ _)⟩
    · exact h'
end Go.Proofs.Ytdodamkndigjkaa

/- The document's own Writer, and that both Writers have the same: plain mathematics. -/
namespace Go.Proofs.Ytdodamkndigjkaa

structure MS where
  most : Int
  b : List UInt8
  pl : List (List UInt8)
  bad : Bool
def MS.new (most : Int) : MS := { most, b := [], pl := [], bad := false }
def MS.put (M : MS) (x : List UInt8) : MS := { M with b := M.b ++ x, pl := M.pl ++ List.replicate x.length [] }
/-- The first place below 16384 at which k stands. -/
def placeOf (k : List UInt8) (pl : List (List UInt8)) : Option Nat := if pl.findIdx (· == k) < pl.length ∧ pl.findIdx (· == k) < 16384 then some (pl.findIdx (· == k)) else none
def MS.mark (M : MS) (k : Nat) (key : List UInt8) : MS := if k < 16384 then { M with pl := M.pl.set k key } else M
def MS.lab (M : MS) (sq : Bool) (l : List UInt8) (key : List UInt8) : MS := if sq then ((M.put [UInt8.ofNat l.length]).put l).mark M.b.length key else (M.put [UInt8.ofNat l.length]).put l
def MS.nm : MS → Bool → List (List UInt8) → MS
  | M, _, [] => M.put [0]
  | M, sq, l :: r => match (if sq then placeOf (Nm.made (l :: r)) M.pl else none) with
    | some k => M.put (two (49152 + (k : Int)))
    | none => MS.nm (M.lab sq l (Nm.made (l :: r))) sq r
def MS.name (M : MS) (n : List UInt8) (sq : Bool) : MS := if Nm.valid n = false then { M with bad := true } else M.nm sq (Nm.labsD n)

theorem place_iff {k : List UInt8} {pl : List (List UInt8)} {i : Nat} : placeOf k pl = some i ↔ i < 16384 ∧ pl[i]? = some k ∧ ∀ j, j < i → pl[j]? ≠ some k := by
  unfold placeOf
  constructor
  · intro h
    split at h
    · rename_i hc
      cases h
      refine ⟨hc.2, ?_, fun j hj e => ?_⟩
      · have := List.findIdx_getElem (p := (· == k)) (xs := pl) (w := hc.1)
        rw [List.getElem?_eq_getElem hc.1]
        simpa using this
      · have hjl : j < pl.length := by omega
        have := List.not_of_lt_findIdx (p := (· == k)) (xs := pl) hj
        rw [List.getElem?_eq_getElem hjl] at e
        simp at e this
        exact this e
    · cases h
  · rintro ⟨h1, h2, h3⟩
    obtain ⟨hl, he⟩ := List.getElem?_eq_some_iff.1 h2
    have hf : pl.findIdx (· == k) = i := (List.findIdx_eq hl).2 ⟨by simpa using he, fun j hj => by
      have := h3 j hj
      rw [List.getElem?_eq_getElem (by omega)] at this
      simpa using this⟩
    rw [if_pos (by rw [hf]; exact ⟨hl, h1⟩), hf]
theorem place_ext {k : List UInt8} {pl pl' : List (List UInt8)} (h : ∀ i, i < 16384 → (pl[i]? = some k ↔ pl'[i]? = some k)) : placeOf k pl = placeOf k pl' := by
  apply Option.ext
  intro i
  rw [place_iff, place_iff]
  constructor
  · rintro ⟨h1, h2, h3⟩
    exact ⟨h1, (h i h1).1 h2, fun j hj e => h3 j hj ((h j (by omega)).2 e)⟩
  · rintro ⟨h1, h2, h3⟩
    exact ⟨h1, (h i h1).2 h2, fun j hj e => h3 j hj ((h j (by omega)).1 e)⟩
theorem place_none {k : List UInt8} {pl : List (List UInt8)} (h : ∀ j, j < pl.length → j < 16384 → pl[j]? ≠ some k) : placeOf k pl = none := by
  cases hp : placeOf k pl with
  | none => rfl
  | some i =>
    obtain ⟨h1, h2, _⟩ := place_iff.1 hp
    exact absurd h2 (h i (List.getElem?_eq_some_iff.1 h2).1 h1)
theorem rep_at {k : List UInt8} (hk : k ≠ []) (n i : Nat) : (List.replicate n ([] : List UInt8))[i]? ≠ some k := by
  intro e
  obtain ⟨_, h⟩ := List.getElem?_eq_some_iff.1 e
  simp at h
  exact hk h
theorem place_put {k : List UInt8} (hk : k ≠ []) (pl : List (List UInt8)) (n : Nat) : placeOf k (pl ++ List.replicate n []) = placeOf k pl := by
  refine place_ext fun i _ => ?_
  by_cases hi : i < pl.length
  · rw [List.getElem?_append_left hi]
  · rw [List.getElem?_append_right (by omega), List.getElem?_eq_none (l := pl) (by omega)]
    exact ⟨fun e => absurd e (rep_at hk _ _), fun e => by cases e⟩
theorem place_mark_same {k : List UInt8} {pl : List (List UInt8)} (hn : placeOf k pl = none) (h16 : pl.length < 16384) (n : Nat) (h1 : 1 ≤ n) : placeOf k ((pl ++ List.replicate n []).set pl.length k) = some pl.length := by
  refine place_iff.2 ⟨h16, by rw [List.getElem?_set_self (by simp; omega)], fun j hj e => ?_⟩
  rw [List.getElem?_set_ne (by omega), List.getElem?_append_left hj] at e
  have hex : ∃ i, i < pl.length ∧ pl[i]? = some k := ⟨j, hj, e⟩
  have : pl.findIdx (· == k) < pl.length := List.findIdx_lt_length_of_exists ⟨k, by obtain ⟨hl, rfl⟩ := List.getElem?_eq_some_iff.1 e; exact List.getElem_mem hl, by simp⟩
  unfold placeOf at hn
  rw [if_pos ⟨this, by omega⟩] at hn
  cases hn
theorem place_mark_other {k key : List UInt8} (hk : k ≠ []) (hne : key ≠ k) {pl : List (List UInt8)} (n : Nat) (h1 : 1 ≤ n) : placeOf k ((pl ++ List.replicate n []).set pl.length key) = placeOf k pl := by
  refine place_ext fun i _ => ?_
  by_cases hi : i < pl.length
  · rw [List.getElem?_set_ne (by omega), List.getElem?_append_left hi]
  · rw [List.getElem?_eq_none (l := pl) (by omega)]
    refine ⟨fun e => ?_, fun e => by cases e⟩
    by_cases he : i = pl.length
    · subst he
      rw [List.getElem?_set_self (by simp; omega)] at e
      cases e
      exact absurd rfl hne
    · rw [List.getElem?_set_ne (by omega), List.getElem?_append_right (by omega)] at e
      exact absurd e (rep_at hk _ _)

/-- Both have the same. -/
structure Sim (S : WS) (M : MS) : Prop where
  most : S.most = M.most
  bad : S.bad = M.bad
  size : S.size = M.b.length
  even : M.pl.length = M.b.length
  out : (S.size : Int) ≤ S.most → S.out = M.b
  tab : ∀ k, k ≠ [] → look k S.tab = placeOf k M.pl
theorem sim_new (most : Int) : Sim (WS.new most) (MS.new most) := ⟨rfl, rfl, rfl, rfl, fun _ => rfl, fun k _ => by simp [WS.new, MS.new, look, placeOf]⟩
theorem Sim.put {S : WS} {M : MS} (h : Sim S M) (x : List UInt8) : Sim (S.put x) (M.put x) where
  most := h.most
  bad := h.bad
  size := by simp only [WS.put, MS.put, List.length_append]; rw [h.size]
  even := by simp only [MS.put, List.length_append, List.length_replicate]; rw [h.even]
  out := fun hm => by
    simp only [WS.put] at hm ⊢
    rw [if_neg (by omega), h.out (by omega)]
    rfl
  tab := fun k hk => (h.tab k hk).trans (place_put hk _ _).symm
theorem MS.put_put (M : MS) (a b : List UInt8) : (M.put a).put b = M.put (a ++ b) := by
  simp only [MS.put, List.append_assoc, List.replicate_append_replicate, List.length_append]
theorem MS.put_nil (M : MS) : M.put [] = M := by simp [MS.put]
theorem Sim.note {S : WS} {M : MS} (h : Sim S M) {l key : List UInt8} (_hkey : key ≠ []) (hn : placeOf key M.pl = none) : Sim ((S.note key).put (UInt8.ofNat l.length :: l)) (M.lab true l key) := by
  have hs : M.lab true l key = (M.put (UInt8.ofNat l.length :: l)).mark M.b.length key := by
    unfold MS.lab
    rw [if_pos rfl, MS.put_put]
    rfl
  have hp := h.put (UInt8.ofNat l.length :: l)
  rw [hs]
  unfold WS.note MS.mark
  by_cases h16 : 16384 ≤ S.size
  · rw [if_pos h16, if_neg (by rw [← h.size]; omega)]
    exact hp
  · rw [if_neg h16, if_pos (by rw [← h.size]; omega)]
    refine ⟨hp.most, hp.bad, hp.size, by simpa using hp.even, hp.out, fun k hk => ?_⟩
    show look k ((key, S.size) :: S.tab) = placeOf k ((M.pl ++ List.replicate (UInt8.ofNat l.length :: l).length []).set M.b.length key)
    rw [← h.even, h.size, ← h.even]
    simp only [look]
    by_cases e : key = k
    · subst e
      rw [if_pos rfl, place_mark_same hn (by rw [h.even, ← h.size]; omega) _ (by simp)]
    · rw [if_neg e, place_mark_other hk e _ (by simp)]
      exact h.tab k hk
theorem made_ne (l : List UInt8) (r : List (List UInt8)) : Nm.made (l :: r) ≠ [] := by
  show UInt8.ofNat l.length :: l ++ Nm.made r ≠ []
  simp
theorem Sim.sq : ∀ (ls : List (List UInt8)) {S : WS} {M : MS}, Sim S M → Sim (S.sq ls) (M.nm true ls)
  | [], S, M, h => by rw [WS.sq, MS.nm]; exact h.put _
  | l :: r, S, M, h => by
    have ht := h.tab _ (made_ne l r)
    rw [WS.sq, MS.nm, if_pos rfl, ht]
    cases hp : placeOf (Nm.made (l :: r)) M.pl with
    | some k => exact h.put _
    | none => exact Sim.sq r (h.note (made_ne l r) hp)
theorem nm_plain : ∀ (ls : List (List UInt8)) (M : MS), M.nm false ls = M.put (Nm.made ls)
  | [], M => rfl
  | l :: r, M => by
    rw [MS.nm]
    simp only [Bool.false_eq_true, if_false]
    rw [nm_plain r]
    unfold MS.lab
    simp only [Bool.false_eq_true, if_false]
    rw [MS.put_put, MS.put_put]
    rfl
theorem Sim.name {S : WS} {M : MS} (h : Sim S M) (n : List UInt8) (sq : Bool) : Sim (S.name n sq) (M.name n sq) := by
  unfold WS.name MS.name
  by_cases hv : Nm.valid n = false
  · rw [if_pos hv, if_pos hv]
    exact ⟨h.most, rfl, h.size, h.even, h.out, h.tab⟩
  · rw [if_neg hv, if_neg hv]
    cases sq with
    | true => rw [if_pos rfl]; exact h.sq _
    | false =>
      rw [if_neg (by simp), nm_plain]
      obtain ⟨_, hm, _, _⟩ := Nm.labs_of_valid (n := n) (by simpa using hv)
      rw [← hm]
      exact h.put n
/-- How much a name adds. -/
theorem sq_size_le : ∀ (ls : List (List UInt8)) (S : WS), Nm.good ls → (S.sq ls).size ≤ S.size + (Nm.encL ls + 1)
  | [], S, _ => by simp [WS.sq, WS.put, Nm.encL]
  | l :: r, S, hg => by
    rw [WS.sq]
    have h1 := (hg l (by simp)).1
    split
    · simp [WS.put, two_len, Nm.encL]; omega
    · have := sq_size_le r ((S.note (Nm.made (l :: r))).put (UInt8.ofNat l.length :: l)) (fun x hx => hg x (by simp [hx]))
      have h2 := note_size S (Nm.made (l :: r))
      simp only [WS.put, List.length_cons, Nm.encL] at this ⊢
      omega
theorem name_size_le (S : WS) (n : List UInt8) (sq : Bool) : (S.name n sq).size ≤ S.size + n.length ∧ (S.name n sq).tab.length ≤ S.tab.length + n.length := by
  unfold WS.name
  by_cases hv : Nm.valid n = false
  · rw [if_pos hv]; exact ⟨Nat.le_add_right _ _, Nat.le_add_right _ _⟩
  · rw [if_neg hv]
    obtain ⟨_, hm, hg, _⟩ := Nm.labs_of_valid (n := n) (by simpa using hv)
    have henc : Nm.encL (Nm.labsD n) + 1 = n.length := by conv => rhs; rw [hm, Nm.made_length]
    have hl := @Nm.length_le_encL (Nm.labsD n)
    cases sq with
    | true =>
      rw [if_pos rfl]
      have h1 := sq_size_le (Nm.labsD n) S hg
      have h2 := sq_tab_len (Nm.labsD n) S
      omega
    | false => rw [if_neg (by simp)]; exact ⟨by simp [WS.put], by simp [WS.put]⟩
end Go.Proofs.Ytdodamkndigjkaa

/- Datagrams: what one is, whether it may be, what is written of it, what is read. Plain mathematics. -/
namespace Go.Proofs.Ytdodamkndigjkaa.Ms
open Go.Proofs.Ytdodamkndigjkaa

structure Q where
  name : List UInt8
  typ : Int
  cls : Int
deriving DecidableEq
structure M where
  id : Int
  resp : Bool
  opc : Int
  auth : Bool
  cut : Bool
  des : Bool
  avl : Bool
  code : Int
  qs : List Q
  an : List Rd.RR
  ns : List Rd.RR
  ad : List Rd.RR
  edns : Bool
  size : Int
deriving DecidableEq
def M.zero : M := ⟨0, false, 0, false, false, false, false, 0, [], [], [], [], false, 0⟩

def checkQ (q : Q) : Bool := Nm.valid q.name && decide (0 ≤ q.typ ∧ q.typ ≤ 65535 ∧ 0 ≤ q.cls ∧ q.cls ≤ 65535)
def checkL (l : List Rd.RR) : Bool := decide (l.length ≤ 64) && l.all Rd.check
def checkH (m : M) : Bool := decide ((0 ≤ m.id ∧ m.id ≤ 65535) ∧ (0 ≤ m.opc ∧ m.opc ≤ 15) ∧ (0 ≤ m.code ∧ m.code ≤ 15) ∧ m.qs.length ≤ 4 ∧ (0 ≤ m.size ∧ m.size ≤ 65535) ∧ (m.size = 0 ∨ m.edns = true))
def check (m : M) : Bool := checkH m && (m.qs.all checkQ && (checkL m.an && (checkL m.ns && checkL m.ad)))

/-! ### What is written -/
def bit (b : Bool) (k : Int) : Int := if b then k else 0
def flags (m : M) : Int := bit m.resp 32768 + m.opc * 2048 + bit m.auth 1024 + bit m.cut 512 + bit m.des 256 + bit m.avl 128 + m.code
def head (m : M) : List UInt8 := two m.id ++ two (flags m) ++ two (m.qs.length : Int) ++ two (m.an.length : Int) ++ two (m.ns.length : Int) ++ two ((m.ad.length : Int) + bit m.edns 1)
def wQ (S : WS) (q : Q) : WS := ((S.name q.name true).put (two q.typ)).put (two q.cls)
/-- Data: the names at their places, what stands between them as it stands. -/
def wParts (sq : Bool) (d : List UInt8) : Nat → List (Nat × Nat) → WS → WS
  | from', [], S => S.put (d.drop from')
  | from', p :: ps, S => wParts sq d (p.1 + p.2) ps ((S.put ((d.drop from').take (p.1 - from'))).name ((d.drop p.1).take p.2) sq)
/-- A record ahead of its data's length. -/
def wR0 (S : WS) (r : Rd.RR) : WS := (((S.name r.name true).put (two r.typ)).put (two r.cls)).put (four r.ttl)
def wD (S : WS) (r : Rd.RR) : WS := wParts (r.typ != 33) r.data 0 (Rd.partsD r.typ r.data) S
def wR (S : WS) (r : Rd.RR) : WS := (wD ((wR0 S r).put (two 0)) r).set (wR0 S r).size (((wD ((wR0 S r).put (two 0)) r).size : Int) - (wR0 S r).size - 2)
def opt (size : Int) : List UInt8 := [0] ++ two 41 ++ two size ++ four 0 ++ two 0
def wE (S : WS) (m : M) : WS := if m.edns then S.put (opt m.size) else S
def wAll (m : M) : WS := wE (m.ad.foldl wR (m.ns.foldl wR (m.an.foldl wR (m.qs.foldl wQ ((WS.new 4096).put (head m)))))) m
/-- What Encode says: the bytes, and 0, 1 (may not be) or 3 (too long). -/
def enc (m : M) : List UInt8 × Int := if check m = false then ([], 1) else if (wAll m).bad = true ∨ (4096 : Int) < (wAll m).size then ([], 3) else ((wAll m).out, 0)

/-! ### What is read -/
def two? (b : List UInt8) (k : Nat) : Option Nat := match b[k]?, b[k + 1]? with
  | some x, some y => some (x.toNat * 256 + y.toNat)
  | _, _ => none
def hdOf (b : List UInt8) : M :=
  let f := (b.getD 2 0).toNat * 256 + (b.getD 3 0).toNat
  { M.zero with id := ((b.getD 0 0).toNat * 256 + (b.getD 1 0).toNat : Nat), resp := f / 32768 % 2 == 1, opc := (f / 2048 % 16 : Nat), auth := f / 1024 % 2 == 1, cut := f / 512 % 2 == 1, des := f / 256 % 2 == 1, avl := f / 128 % 2 == 1, code := (f % 16 : Nat) }
def threes (b : List UInt8) : Nat := ((b.getD 2 0).toNat * 256 + (b.getD 3 0).toNat) / 16 % 8
def dQ (b : List UInt8) (k : Nat) : Option (Q × Nat) := match Wn.get b (k : Int) with
  | none => none
  | some (n, nx) => match two? b nx, two? b (nx + 2) with
    | some t, some c => some (⟨n, t, c⟩, nx + 4)
    | _, _ => none
def dQs (b : List UInt8) : Nat → Nat → Option (List Q × Nat)
  | 0, k => some ([], k)
  | n + 1, k => match dQ b k with
    | none => none
    | some (q, e) => (dQs b n e).map (fun x => (q :: x.1, x.2))
structure Raw where
  name : List UInt8
  typ : Nat
  cls : Nat
  ttl : Nat
  at' : Nat
  size : Nat
def dRaw (b : List UInt8) (k : Nat) : Option Raw := match Wn.get b (k : Int) with
  | none => none
  | some (n, nx) => match two? b nx, two? b (nx + 2), two? b (nx + 8) with
    | some t, some c, some sz => if nx + 10 + sz ≤ b.length then some ⟨n, t, c, Rd.number ((b.drop (nx + 4)).take 4), nx + 10, sz⟩ else none
    | _, _, _ => none
/-- How many bytes stand ahead of names in data, how many names, how many bytes behind them. -/
def dl (t : Int) : Nat × Nat × Nat := match Rd.lay t with
  | some (a, n, c) => if n = 0 then (0, 0, 0) else (a, n, c)
  | none => (0, 0, 0)
def dNames (b : List UInt8) (lim : Nat) : Nat → Nat → Option (List UInt8 × Nat)
  | 0, k => some ([], k)
  | n + 1, k => match Wn.get b (k : Int) with
    | none => none
    | some (x, nx) => if lim < nx then none else (dNames b lim n nx).map (fun y => (x ++ y.1, y.2))
def dData (b : List UInt8) (k sz : Nat) (t : Int) : Option (List UInt8) :=
  if (dl t).2.1 = 0 then some ((b.drop k).take sz)
  else if sz < (dl t).1 then none
  else match dNames b (k + sz) (dl t).2.1 (k + (dl t).1) with
    | none => none
    | some (s, e) => if e + (dl t).2.2 = k + sz then some ((b.drop k).take (dl t).1 ++ s ++ (b.drop e).take (k + sz - e)) else none
structure St where
  at' : Nat
  edns : Bool
  esz : Int
  acc : List Rd.RR
def recOf (w : Raw) (d : List UInt8) : Rd.RR := ⟨w.name, w.typ, w.cls, if 2147483648 ≤ w.ttl then 0 else w.ttl, d⟩
def dRec (b : List UInt8) (i : Nat) (s : St) : Option St := match dRaw b s.at' with
  | none => none
  | some w => if w.typ = 41 then (if i ≠ 2 ∨ w.name ≠ [0] ∨ s.edns = true then none else some ⟨w.at' + w.size, true, w.cls, s.acc⟩)
    else match dData b w.at' w.size w.typ with
      | none => none
      | some d => if Rd.check (recOf w d) = true ∧ s.acc.length < 64 then some ⟨w.at' + w.size, s.edns, s.esz, s.acc ++ [recOf w d]⟩ else none
def dSec (b : List UInt8) (i : Nat) : Nat → St → Option St
  | 0, s => some s
  | n + 1, s => match dRec b i s with
    | none => none
    | some s' => dSec b i n s'
/-- The whole behind the head; none where it may not be. -/
def dBody (b : List UInt8) : Option M :=
  if 4096 < b.length ∨ threes b ≠ 0 then none
  else match two? b 4, two? b 6, two? b 8, two? b 10 with
    | some q, some c0, some c1, some c2 => if 4 < q then none else match dQs b q 12 with
      | none => none
      | some (qs, k) => match dSec b 0 c0 ⟨k, false, 0, []⟩ with
        | none => none
        | some s0 => match dSec b 1 c1 ⟨s0.at', s0.edns, s0.esz, []⟩ with
          | none => none
          | some s1 => match dSec b 2 c2 ⟨s1.at', s1.edns, s1.esz, []⟩ with
            | none => none
            | some s2 => if s2.at' = b.length then some { hdOf b with qs := qs, an := s0.acc, ns := s1.acc, ad := s2.acc, edns := s2.edns, size := s2.esz } else none
    | _, _, _, _ => none
/-- What Decode says: the message, whether there is a head, whether all is well. -/
def dec (b : List UInt8) : M × Bool × Bool := if b.length < 12 then (M.zero, false, false) else match dBody b with
  | some m => (m, true, true)
  | none => (hdOf b, true, false)
end Go.Proofs.Ytdodamkndigjkaa.Ms
