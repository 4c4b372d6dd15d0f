/- What squeeze comes to, in sizes: plain mathematics. -/
import Derived.Test.YtipabiiffaipdaaName
namespace Go.Proofs.Ytipabiiffaipdaa
open Go.RowKit

theorem look_note {S : WS} {k : List UInt8} (h : S.size < 16384) (x : List UInt8) : look x (S.note k).tab = if k = x then some S.size else look x S.tab := by
  unfold WS.note
  rw [if_neg (by omega)]
  rfl
theorem look_note_ne {S : WS} {k x : List UInt8} (h : k.length ≠ x.length) : look x (S.note k).tab = look x S.tab := by
  unfold WS.note
  split
  · rfl
  · simp only [look]
    rw [if_neg (fun e => h (by rw [e]))]
theorem look_put (S : WS) (b x : List UInt8) : look x (S.put b).tab = look x S.tab := rfl
theorem made_lt {t : List (List UInt8)} {l : List UInt8} {r : List (List UInt8)} (h : t <:+ r) : (Nm.made t).length < (Nm.made (l :: r)).length := by
  obtain ⟨s, rfl⟩ := h
  rw [Nm.made_length, Nm.made_length]
  simp only [Nm.encL, Nm.encL_append]
  omega
/-- None of it was written: it is written whole, and each of its ends can be pointed to. -/
theorem sq_fresh : ∀ (ls : List (List UInt8)) (S : WS), (∀ t, t <:+ ls → t ≠ [] → look (Nm.made t) S.tab = none) → S.size + Nm.encL ls < 16384 →
    (S.sq ls).size = S.size + Nm.encL ls + 1 ∧ (∀ t, t <:+ ls → t ≠ [] → (look (Nm.made t) (S.sq ls).tab).isSome = true) ∧ (∀ k, (Nm.made ls).length < k.length → look k (S.sq ls).tab = look k S.tab) ∧ (S.sq ls).tab.length ≤ S.tab.length + ls.length
  | [], S, _, _ => ⟨by simp [WS.sq, WS.put, Nm.encL], fun t h hn => absurd (List.suffix_nil.1 h) hn, fun k _ => rfl, by simp [WS.sq, WS.put]⟩
  | l :: r, S, h, hs => by
    simp only [Nm.encL] at hs
    have h0 := h (l :: r) (List.suffix_refl _) (by simp)
    rw [WS.sq, h0]
    simp only
    have hsz : ((S.note (Nm.made (l :: r))).put (UInt8.ofNat l.length :: l)).size = S.size + (1 + l.length) := by
      show (S.note _).size + _ = _
      rw [note_size]
      simp only [List.length_cons]
      omega
    obtain ⟨i1, i2, i3, i4⟩ := sq_fresh r ((S.note (Nm.made (l :: r))).put (UInt8.ofNat l.length :: l)) (fun t ht hn => by
      rw [look_put, look_note_ne (by have := made_lt (l := l) ht; omega)]
      exact h t (ht.trans (List.suffix_cons _ _)) hn) (by rw [hsz]; omega)
    refine ⟨by rw [i1, hsz]; simp only [Nm.encL]; omega, fun t ht hn => ?_, fun k hk => ?_, ?_⟩
    · rcases List.suffix_cons_iff.1 ht with rfl | ht
      · rw [i3 _ (made_lt (List.suffix_refl _)), look_put, look_note (by omega), if_pos rfl]; rfl
      · exact i2 t ht hn
    · have := made_lt (l := l) (List.suffix_refl r)
      rw [i3 k (by omega), look_put, look_note_ne (by omega)]
    · have h5 := note_tab S (Nm.made (l :: r))
      have h6 : ((S.note (Nm.made (l :: r))).put (UInt8.ofNat l.length :: l)).tab.length ≤ S.tab.length + 1 := h5
      simp only [List.length_cons]
      omega
/-- It was written: a pointer. -/
theorem sq_known {S : WS} {l : List UInt8} {r : List (List UInt8)} (h : (look (Nm.made (l :: r)) S.tab).isSome = true) : (S.sq (l :: r)).size = S.size + 2 ∧ (S.sq (l :: r)).tab = S.tab := by
  obtain ⟨k, hk⟩ := Option.isSome_iff_exists.1 h
  rw [WS.sq, hk]
  exact ⟨by simp [WS.put, two_len], rfl⟩
theorem sq_root (S : WS) : (S.sq []).size = S.size + 1 ∧ (S.sq []).tab = S.tab := ⟨by simp [WS.sq, WS.put], rfl⟩
/-- A label ahead of what was written. -/
theorem sq_ahead {S : WS} {m l : List UInt8} {r : List (List UInt8)} (h0 : look (Nm.made (m :: l :: r)) S.tab = none) (h : (look (Nm.made (l :: r)) S.tab).isSome = true) (hs : S.size < 16384) :
    (S.sq (m :: l :: r)).size = S.size + (1 + m.length) + 2 ∧ (look (Nm.made (m :: l :: r)) (S.sq (m :: l :: r)).tab).isSome = true ∧ (S.sq (m :: l :: r)).tab.length ≤ S.tab.length + 1 := by
  rw [WS.sq, h0]
  simp only
  have h1 : (look (Nm.made (l :: r)) ((S.note (Nm.made (m :: l :: r))).put (UInt8.ofNat m.length :: m)).tab).isSome = true := by
    rw [look_put, look_note_ne (by have := made_lt (l := m) (List.suffix_refl (l :: r)); omega)]
    exact h
  obtain ⟨e1, e2⟩ := sq_known h1
  rw [e1, e2]
  refine ⟨?_, ?_, ?_⟩
  · show (S.note _).size + _ + 2 = _
    rw [note_size]
    simp only [List.length_cons]
    omega
  · rw [look_put, look_note hs, if_pos rfl]; rfl
  · exact note_tab S _
end Go.Proofs.Ytipabiiffaipdaa
