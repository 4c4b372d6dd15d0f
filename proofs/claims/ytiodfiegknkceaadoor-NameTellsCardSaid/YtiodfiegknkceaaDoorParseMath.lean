/- What Parse takes is just the texts of names; and what the document's own reading of a text comes to. -/
import Derived.Test.YtiodfiegknkceaaDoorTextMath
namespace Go.Proofs.YtiodfiegknkceaaDoor.Nm

def isDig (c : UInt8) : Bool := decide (48 ≤ c.toNat ∧ c.toNat ≤ 57)
def val3 (a b d : UInt8) : Nat := (a.toNat - 48) * 100 + (b.toNat - 48) * 10 + (d.toNat - 48)
theorem pu_sound {a b d : UInt8} {v : Nat} (h : Lib.parseUintB 8 [a, b, d] = .ok v) : isDig a = true ∧ isDig b = true ∧ isDig d = true ∧ v = val3 a b d ∧ v ≤ 255 := by
  unfold Lib.parseUintB at h
  rw [if_neg (by simp)] at h
  simp only [Lib.parseUintM] at h
  split at h
  · rename_i ha
    split at h
    · cases h
    · split at h
      · cases h
      · split at h
        · rename_i hb
          split at h
          · cases h
          · split at h
            · cases h
            · split at h
              · rename_i hd
                split at h
                · cases h
                · split at h
                  · cases h
                  · rename_i hlast
                    injection h with h
                    refine ⟨decide_eq_true ha, decide_eq_true hb, decide_eq_true hd, ?_, ?_⟩
                    · unfold val3; omega
                    · simp at hlast; omega
              · cases h
        · cases h
  · cases h
theorem byteText_num {a b d : UInt8} {v : Nat} (ha : isDig a = true) (hb : isDig b = true) (hd : isDig d = true) (hv : v = val3 a b d) (h255 : v ≤ 255) (hs : shown (UInt8.ofNat v) = false) : byteText (UInt8.ofNat v) = [92, a, b, d] := by
  have ha' := of_decide_eq_true ha
  have hb' := of_decide_eq_true hb
  have hd' := of_decide_eq_true hd
  have hvt : (UInt8.ofNat v).toNat = v := by simp; omega
  have h1 : ¬ (UInt8.ofNat v = 46 ∨ UInt8.ofNat v = 92) := by
    rintro (e | e) <;> (rw [e] at hs; revert hs; decide)
  have h2 := of_decide_eq_false hs
  unfold val3 at hv
  unfold byteText
  rw [if_neg h1, if_neg h2]
  have e1 : (48 + UInt8.ofNat v / 100 : UInt8) = a := by rw [← UInt8.toNat_inj]; simp; omega
  have e2 : (48 + UInt8.ofNat v / 10 % 10 : UInt8) = b := by rw [← UInt8.toNat_inj]; simp; omega
  have e3 : (48 + UInt8.ofNat v % 10 : UInt8) = d := by rw [← UInt8.toNat_inj]; simp; omega
  rw [e1, e2, e3]
theorem readB_sound {c : UInt8} {r : List UInt8} (hc : c ≠ 46) (h : (readB (c :: r)).2 ≠ 0) : ∃ x t, readB (c :: r) = (x, (byteText x).length) ∧ c :: r = byteText x ++ t := by
  by_cases h92 : c = 92
  · subst h92
    cases r with
    | nil => exact absurd rfl h
    | cons d r =>
      by_cases hd : d = 46 ∨ d = 92
      · refine ⟨d, r, ?_, ?_⟩
        · simp [readB, hd, byteText]
        · simp [byteText, hd]
      · by_cases hl : 2 ≤ r.length
        · obtain ⟨e, f, r, rfl⟩ : ∃ e f r', r = e :: f :: r' := by
            match r, hl with
            | e :: f :: r', _ => exact ⟨e, f, r', rfl⟩
          have hr : readB (92 :: d :: e :: f :: r) = (match Lib.parseUintB 8 [d, e, f] with | .ok v => if shown (UInt8.ofNat v) then (0, 0) else (UInt8.ofNat v, 4) | _ => (0, 0)) := by
            simp [readB, hd]
            cases Lib.parseUintB 8 [d, e, f] <;> rfl
          rw [hr] at h ⊢
          cases hp : Lib.parseUintB 8 [d, e, f] with
          | ok v =>
            rw [hp] at h
            simp only at h ⊢
            cases hs : shown (UInt8.ofNat v)
            · obtain ⟨h1, h2, h3, h4, h5⟩ := pu_sound hp
              have hb := byteText_num h1 h2 h3 h4 h5 hs
              refine ⟨UInt8.ofNat v, r, ?_, ?_⟩
              · rw [hb]; simp
              · rw [hb]; rfl
            · rw [hs] at h; exact absurd rfl h
          | _ => rw [hp] at h; exact absurd rfl h
        · exfalso
          apply h
          simp [readB, hd, hl]
  · cases hs : shown c
    · exfalso
      apply h
      simp [readB, h92, hs]
    · have hb : byteText c = [c] := by
        unfold byteText
        rw [if_neg (by rintro (e | e); exact hc e; exact h92 e), if_pos (of_decide_eq_true hs)]
      refine ⟨c, r, ?_, ?_⟩
      · simp [readB, h92, hs, hb]
      · rw [hb]; rfl
theorem rlF_sound : ∀ (f : Nat) (s acc : List UInt8) (k : Nat), (rlF f s acc k).2 ≠ 0 → ∃ l t, rlF f s acc k = (acc ++ l, k + (labText l).length) ∧ s = labText l ++ t
  | 0, _, _, _, h => absurd rfl h
  | _ + 1, [], _, _, h => absurd rfl h
  | f + 1, c :: r, acc, k, h => by
    simp only [rlF] at h ⊢
    by_cases hc : c = 46
    · subst hc
      exact ⟨[], r, by simp [labText], rfl⟩
    · rw [if_neg hc] at h ⊢
      by_cases hb : (readB (c :: r)).2 = 0
      · rw [if_pos hb] at h; exact absurd rfl h
      · rw [if_neg hb] at h ⊢
        obtain ⟨x, t, e1, e2⟩ := readB_sound hc hb
        rw [e1] at h ⊢
        simp only at h ⊢
        have hdrop : (c :: r).drop (byteText x).length = t := by rw [e2, List.drop_left' rfl]
        rw [hdrop] at h ⊢
        obtain ⟨l, t', e3, e4⟩ := rlF_sound f t (acc ++ [x]) (k + (byteText x).length) h
        refine ⟨x :: l, t', ?_, ?_⟩
        · rw [e3]
          simp only [labText, List.flatMap_cons, List.append_assoc, List.singleton_append, List.length_append, List.length_singleton, Prod.mk.injEq, true_and]
          omega
        · rw [e2, e4]; simp [labText]
theorem plF_sound : ∀ (f : Nat) (s : List UInt8) (acc L : List (List UInt8)), plF f s acc = some L → ∃ ls, L = acc ++ ls ∧ s = ls.flatMap labText
  | f, [], acc, L, h => by
    have : some acc = some L := by cases f <;> exact h
    exact ⟨[], by rw [← Option.some.inj this]; simp, rfl⟩
  | 0, _ :: _, _, _, h => by cases h
  | f + 1, c :: r, acc, L, h => by
    simp only [plF] at h
    split at h
    · cases h
    · rename_i hk
      obtain ⟨l, t, e1, e2⟩ := rlF_sound _ (c :: r) [] 0 hk
      have e1' : rl (c :: r) [] 0 = (l, (labText l).length) := by unfold rl; rw [e1]; simp
      rw [e1'] at h
      simp only at h
      have hdrop : (c :: r).drop (labText l).length = t := by rw [e2, List.drop_left' rfl]
      rw [hdrop] at h
      obtain ⟨ls, e3, e4⟩ := plF_sound f t (acc ++ [l]) L h
      exact ⟨l :: ls, by rw [e3]; simp, by rw [e2, e4]; rfl⟩
/-- Parse takes just the texts of names. -/
theorem parse_iff (s n : List UInt8) : parse s = some n ↔ valid n = true ∧ text n = s := by
  constructor
  · intro h
    unfold parse at h
    split at h
    · rename_i e
      obtain rfl := Option.some.inj h
      exact ⟨by decide, by rw [e]; rfl⟩
    · split at h
      · cases h
      · rename_i h1 h2
        cases hp : pl s [] with
        | none => rw [hp] at h; cases h
        | some L =>
          rw [hp] at h
          obtain ⟨ls, e1, e2⟩ := plF_sound _ s [] L hp
          rw [List.nil_append] at e1
          subst e1
          obtain ⟨e3, g, hl⟩ := join_some.1 (show join L = some n from h)
          have hne : L ≠ [] := by
            rintro rfl
            exact h2 (.inl e2)
          rw [e3] at hl ⊢
          exact ⟨valid_made g hl, by rw [text_made hne g hl, ← e2]⟩
  · rintro ⟨h1, h2⟩
    rw [← h2]
    exact parse_of_text h1

/-! The document's own reading. -/
def dig3 : List UInt8 → Bool
  | a :: b :: d :: _ => isDig a && isDig b && isDig d
  | _ => false
def lpF : Nat → List UInt8 → List (List UInt8) → List UInt8 → List (List UInt8)
  | 0, _, l, _ => l
  | _ + 1, [], l, _ => l
  | f + 1, c :: r, l, now =>
    if c = 46 then lpF f r (l ++ [now]) []
    else if c = 92 ∧ dig3 r = true then lpF f (r.drop 3) l (now ++ [UInt8.ofNat (val3 (r.getD 0 0) (r.getD 1 0) (r.getD 2 0))])
    else if c = 92 ∧ r ≠ [] then lpF f (r.drop 1) l (now ++ [r.getD 0 0])
    else lpF f r l (now ++ [c])
theorem lpF_fuel : ∀ (f g : Nat) (s : List UInt8) (l : List (List UInt8)) (now : List UInt8), s.length < f → s.length < g → lpF f s l now = lpF g s l now
  | 0, _, _, _, _, h, _ => by omega
  | _ + 1, 0, _, _, _, _, h => by omega
  | f + 1, g + 1, [], _, _, _, _ => rfl
  | f + 1, g + 1, c :: r, l, now, h, h' => by
    simp only [List.length_cons] at h h'
    simp only [lpF]
    rw [lpF_fuel f g r _ _ (by omega) (by omega), lpF_fuel f g (r.drop 3) _ _ (by rw [List.length_drop]; omega) (by rw [List.length_drop]; omega), lpF_fuel f g (r.drop 1) _ _ (by rw [List.length_drop]; omega) (by rw [List.length_drop]; omega), lpF_fuel f g r l (now ++ [c]) (by omega) (by omega)]
def lp (s : List UInt8) (l : List (List UInt8)) (now : List UInt8) : List (List UInt8) := lpF (s.length + 1) s l now
theorem lp_nil (l : List (List UInt8)) (now : List UInt8) : lp [] l now = l := rfl
theorem lp_cons (c : UInt8) (r : List UInt8) (l : List (List UInt8)) (now : List UInt8) : lp (c :: r) l now =
    if c = 46 then lp r (l ++ [now]) []
    else if c = 92 ∧ dig3 r = true then lp (r.drop 3) l (now ++ [UInt8.ofNat (val3 (r.getD 0 0) (r.getD 1 0) (r.getD 2 0))])
    else if c = 92 ∧ r ≠ [] then lp (r.drop 1) l (now ++ [r.getD 0 0])
    else lp r l (now ++ [c]) := by
  unfold lp
  rw [show (c :: r).length + 1 = (r.length + 1) + 1 from rfl, lpF]
  rw [lpF_fuel (r.length + 1) ((r.drop 3).length + 1) (r.drop 3) _ _ (by rw [List.length_drop]; omega) (by omega), lpF_fuel (r.length + 1) ((r.drop 1).length + 1) (r.drop 1) _ _ (by rw [List.length_drop]; omega) (by omega)]
theorem lp_byteText (c : UInt8) (r : List UInt8) (l : List (List UInt8)) (now : List UInt8) : lp (byteText c ++ r) l now = lp r l (now ++ [c]) := by
  by_cases h1 : c = 46 ∨ c = 92
  · have hb : byteText c = [92, c] := by unfold byteText; rw [if_pos h1]
    have hd : dig3 (c :: r) = false := by
      cases r with
      | nil => rfl
      | cons b r =>
        cases r with
        | nil => rfl
        | cons d r =>
          simp only [dig3]
          rcases h1 with rfl | rfl <;> simp [isDig]
    rw [hb]
    show lp (92 :: (c :: r)) l now = _
    rw [lp_cons, if_neg (by decide), if_neg (by rw [hd]; simp), if_pos ⟨rfl, by simp⟩]
    rfl
  · by_cases h2 : 33 ≤ c.toNat ∧ c.toNat ≤ 126
    · have hb : byteText c = [c] := by unfold byteText; rw [if_neg h1, if_pos h2]
      rw [hb]
      show lp (c :: r) l now = _
      rw [lp_cons, if_neg (fun e => h1 (.inl e)), if_neg (fun e => h1 (.inr e.1)), if_neg (fun e => h1 (.inr e.1))]
    · have hb : byteText c = [92, 48 + c / 100, 48 + c / 10 % 10, 48 + c % 10] := by unfold byteText; rw [if_neg h1, if_neg h2]
      have hlt := c.toNat_lt
      have e1 : ((48 + c / 100 : UInt8).toNat) = 48 + c.toNat / 100 := by simp; omega
      have e2 : ((48 + c / 10 % 10 : UInt8).toNat) = 48 + c.toNat / 10 % 10 := by simp; omega
      have e3 : ((48 + c % 10 : UInt8).toNat) = 48 + c.toNat % 10 := by simp; omega
      have hd : dig3 ((48 + c / 100) :: (48 + c / 10 % 10) :: (48 + c % 10) :: r) = true := by
        simp only [dig3, isDig, e1, e2, e3, Bool.and_eq_true, decide_eq_true_eq]
        omega
      rw [hb]
      show lp (92 :: ((48 + c / 100) :: (48 + c / 10 % 10) :: (48 + c % 10) :: r)) l now = _
      rw [lp_cons, if_neg (by decide), if_pos ⟨rfl, hd⟩]
      have hv : val3 (48 + c / 100) (48 + c / 10 % 10) (48 + c % 10) = c.toNat := by unfold val3; rw [e1, e2, e3]; omega
      simp only [List.getD_cons_zero, List.getD_cons_succ, hv, ofNat_self]
      rfl
theorem lp_flat (x r : List UInt8) (l : List (List UInt8)) (now : List UInt8) : lp (x.flatMap byteText ++ r) l now = lp r l (now ++ x) := by
  induction x generalizing now with
  | nil => simp
  | cons c x ih => rw [List.flatMap_cons, List.append_assoc, lp_byteText, ih]; simp
theorem lp_text (ls l : List (List UInt8)) : lp (ls.flatMap labText) l [] = l ++ ls := by
  induction ls generalizing l with
  | nil => simp [lp_nil]
  | cons x ls ih =>
    rw [List.flatMap_cons, labText_eq, List.append_assoc, lp_flat, List.singleton_append, lp_cons, if_pos rfl, ih]
    simp
theorem parse_lp {s m : List UInt8} (h46 : s ≠ [46]) (h : parse s = some m) : join (lp s [] []) = some m := by
  obtain ⟨hv, ht⟩ := (parse_iff s m).1 h
  obtain ⟨hl, e, g, _⟩ := labs_of_valid hv
  have hne : labsD m ≠ [] := by
    intro h0
    rw [h0] at e
    apply h46
    rw [← ht, e]; rfl
  have : text m = (labsD m).flatMap labText := by
    unfold text
    rw [if_neg (by rw [e]; exact made_ne hne g)]
  rw [← ht, this, lp_text, List.nil_append]
  exact join_labs.2 hl
theorem pn_none {s : List UInt8} (h46 : s ≠ [46]) (h : join (lp s [] []) = none) : parse s = none := by
  cases hp : parse s with
  | none => rfl
  | some m => rw [parse_lp h46 hp] at h; cases h
theorem pn_other {s n : List UInt8} (h46 : s ≠ [46]) (h : join (lp s [] []) = some n) (ht : text n ≠ s) : parse s = none := by
  cases hp : parse s with
  | none => rfl
  | some m =>
    rw [parse_lp h46 hp] at h
    obtain rfl := Option.some.inj h
    exact absurd ((parse_iff s m).1 hp).2 ht
theorem pn_some {s n : List UInt8} (h : join (lp s [] []) = some n) (ht : text n = s) : parse s = some n := by
  have hl := join_labs.1 h
  exact (parse_iff s n).2 ⟨by unfold valid; rw [hl]; rfl, ht⟩
end Go.Proofs.YtiodfiegknkceaaDoor.Nm
