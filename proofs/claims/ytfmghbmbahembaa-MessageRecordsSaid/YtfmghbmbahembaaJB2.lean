/- 4 texts put together: OrderMath, FoldMath, RdMath, FormMath. -/
import Derived.Test.YtfmghbmbahembaaJB1
/- The order of names, in Lean: total, transitive; a zone is ahead of all that is under it. -/
namespace Go.Proofs.Ytfmghbmbahembaa.Nm

theorem cmpN_cons_lt {a b : UInt8} {x y : List UInt8} (h : (small a).toNat < (small b).toNat) : cmpN (a :: x) (b :: y) = -1 := by
  rw [cmpN, cmpI_lt (by omega), if_neg (by decide)]
theorem cmpN_cons_gt {a b : UInt8} {x y : List UInt8} (h : (small b).toNat < (small a).toNat) : cmpN (a :: x) (b :: y) = 1 := by
  rw [cmpN, cmpI_gt (by omega), if_neg (by decide)]
theorem cmpN_cons_eq {a b : UInt8} {x y : List UInt8} (h : (small a).toNat = (small b).toNat) : cmpN (a :: x) (b :: y) = cmpN x y := by
  rw [cmpN, cmpI_eq (by omega) (by omega), if_pos rfl]
theorem cmpN_anti : ∀ a b : List UInt8, cmpN b a = - cmpN a b
  | [], [] => rfl
  | [], _ :: _ => rfl
  | _ :: _, [] => rfl
  | a :: x, b :: y => by
    rcases Nat.lt_trichotomy (small a).toNat (small b).toNat with h | h | h
    · rw [cmpN_cons_lt h, cmpN_cons_gt h]; rfl
    · rw [cmpN_cons_eq h, cmpN_cons_eq h.symm, cmpN_anti x y]
    · rw [cmpN_cons_lt h, cmpN_cons_gt h]
theorem cmpN_trans : ∀ a b c : List UInt8, cmpN a b ≤ 0 → cmpN b c ≤ 0 → cmpN a c ≤ 0 ∧ (cmpN a b < 0 ∨ cmpN b c < 0 → cmpN a c < 0)
  | [], [], [] => by simp [cmpN]
  | [], [], _ :: _ => by simp [cmpN]
  | [], _ :: _, [] => by simp [cmpN]
  | [], _ :: _, _ :: _ => by simp [cmpN]
  | _ :: _, [], _ => by simp [cmpN]
  | _ :: _, _ :: _, [] => by simp [cmpN]
  | a :: x, b :: y, c :: z => by
    intro h1 h2
    rcases Nat.lt_trichotomy (small a).toNat (small b).toNat with h | h | h
    · rcases Nat.lt_trichotomy (small b).toNat (small c).toNat with k | k | k
      · rw [cmpN_cons_lt (by omega : (small a).toNat < (small c).toNat)]; omega
      · rw [cmpN_cons_lt (by omega : (small a).toNat < (small c).toNat)]; omega
      · rw [cmpN_cons_gt k] at h2; omega
    · rcases Nat.lt_trichotomy (small b).toNat (small c).toNat with k | k | k
      · rw [cmpN_cons_lt (by omega : (small a).toNat < (small c).toNat)]; omega
      · rw [cmpN_cons_eq h] at h1
        rw [cmpN_cons_eq k] at h2
        rw [cmpN_cons_eq h, cmpN_cons_eq k, cmpN_cons_eq (by omega : (small a).toNat = (small c).toNat)]
        exact cmpN_trans x y z h1 h2
      · rw [cmpN_cons_gt k] at h2; omega
    · rw [cmpN_cons_gt h] at h1; omega

theorem lessR_cons_lt {x y : List UInt8} {xs ys : List (List UInt8)} (h : cmpN x y < 0) : lessR (x :: xs) (y :: ys) = true := by
  rw [lessR, if_pos (by omega)]; simpa using h
theorem lessR_cons_gt {x y : List UInt8} {xs ys : List (List UInt8)} (h : 0 < cmpN x y) : lessR (x :: xs) (y :: ys) = false := by
  rw [lessR, if_pos (by omega)]; simp; omega
theorem lessR_cons_eq {x y : List UInt8} {xs ys : List (List UInt8)} (h : cmpN x y = 0) : lessR (x :: xs) (y :: ys) = lessR xs ys := by
  rw [lessR, if_neg (by omega)]
theorem lessR_tri : ∀ xs ys : List (List UInt8), (lessR xs ys = true ∧ lessR ys xs = false ∧ xs.map folded ≠ ys.map folded) ∨ (lessR xs ys = false ∧ lessR ys xs = true ∧ xs.map folded ≠ ys.map folded) ∨ (lessR xs ys = false ∧ lessR ys xs = false ∧ xs.map folded = ys.map folded)
  | [], [] => .inr (.inr ⟨rfl, rfl, rfl⟩)
  | [], _ :: _ => .inl ⟨rfl, rfl, by simp⟩
  | _ :: _, [] => .inr (.inl ⟨rfl, rfl, by simp⟩)
  | x :: xs, y :: ys => by
    have ha := cmpN_anti x y
    rcases Int.lt_trichotomy (cmpN x y) 0 with h | h | h
    · refine .inl ⟨lessR_cons_lt h, lessR_cons_gt (by omega), fun e => ?_⟩
      simp only [List.map_cons, List.cons.injEq] at e
      have := cmpN_zero.2 e.1
      omega
    · have h0 := cmpN_zero.1 h
      rcases lessR_tri xs ys with ⟨h1, h2, h3⟩ | ⟨h1, h2, h3⟩ | ⟨h1, h2, h3⟩
      · exact .inl ⟨(lessR_cons_eq h).trans h1, (lessR_cons_eq (by omega)).trans h2, by simp [h3]⟩
      · exact .inr (.inl ⟨(lessR_cons_eq h).trans h1, (lessR_cons_eq (by omega)).trans h2, by simp [h3]⟩)
      · exact .inr (.inr ⟨(lessR_cons_eq h).trans h1, (lessR_cons_eq (by omega)).trans h2, by simp [h3, h0]⟩)
    · refine .inr (.inl ⟨lessR_cons_gt h, lessR_cons_lt (by omega), fun e => ?_⟩)
      simp only [List.map_cons, List.cons.injEq] at e
      have := cmpN_zero.2 e.1
      omega
theorem lessR_trans : ∀ xs ys zs : List (List UInt8), lessR xs ys = true → lessR ys zs = true → lessR xs zs = true
  | [], [], _ => by simp [lessR]
  | [], _ :: _, [] => by simp [lessR]
  | [], _ :: _, _ :: _ => by simp [lessR]
  | _ :: _, [], _ => by simp [lessR]
  | _ :: _, _ :: _, [] => by simp [lessR]
  | x :: xs, y :: ys, z :: zs => by
    intro h1 h2
    have hxy : cmpN x y ≤ 0 := by
      rcases Int.lt_or_le 0 (cmpN x y) with h | h
      · rw [lessR_cons_gt h] at h1; cases h1
      · exact h
    have hyz : cmpN y z ≤ 0 := by
      rcases Int.lt_or_le 0 (cmpN y z) with h | h
      · rw [lessR_cons_gt h] at h2; cases h2
      · exact h
    obtain ⟨t1, t2⟩ := cmpN_trans x y z hxy hyz
    by_cases h : cmpN x y < 0 ∨ cmpN y z < 0
    · exact lessR_cons_lt (t2 h)
    · have e1 : cmpN x y = 0 := by omega
      have e2 : cmpN y z = 0 := by omega
      have e3 : cmpN x z = 0 := cmpN_zero.2 ((cmpN_zero.1 e1).trans (cmpN_zero.1 e2))
      rw [lessR_cons_eq e1] at h1
      rw [lessR_cons_eq e2] at h2
      rw [lessR_cons_eq e3]
      exact lessR_trans xs ys zs h1 h2
theorem lessR_prefix : ∀ xs ys : List (List UInt8), xs.map folded <+: ys.map folded → xs.map folded = ys.map folded ∨ lessR xs ys = true
  | [], [], _ => .inl rfl
  | [], _ :: _, _ => .inr rfl
  | _ :: _, [], h => by simp at h
  | x :: xs, y :: ys, h => by
    simp only [List.map_cons, List.cons_prefix_cons] at h
    rcases lessR_prefix xs ys h.2 with e | e
    · exact .inl (by simp [h.1, e])
    · exact .inr ((lessR_cons_eq (cmpN_zero.2 h.1)).trans e)

/-! ### Of names -/
theorem labs_of_valid {n : List UInt8} (h : valid n = true) : labs n = some (labsD n) ∧ n = made (labsD n) ∧ good (labsD n) ∧ n.length ≤ 255 := by
  unfold valid at h
  obtain ⟨ls, hl⟩ := Option.isSome_iff_exists.1 h
  have e : labsD n = ls := by unfold labsD; rw [hl]; rfl
  rw [e]
  exact ⟨hl, labs_iff.1 hl⟩
theorem rev_map_inj {a b : List (List UInt8)} : a.reverse.map folded = b.reverse.map folded ↔ a.map folded = b.map folded := by
  rw [List.map_reverse, List.map_reverse, List.reverse_inj]
theorem same_valid {a b : List UInt8} (ha : valid a = true) (hb : valid b = true) : same a b = decide ((labsD a).map folded = (labsD b).map folded) := by
  obtain ⟨_, ea, ga, la⟩ := labs_of_valid ha
  obtain ⟨eb, _⟩ := labs_of_valid hb
  have h := same_made (b := labsD a) (z := b) ga (by rw [← ea]; exact la) eb
  rw [← ea] at h
  exact h
theorem under_valid {a b : List UInt8} (ha : valid a = true) (hb : valid b = true) : under a b = decide ((labsD b).map folded <:+ (labsD a).map folded) := by
  unfold under
  rw [(labs_of_valid ha).1, (labs_of_valid hb).1]
theorem less_valid {a b : List UInt8} (ha : valid a = true) (hb : valid b = true) : less a b = lessR (labsD a).reverse (labsD b).reverse := by
  unfold less; rw [ha, hb]; rfl
theorem order_tri {a b : List UInt8} (ha : valid a = true) (hb : valid b = true) : (less a b = true ∧ less b a = false ∧ same a b = false) ∨ (less a b = false ∧ less b a = true ∧ same a b = false) ∨ (less a b = false ∧ less b a = false ∧ same a b = true) := by
  rw [less_valid ha hb, less_valid hb ha, same_valid ha hb]
  have h := lessR_tri (labsD a).reverse (labsD b).reverse
  rw [Ne, rev_map_inj] at h
  simpa using h
theorem order_trans {a b c : List UInt8} (ha : valid a = true) (hb : valid b = true) (hc : valid c = true) (h1 : less a b = true) (h2 : less b c = true) : less a c = true := by
  rw [less_valid ha hb] at h1
  rw [less_valid hb hc] at h2
  rw [less_valid ha hc]
  exact lessR_trans _ _ _ h1 h2
theorem order_under {a b : List UInt8} (ha : valid a = true) (hb : valid b = true) (h : under a b = true) : same a b = true ∨ less b a = true := by
  rw [under_valid ha hb, decide_eq_true_eq] at h
  have hp : (labsD b).reverse.map folded <+: (labsD a).reverse.map folded := by
    rw [List.map_reverse, List.map_reverse, List.reverse_prefix]; exact h
  rcases lessR_prefix _ _ hp with e | e
  · rw [rev_map_inj] at e
    exact .inl (by rw [same_valid ha hb]; simp [e])
  · exact .inr (by rw [less_valid hb ha]; exact e)
theorem under_refl {a : List UInt8} (ha : valid a = true) : under a a = true := by
  rw [under_valid ha ha]; simp
theorem under_root {a : List UInt8} (ha : valid a = true) : under a [0] = true := by
  have hz : valid [0] = true := by decide
  rw [under_valid ha hz]
  have : labsD [0] = [] := by decide
  simp [this]
theorem under_trans {a b c : List UInt8} (ha : valid a = true) (hb : valid b = true) (hc : valid c = true) (h1 : under a b = true) (h2 : under b c = true) : under a c = true := by
  rw [under_valid ha hb, decide_eq_true_eq] at h1
  rw [under_valid hb hc, decide_eq_true_eq] at h2
  rw [under_valid ha hc, decide_eq_true_eq]
  exact h2.trans h1
theorem under_same {a b : List UInt8} (ha : valid a = true) (hb : valid b = true) (h : same a b = true) : under a b = true := by
  rw [same_valid ha hb, decide_eq_true_eq] at h
  rw [under_valid ha hb, h]; simp
end Go.Proofs.Ytfmghbmbahembaa.Nm

/- Plain mathematics of folding. -/
namespace Go.Proofs.Ytfmghbmbahembaa
namespace Nm
def foldTo (n : List UInt8) (k : Nat) : List UInt8 := (folded n).take k ++ n.drop k
theorem foldTo_length (n : List UInt8) (k : Nat) : (foldTo n k).length = n.length := by
  simp [foldTo, folded_length]; omega
theorem foldTo_zero (n : List UInt8) : foldTo n 0 = n := by simp [foldTo]
theorem foldTo_end (n : List UInt8) : foldTo n n.length = folded n := by simp [foldTo, ← folded_length n]
theorem foldTo_get {n : List UInt8} {k : Nat} (h : k < n.length) : (foldTo n k)[k]'(by rw [foldTo_length]; exact h) = n[k] := by
  unfold foldTo
  rw [List.getElem_append_right (by rw [List.length_take, folded_length]; omega)]
  simp [folded_length, Nat.min_eq_left (Nat.le_of_lt h)]
theorem foldTo_set {n : List UInt8} {k : Nat} (h : k < n.length) : (foldTo n k).set k (small n[k]) = foldTo n (k + 1) := by
  have hl : ((folded n).take k).length = k := by rw [List.length_take, folded_length]; omega
  have hF : k < (folded n).length := by rw [folded_length]; exact h
  have hg : (folded n)[k] = small n[k] := by simp [folded]
  unfold foldTo
  rw [List.set_append_right k (small n[k]) (by omega), hl, Nat.sub_self, drop_cons h, List.set_cons_zero, List.take_succ_eq_append_getElem hF, hg, List.append_assoc]
  rfl
def fold (n : List UInt8) : List UInt8 := if valid n then folded n else n
end Nm
end Go.Proofs.Ytfmghbmbahembaa

/- Plain mathematics of records (no program in it): what stands in data of each type, whether a record may be, and whether two are the same. -/
namespace Go.Proofs.Ytfmghbmbahembaa.Rd
open Nm

/-- How many bytes the name has that a text begins with; 0, if it begins with none. -/
def nsz (l : List UInt8) : Nat := match (List.range l.length).find? (fun k => valid (l.take (k + 1))) with | some k => k + 1 | none => 0

theorem valid_len {l : List UInt8} (h : valid l = true) : l.length ≤ 255 := by
  rcases Nat.lt_or_ge 255 l.length with h' | h'
  · have e : labs l = none := by unfold labs; rw [if_pos h']
    rw [valid, e] at h; cases h
  · exact h'
theorem nsz_none {l : List UInt8} (h : ∀ k, k < l.length → valid (l.take (k + 1)) = false) : nsz l = 0 := by
  unfold nsz
  rw [List.find?_eq_none.2 (fun k hk => by rw [h k (by simpa using hk)]; simp)]
theorem nsz_some {l : List UInt8} {k : Nat} (hk : k < l.length) (hv : valid (l.take (k + 1)) = true) (h : ∀ j, j < k → valid (l.take (j + 1)) = false) : nsz l = k + 1 := by
  unfold nsz
  have e : (List.range l.length).find? (fun k => valid (l.take (k + 1))) = some k := by
    rw [List.find?_eq_some_iff_getElem]
    refine ⟨hv, k, by simpa using hk, by simp, fun j hj => ?_⟩
    simp only [List.getElem_range]
    rw [h j hj]; rfl
  rw [e]
theorem nsz_cases (l : List UInt8) : (nsz l = 0 ∧ ∀ k, k < l.length → valid (l.take (k + 1)) = false) ∨ ∃ k, nsz l = k + 1 ∧ k < l.length ∧ valid (l.take (k + 1)) = true ∧ k + 1 ≤ 255 ∧ ∀ j, j < k → valid (l.take (j + 1)) = false := by
  cases e : (List.range l.length).find? (fun k => valid (l.take (k + 1))) with
  | none =>
    refine .inl ⟨by unfold nsz; rw [e], fun k hk => ?_⟩
    have := List.find?_eq_none.1 e k (by simpa using hk)
    simpa using this
  | some k =>
    have hs := e
    rw [List.find?_eq_some_iff_getElem] at hs
    obtain ⟨hv, i, hi, rfl, hj⟩ := hs
    simp only [List.length_range] at hi
    simp only [List.getElem_range] at hv hj e
    refine .inr ⟨i, by unfold nsz; rw [e], hi, hv, ?_, fun j hji => by simpa using hj j hji⟩
    have h255 := valid_len hv
    rw [List.length_take] at h255
    omega
theorem nsz_le (l : List UInt8) : nsz l ≤ l.length ∧ nsz l ≤ 255 := by
  rcases nsz_cases l with ⟨h, _⟩ | ⟨k, h, h1, _, h2, _⟩ <;> omega

/-- Where a walk along labels stands: each name that the text begins with ends behind it. -/
def At (l : List UInt8) (k : Nat) : Prop := ∀ j, j < l.length → valid (l.take (j + 1)) = true → k ≤ j ∧ validU ((l.take (j + 1)).drop k) = true
theorem At.zero (l : List UInt8) : At l 0 := fun j _ h => ⟨Nat.zero_le _, by
  rw [List.drop_zero]
  have h255 : ¬ 255 < (l.take (j + 1)).length := Nat.not_lt.2 (valid_len h)
  rw [← valid_of_short h255]; exact h⟩
theorem At.cons {l : List UInt8} {k j : Nat} (hk : k ≤ j) (hj : j < l.length) : (l.take (j + 1)).drop k = l[k]'(by omega) :: ((l.drop (k + 1)).take (j - k)) := by
  rw [List.drop_take, drop_cons (by omega : k < l.length)]
  rw [show j + 1 - k = (j - k) + 1 from by omega, List.take_succ_cons]
theorem At.step {l : List UInt8} {k : Nat} (h : At l k) (hk : k < l.length) (h0 : l[k] ≠ 0) : At l (k + (1 + l[k].toNat)) := by
  intro j hj hv
  obtain ⟨h1, h2⟩ := h j hj hv
  rw [At.cons h1 hj, validU_cons, if_neg h0] at h2
  split at h2
  · cases h2
  · rename_i hb
    rw [List.length_take, List.length_drop] at hb
    have hne : ((l.drop (k + 1)).take (j - k)).drop l[k].toNat ≠ [] := fun e => by rw [e] at h2; cases h2
    have hlen : 0 < (((l.drop (k + 1)).take (j - k)).drop l[k].toNat).length := List.length_pos_iff.2 hne
    simp only [List.length_drop, List.length_take] at hlen
    refine ⟨by omega, ?_⟩
    rw [← h2]
    rw [List.drop_take, List.drop_take, List.drop_drop]
    congr 2
    · omega
    · congr 1; omega
theorem At.stop {l : List UInt8} {k : Nat} (h : At l k) (hk : l.length ≤ k) : nsz l = 0 :=
  nsz_none fun j hj => by
    cases hv : valid (l.take (j + 1))
    · rfl
    · have := (h j hj hv).1; omega
theorem At.only {l : List UInt8} {k j : Nat} (h : At l k) (hk : k < l.length) (h0 : l[k] = 0) (hj : j < l.length) (hv : valid (l.take (j + 1)) = true) : j = k := by
  obtain ⟨h1, h2⟩ := h j hj hv
  rw [At.cons h1 hj, validU_cons, if_pos h0] at h2
  have : ((l.drop (k + 1)).take (j - k)).length = 0 := by rw [List.isEmpty_iff.1 h2]; rfl
  rw [List.length_take, List.length_drop] at this
  omega
theorem At.no {l : List UInt8} {k : Nat} (h : At l k) (hk : k < l.length) (h0 : l[k] = 0) (hv : valid (l.take (k + 1)) = false) : nsz l = 0 :=
  nsz_none fun j hj => by
    cases hv' : valid (l.take (j + 1))
    · rfl
    · have := h.only hk h0 hj hv'
      subst this
      rw [hv] at hv'; cases hv'
theorem At.yes {l : List UInt8} {k : Nat} (h : At l k) (hk : k < l.length) (h0 : l[k] = 0) (hv : valid (l.take (k + 1)) = true) : nsz l = k + 1 :=
  nsz_some hk hv fun j hj => by
    cases hv' : valid (l.take (j + 1))
    · rfl
    · have := h.only hk h0 (by omega) hv'
      omega

/-- Texts, one behind the other. -/
def textsF : Nat → List UInt8 → Bool
  | 0, _ => true
  | _ + 1, [] => true
  | f + 1, c :: r => if r.length < c.toNat then false else textsF f (r.drop c.toNat)
def textsU (l : List UInt8) : Bool := textsF l.length l
theorem textsF_fuel : ∀ (f g : Nat) (n : List UInt8), n.length ≤ f → n.length ≤ g → textsF f n = textsF g n
  | 0, 0, _, _, _ => rfl
  | 0, g + 1, n, h, _ => by
    obtain rfl : n = [] := List.length_eq_zero_iff.1 (by omega)
    rfl
  | f + 1, 0, n, _, h => by
    obtain rfl : n = [] := List.length_eq_zero_iff.1 (by omega)
    rfl
  | f + 1, g + 1, [], _, _ => rfl
  | f + 1, g + 1, c :: r, h, h' => by
    simp only [List.length_cons] at h h'
    simp only [textsF]
    rw [textsF_fuel f g (r.drop c.toNat) (by simp; omega) (by simp; omega)]
theorem textsU_nil : textsU [] = true := rfl
theorem textsU_cons (c : UInt8) (r : List UInt8) : textsU (c :: r) = if r.length < c.toNat then false else textsU (r.drop c.toNat) := by
  show textsF (r.length + 1) (c :: r) = _
  simp only [textsF, textsU]
  rw [textsF_fuel r.length (r.drop c.toNat).length _ (by simp) (Nat.le_refl _)]
def TextAt (d : List UInt8) (k : Nat) : Prop := (k ≤ d.length → textsU (d.drop k) = textsU d) ∧ (d.length < k → textsU d = false)
theorem TextAt.zero (d : List UInt8) : TextAt d 0 := ⟨fun _ => rfl, fun h => by omega⟩
theorem TextAt.step {d : List UInt8} {k : Nat} (h : TextAt d k) (hk : k < d.length) : TextAt d (k + (1 + d[k].toNat)) := by
  have e := h.1 (by omega)
  rw [drop_cons hk, textsU_cons] at e
  constructor
  · intro hl
    rw [if_neg (by simp; omega), List.drop_drop] at e
    rw [← e]
    congr 2
    omega
  · intro hl
    rw [if_pos (by simp; omega)] at e
    exact e.symm
theorem TextAt.done {d : List UInt8} {k : Nat} (h : TextAt d k) (hk : d.length ≤ k) : textsU d = decide (k = d.length) := by
  by_cases e : k = d.length
  · have := h.1 (by omega)
    rw [← this, e, List.drop_length, textsU_nil]; simp
  · rw [h.2 (by omega)]; simp [e]
def texts (d : List UInt8) : Bool := decide (d ≠ []) && textsU d

/-- What a type's data is put together of: so many bytes, so many names, so many bytes. -/
def lay (t : Int) : Option (Nat × Nat × Nat) :=
  if t = 1 then some (4, 0, 0) else if t = 28 then some (16, 0, 0) else if t = 2 ∨ t = 5 ∨ t = 12 then some (0, 1, 0) else if t = 15 then some (2, 1, 0)
  else if t = 33 then some (6, 1, 0) else if t = 6 then some (0, 2, 20) else none

/-- So many names from a place on: where each stands, and where they end. -/
def run (d : List UInt8) : Nat → Nat → Option (List (Nat × Nat) × Nat)
  | 0, at' => some ([], at')
  | n + 1, at' => if nsz (d.drop at') = 0 then none else (run d n (at' + nsz (d.drop at'))).map (fun x => ((at', nsz (d.drop at')) :: x.1, x.2))

def parts (t : Int) (d : List UInt8) : Option (List (Nat × Nat)) :=
  if 1000 < d.length then none
  else if t = 16 then (if texts d then some [] else none)
  else match lay t with
    | none => some []
    | some (a, n, b) => match run d n a with
      | none => none
      | some (ps, e) => if e + b = d.length then some ps else none
def dataOk (t : Int) (d : List UInt8) : Bool := (parts t d).isSome
def partsD (t : Int) (d : List UInt8) : List (Nat × Nat) := (parts t d).getD []

def fitsL (d : List UInt8) (a n b : Nat) : Bool := match run d n a with
  | none => false
  | some (_, e) => e + b == d.length

theorem run_bound (d : List UInt8) : ∀ (n a : Nat) {ps : List (Nat × Nat)} {e : Nat}, run d n a = some (ps, e) → a ≤ e ∧ (n ≠ 0 → e ≤ d.length) ∧ e ≤ a + 255 * n ∧ ps.length = n ∧ ∀ p ∈ ps, a ≤ p.1 ∧ p.1 + p.2 ≤ e ∧ 1 ≤ p.2 ∧ p.2 ≤ 255 ∧ p.2 = nsz (d.drop p.1)
  | 0, a, ps, e, h => by
    simp only [run, Option.some.injEq, Prod.mk.injEq] at h
    obtain ⟨rfl, rfl⟩ := h
    exact ⟨Nat.le_refl _, fun h => absurd rfl h, by omega, rfl, fun p hp => by cases hp⟩
  | n + 1, a, ps, e, h => by
    simp only [run] at h
    split at h
    · cases h
    · rename_i h0
      obtain ⟨x, hx, hxe⟩ := Option.map_eq_some_iff.1 h
      obtain ⟨ps', e'⟩ := x
      simp only [Prod.mk.injEq] at hxe
      obtain ⟨rfl, rfl⟩ := hxe
      obtain ⟨i1, i2, i3, i4, i5⟩ := run_bound d n _ hx
      have hn := nsz_le (d.drop a)
      rw [List.length_drop] at hn
      refine ⟨by omega, fun _ => ?_, by omega, by simp [i4], fun p hp => ?_⟩
      · by_cases e0 : n = 0
        · subst e0
          simp only [run, Option.some.injEq, Prod.mk.injEq] at hx
          omega
        · exact i2 e0
      · rcases List.mem_cons.1 hp with rfl | hp
        · exact ⟨Nat.le_refl _, i1, by show 1 ≤ nsz _; omega, hn.2, rfl⟩
        · obtain ⟨j1, j2, j3⟩ := i5 p hp
          exact ⟨by omega, j2, j3⟩

/-- A record. -/
structure RR where
  name : List UInt8
  typ : Int
  cls : Int
  ttl : Int
  data : List UInt8
deriving DecidableEq
def RR.zero : RR := ⟨[], 0, 0, 0, []⟩
def check (r : RR) : Bool := valid r.name && decide (1 ≤ r.typ ∧ r.typ ≤ 65535 ∧ r.typ ≠ 41 ∧ 0 ≤ r.cls ∧ r.cls ≤ 65535 ∧ 0 ≤ r.ttl ∧ r.ttl ≤ 2147483647) && dataOk r.typ r.data
def checkedR (r : RR) : RR := if check r then r else RR.zero
def known (t : Int) : Bool := decide (t = 1 ∨ t = 2 ∨ t = 5 ∨ t = 6 ∨ t = 12 ∨ t = 15 ∨ t = 16 ∨ t = 28 ∨ t = 33)

/-- Four bytes, the highest first. -/
def four (v : Int) : List UInt8 := [UInt8.ofNat ((v / 16777216) % 256).toNat, UInt8.ofNat ((v / 65536) % 256).toNat, UInt8.ofNat ((v / 256) % 256).toNat, UInt8.ofNat (v % 256).toNat]
def num4 (a b c d : UInt8) : Nat := a.toNat * 16777216 + b.toNat * 65536 + c.toNat * 256 + d.toNat
def number (l : List UInt8) : Nat := num4 (l.getD 0 0) (l.getD 1 0) (l.getD 2 0) (l.getD 3 0)
def isFour (v : Int) : Bool := decide (0 ≤ v ∧ v ≤ 4294967295)
def makeA (n : List UInt8) (ttl x : Int) : RR := if isFour x then checkedR ⟨n, 1, 1, ttl, four x⟩ else RR.zero
def makeName (n : List UInt8) (t ttl : Int) (to : List UInt8) : RR := if t = 2 ∨ t = 5 ∨ t = 12 then checkedR ⟨n, t, 1, ttl, to⟩ else RR.zero
def soaData (n : List UInt8) (x y : Int) : List UInt8 := n ++ [0] ++ four x ++ four 1 ++ four 2 ++ four 3 ++ four y
def makeSOA (n : List UInt8) (ttl x y : Int) : RR := if isFour x && isFour y then checkedR ⟨n, 6, 1, ttl, soaData n x y⟩ else RR.zero

/-- The name that a record leads to. -/
def target (r : RR) : Option (List UInt8) := match parts r.typ r.data with
  | some [(a, n)] => some ((r.data.drop a).take n)
  | _ => none
def lastFour (t : Int) (r : RR) : Option Nat := if r.typ = t ∧ dataOk t r.data = true then some (number (r.data.drop (r.data.length - 4))) else none

/-- Names in data made small. -/
def fold1 (d : List UInt8) (p : Nat × Nat) : List UInt8 := d.take p.1 ++ fold ((d.drop p.1).take p.2) ++ d.drop (p.1 + p.2)
def foldP (ps : List (Nat × Nat)) (d : List UInt8) : List UInt8 := ps.foldl fold1 d
def foldData (t : Int) (d : List UInt8) : List UInt8 := foldP (partsD t d) d
def foldR (r : RR) : RR := ⟨fold r.name, r.typ, r.cls, 0, foldData r.typ r.data⟩
def sameR (a b : RR) : Bool := foldR a == foldR b
def sameSet (a b : List RR) : Bool := a.all (fun x => b.any (fun y => sameR y x)) && b.all (fun x => a.any (fun y => sameR y x))
end Go.Proofs.Ytfmghbmbahembaa.Rd

/- Data that is put together of names: where the names stand. -/
namespace Go.Proofs.Ytfmghbmbahembaa.Rd
open Go.Proofs.Ytfmghbmbahembaa.Nm

theorem partsD_none {t : Int} {d : List UInt8} (h : parts t d = none) : dataOk t d = false ∧ partsD t d = [] := by
  unfold dataOk partsD; rw [h]; exact ⟨rfl, rfl⟩
theorem partsD_some {t : Int} {d : List UInt8} {ps : List (Nat × Nat)} (h : parts t d = some ps) : dataOk t d = true ∧ partsD t d = ps := by
  unfold dataOk partsD; rw [h]; exact ⟨rfl, rfl⟩
theorem parts_long {t : Int} {d : List UInt8} (hl : 1000 < d.length) : parts t d = none := by unfold parts; rw [if_pos hl]
def ofRun (d : List UInt8) (b : Nat) (M : Option (List (Nat × Nat) × Nat)) : Option (List (Nat × Nat)) := match M with
  | none => none
  | some (ps, e) => if e + b = d.length then some ps else none
theorem run_zero {d : List UInt8} {n e : Nat} (h : nsz (d.drop e) = 0) : run d (n + 1) e = none := by simp [run, h]
theorem run_succ {d : List UInt8} {n e z : Nat} (h : nsz (d.drop e) = z) (h0 : z ≠ 0) : run d (n + 1) e = (run d n (e + z)).map (fun y => ((e, z) :: y.1, y.2)) := by
  simp only [run, h]
  rw [if_neg h0]
theorem parts_lay {t : Int} {d : List UInt8} {a n b : Nat} (h : lay t = some (a, n, b)) (h16 : t ≠ 16) (hl : ¬ 1000 < d.length) :
    parts t d = ofRun d b (run d n a) := by
  unfold parts ofRun
  rw [if_neg hl, if_neg h16, h] <;> rfl
theorem parts_plain {t : Int} {d : List UInt8} {a : Nat} (h : lay t = some (a, 0, 0)) (h16 : t ≠ 16) (hl : ¬ 1000 < d.length) : parts t d = if a = d.length then some [] else none := by
  rw [parts_lay h h16 hl]; rfl
theorem parts_other {t : Int} {d : List UInt8} (h : lay t = none) (h16 : t ≠ 16) (hl : ¬ 1000 < d.length) : parts t d = some [] := by
  unfold parts
  rw [if_neg hl, if_neg h16, h]
theorem parts_txt {d : List UInt8} (hl : ¬ 1000 < d.length) : parts 16 d = if texts d then some [] else none := by
  unfold parts
  rw [if_neg hl, if_pos rfl]

theorem prefix_free : ∀ (f : Nat) (a b : List UInt8), a.length ≤ f → validU a = true → validU (a ++ b) = true → b = []
  | 0, a, b, h, ha, _ => by
    obtain rfl := List.length_eq_zero_iff.1 (Nat.le_zero.1 h)
    rw [validU_nil] at ha; cases ha
  | f + 1, [], b, _, ha, _ => by rw [validU_nil] at ha; cases ha
  | f + 1, c :: r, b, h, ha, hb => by
    rw [validU_cons] at ha
    rw [List.cons_append, validU_cons] at hb
    by_cases h0 : c = 0
    · rw [if_pos h0] at ha hb
      have h1 : r = [] := by simpa using ha
      subst h1
      simpa using hb
    · rw [if_neg h0] at ha hb
      by_cases h1 : 63 < c.toNat ∨ r.length < c.toNat
      · rw [if_pos h1] at ha; cases ha
      · rw [if_neg h1] at ha
        rw [if_neg (by rw [List.length_append]; omega), List.drop_append_of_le_length (by omega)] at hb
        exact prefix_free f (r.drop c.toNat) b (by rw [List.length_drop]; simp at h; omega) ha hb
theorem valid_U {l : List UInt8} (h : valid l = true) : validU l = true := by
  have := valid_len h
  rw [← valid_of_short (by omega)]; exact h
theorem nsz_valid {l : List UInt8} (h : valid l = true) : nsz l = l.length := by
  rcases nsz_cases l with ⟨_, hn⟩ | ⟨k, hk, hlt, hv, _, _⟩
  · have hl : 0 < l.length := by
      cases l with
      | nil => have := valid_U h; rw [validU_nil] at this; cases this
      | cons => simp
    have := hn (l.length - 1) (by omega)
    rw [show l.length - 1 + 1 = l.length by omega, List.take_length, h] at this
    cases this
  · have h1 := prefix_free _ (l.take (k + 1)) (l.drop (k + 1)) (Nat.le_refl _) (valid_U hv) (by rw [List.take_append_drop]; exact valid_U h)
    have := List.drop_eq_nil_iff.1 h1
    omega
theorem nsz_append {l r : List UInt8} (h : nsz l ≠ 0) : nsz (l ++ r) = nsz l := by
  rcases nsz_cases l with ⟨h0, _⟩ | ⟨k, hk, hlt, hv, _, hj⟩
  · exact absurd h0 h
  · rw [hk]
    refine nsz_some (by rw [List.length_append]; omega) (by rw [List.take_append_of_le_length (by omega)]; exact hv) (fun j hjk => ?_)
    rw [List.take_append_of_le_length (by omega)]
    exact hj j hjk
theorem nsz_take {l : List UInt8} (c : Nat) (h : nsz l ≠ 0) : nsz (l.take c) = if nsz l ≤ c then nsz l else 0 := by
  rcases nsz_cases l with ⟨h0, _⟩ | ⟨k, hk, hlt, hv, _, hj⟩
  · exact absurd h0 h
  · rw [hk]
    split
    · rename_i hc
      refine nsz_some (by rw [List.length_take]; omega) (by rw [List.take_take, Nat.min_eq_left (by omega)]; exact hv) (fun j hjk => ?_)
      rw [List.take_take, Nat.min_eq_left (by omega)]
      exact hj j hjk
    · rename_i hc
      refine nsz_none (fun j hjc => ?_)
      rw [List.length_take] at hjc
      rw [List.take_take, Nat.min_eq_left (by omega)]
      exact hj j (by omega)
theorem run_append {r : List UInt8} : ∀ (n a : Nat) {d : List UInt8} {ps : List (Nat × Nat)} {e : Nat}, a ≤ d.length → run d n a = some (ps, e) → run (d ++ r) n a = some (ps, e)
  | 0, a, d, ps, e, _, h => h
  | n + 1, a, d, ps, e, ha, h => by
    unfold run at h ⊢
    have hz : nsz (d.drop a) ≠ 0 := fun hz => by rw [if_pos hz] at h; cases h
    rw [if_neg hz] at h
    have hap : nsz ((d ++ r).drop a) = nsz (d.drop a) := by rw [List.drop_append_of_le_length ha, nsz_append hz]
    rw [hap, if_neg hz]
    cases hr : run d n (a + nsz (d.drop a)) with
    | none => rw [hr] at h; cases h
    | some x =>
      obtain ⟨ps', e'⟩ := x
      rw [run_append n _ (by have := (nsz_le (d.drop a)).1; rw [List.length_drop] at this; omega) hr]
      rw [hr] at h
      exact h
theorem run_take {c : Nat} : ∀ (n a : Nat) {d : List UInt8} {ps : List (Nat × Nat)} {e : Nat}, run d n a = some (ps, e) → (∃ ps', run (d.take c) n a = some (ps', e) ∧ (n = 0 ∨ e ≤ c)) ∨ run (d.take c) n a = none
  | 0, a, d, ps, e, h => by
    unfold run at h ⊢
    obtain ⟨rfl, rfl⟩ : [] = ps ∧ a = e := by simpa using h
    exact .inl ⟨_, rfl, .inl rfl⟩
  | n + 1, a, d, ps, e, h => by
    unfold run at h ⊢
    have hz : nsz (d.drop a) ≠ 0 := fun hz => by rw [if_pos hz] at h; cases h
    rw [if_neg hz] at h
    rw [List.drop_take, nsz_take _ hz]
    by_cases hc : nsz (d.drop a) ≤ c - a
    · rw [if_pos hc, if_neg hz]
      cases hr : run d n (a + nsz (d.drop a)) with
      | none => rw [hr] at h; cases h
      | some x =>
        obtain ⟨ps', e'⟩ := x
        rw [hr] at h
        obtain ⟨rfl, rfl⟩ : _ ∧ e' = e := by simpa using h
        rcases run_take (c := c) n _ hr with ⟨ps2, h2, h3⟩ | h2
        · rw [h2]
          refine .inl ⟨_, rfl, .inr ?_⟩
          rcases h3 with rfl | h3
          · unfold run at hr
            obtain ⟨rfl, rfl⟩ : [] = ps' ∧ a + nsz (d.drop a) = e' := by simpa using hr
            omega
          · exact h3
        · rw [h2]; exact .inr rfl
    · rw [if_neg hc, if_pos rfl]; exact .inr rfl
/-- Data of a form: a byte more, or less, and it is none. -/
theorem parts_form {t : Int} {d : List UInt8} {a n b : Nat} {ps : List (Nat × Nat)} (h16 : t ≠ 16) (hl : lay t = some (a, n, b)) (hd : d.length ≤ 1000) (he : run d n a = some (ps, d.length - b)) (hb : b ≤ d.length) : parts t d = some ps := by
  unfold parts
  rw [if_neg (by omega), if_neg h16, hl]
  simp only [he]
  rw [if_pos (by omega)]
theorem dataOk_form {t : Int} {d : List UInt8} {ps : List (Nat × Nat)} (h : parts t d = some ps) : dataOk t d = true ∧ partsD t d = ps := partsD_some h
theorem dataOk_off {t : Int} {d : List UInt8} {a n b : Nat} (h16 : t ≠ 16) (hl : lay t = some (a, n, b)) (h : ∀ ps e, run d n a = some (ps, e) → e + b ≠ d.length) : dataOk t d = false := by
  unfold dataOk parts
  by_cases hlen : 1000 < d.length
  · rw [if_pos hlen]; rfl
  · rw [if_neg hlen, if_neg h16, hl]
    simp only
    cases hr : run d n a with
    | none => rfl
    | some x =>
      obtain ⟨ps, e⟩ := x
      simp only
      rw [if_neg (h ps e hr)]; rfl
theorem more_off {t : Int} {d : List UInt8} {a n b : Nat} {ps : List (Nat × Nat)} (h16 : t ≠ 16) (hl : lay t = some (a, n, b)) (ha : a ≤ d.length) (hb : b ≤ d.length) (he : run d n a = some (ps, d.length - b)) (x : UInt8) : dataOk t (d ++ [x]) = false := by
  refine dataOk_off h16 hl (fun ps' e' h => ?_)
  rw [run_append n a ha he] at h
  obtain ⟨rfl, rfl⟩ : ps = ps' ∧ d.length - b = e' := by simpa using h
  simp
  omega
theorem less_off {t : Int} {d : List UInt8} {a n b c : Nat} {ps : List (Nat × Nat)} (h16 : t ≠ 16) (hl : lay t = some (a, n, b)) (hb : b ≤ d.length) (he : run d n a = some (ps, d.length - b)) (hc : c < d.length) : dataOk t (d.take c) = false := by
  refine dataOk_off h16 hl (fun ps' e' h => ?_)
  rcases run_take (c := c) n a he with ⟨ps2, h2, _⟩ | h2
  · rw [h2] at h
    obtain ⟨_, rfl⟩ : ps2 = ps' ∧ d.length - b = e' := by simpa using h
    rw [List.length_take]
    omega
  · rw [h2] at h; cases h

/-! The forms. -/
theorem ne_nil_of_valid {l : List UInt8} (h : valid l = true) : l.length ≠ 0 := fun e => by
  obtain rfl := List.length_eq_zero_iff.1 e
  have := valid_U h; rw [validU_nil] at this; cases this
theorem run_one {q l r : List UInt8} (h : valid l = true) : run (q ++ l ++ r) 1 q.length = some ([(q.length, l.length)], q.length + l.length) := by
  have h1 : nsz ((q ++ l ++ r).drop q.length) = l.length := by
    rw [List.append_assoc, List.drop_left]
    rw [nsz_append (by rw [nsz_valid h]; exact ne_nil_of_valid h), nsz_valid h]
  unfold run
  rw [h1, if_neg (ne_nil_of_valid h)]
  rfl
theorem run_two {l m r : List UInt8} (h : valid l = true) (h' : valid m = true) : run (l ++ m ++ r) 2 0 = some ([(0, l.length), (l.length, m.length)], l.length + m.length) := by
  have h1 : nsz ((l ++ m ++ r).drop 0) = l.length := by
    rw [List.drop_zero, List.append_assoc]
    rw [nsz_append (by rw [nsz_valid h]; exact ne_nil_of_valid h), nsz_valid h]
  have h2 := run_one (q := l) (l := m) (r := r) h'
  unfold run
  rw [h1, if_neg (ne_nil_of_valid h), Nat.zero_add, h2]
  rfl
theorem parts_name {t : Int} {l : List UInt8} (ht : t = 2 ∨ t = 5 ∨ t = 12) (h : valid l = true) : parts t l = some [(0, l.length)] := by
  have h1 := run_one (q := []) (l := l) (r := []) h
  rw [List.append_nil, List.nil_append] at h1
  refine parts_form (a := 0) (n := 1) (b := 0) (by omega) (by rcases ht with rfl | rfl | rfl <;> rfl) (by have := valid_len h; omega) (by simpa using h1) (by omega)
theorem parts_mx {l : List UInt8} (x y : UInt8) (h : valid l = true) : parts 15 (x :: y :: l) = some [(2, l.length)] := by
  have h1 := run_one (q := [x, y]) (l := l) (r := []) h
  rw [List.append_nil] at h1
  refine parts_form (a := 2) (n := 1) (b := 0) (by omega) rfl (by have := valid_len h; simp; omega) ?_ (by omega)
  have e : ([x, y] ++ l).length - 0 = [x, y].length + l.length := by simp; omega
  exact (show run ([x, y] ++ l) 1 2 = some ([(2, l.length)], ([x, y] ++ l).length - 0) from by rw [e]; exact h1)
theorem parts_soa {l m r : List UInt8} (h : valid l = true) (h' : valid m = true) (hr : r.length = 20) : parts 6 (l ++ m ++ r) = some [(0, l.length), (l.length, m.length)] := by
  have h1 := run_two (r := r) h h'
  have e : (l ++ m ++ r).length - 20 = l.length + m.length := by simp; omega
  exact parts_form (a := 0) (n := 2) (b := 20) (by omega) rfl (by have := valid_len h; have := valid_len h'; simp; omega) (by rw [e]; exact h1) (by simp; omega)

theorem four_len (x : Int) : (four x).length = 4 := rfl
theorem number_four {x : Int} (h0 : 0 ≤ x) (h1 : x < 4294967296) : (number (four x) : Int) = x := by
  simp only [number, four, num4, List.getD_cons_zero, List.getD_cons_succ, UInt8.toNat_ofNat']
  omega
end Go.Proofs.Ytfmghbmbahembaa.Rd
