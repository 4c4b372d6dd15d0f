/- 3 texts put together: OrderMath, FoldMath, RdMath. -/
import Derived.Test.YtdodamkndigjkaaJB1
/- The order of names, in Lean: total, transitive; a zone is ahead of all that is under it. -/
namespace Go.Proofs.Ytdodamkndigjkaa.Nm

theorem cmpN_cons_lt {a b : UInt8} {x y : List UInt8} (h : (small a).toNat < (small b).toNat) : cmpN (a :: x) (b :: y) = -1 := by
  rw [cmpN, cmpI_lt (by omega), if_neg (by decide)]
theorem cmpN_cons_gt {a b : UInt8} {x y : List UInt8} (h : (small b).toNat < (small a).toNat) : cmpN (a :: x) (b :: y) = 1 := by
  rw [cmpN, cmpI_gt (by omega), if_neg (by decide)]
theorem cmpN_cons_eq {a b : UInt8} {x y : List UInt8} (h : (small a).toNat = (small b).toNat) : cmpN (a :: x) (b :: y) = cmpN x y := by
  rw [cmpN, cmpI_eq (by omega) (by omega), if_pos rfl]
theorem cmpN_anti : ∀ a b : List UInt8, cmpN b a = - cmpN a b
  | [], [] => rfl
  | [], _ :: _ => rfl
  | _ :: _, [] => rfl
  | a :: x, b :: y => by
    rcases Nat.lt_trichotomy (small a).toNat (small b).toNat with h | h | h
    · rw [cmpN_cons_lt h, cmpN_cons_gt h]; rfl
    · rw [cmpN_cons_eq h, cmpN_cons_eq h.symm, cmpN_anti x y]
    · rw [cmpN_cons_lt h, cmpN_cons_gt h]
theorem cmpN_trans : ∀ a b c : List UInt8, cmpN a b ≤ 0 → cmpN b c ≤ 0 → cmpN a c ≤ 0 ∧ (cmpN a b < 0 ∨ cmpN b c < 0 → cmpN a c < 0)
  | [], [], [] => by simp [cmpN]
  | [], [], _ :: _ => by simp [cmpN]
  | [], _ :: _, [] => by simp [cmpN]
  | [], _ :: _, _ :: _ => by simp [cmpN]
  | _ :: _, [], _ => by simp [cmpN]
  | _ :: _, _ :: _, [] => by simp [cmpN]
  | a :: x, b :: y, c :: z => by
    intro h1 h2
    rcases Nat.lt_trichotomy (small a).toNat (small b).toNat with h | h | h
    · rcases Nat.lt_trichotomy (small b).toNat (small c).toNat with k | k | k
      · rw [cmpN_cons_lt (by omega : (small a).toNat < (small c).toNat)]; omega
      · rw [cmpN_cons_lt (by omega : (small a).toNat < (small c).toNat)]; omega
      · rw [cmpN_cons_gt k] at h2; omega
    · rcases Nat.lt_trichotomy (small b).toNat (small c).toNat with k | k | k
      · rw [cmpN_cons_lt (by omega : (small a).toNat < (small c).toNat)]; omega
      · rw [cmpN_cons_eq h] at h1
        rw [cmpN_cons_eq k] at h2
        rw [cmpN_cons_eq h, cmpN_cons_eq k, cmpN_cons_eq (by omega : (small a).toNat = (small c).toNat)]
        exact cmpN_trans x y z h1 h2
      · rw [cmpN_cons_gt k] at h2; omega
    · rw [cmpN_cons_gt h] at h1; omega

theorem lessR_cons_lt {x y : List UInt8} {xs ys : List (List UInt8)} (h : cmpN x y < 0) : lessR (x :: xs) (y :: ys) = true := by
  rw [lessR, if_pos (by omega)]; simpa using h
theorem lessR_cons_gt {x y : List UInt8} {xs ys : List (List UInt8)} (h : 0 < cmpN x y) : lessR (x :: xs) (y :: ys) = false := by
  rw [lessR, if_pos (by omega)]; simp; omega
theorem lessR_cons_eq {x y : List UInt8} {xs ys : List (List UInt8)} (h : cmpN x y = 0) : lessR (x :: xs) (y :: ys) = lessR xs ys := by
  rw [lessR, if_neg (by omega)]
theorem lessR_tri : ∀ xs ys : List (List UInt8), (lessR xs ys = true ∧ lessR ys xs = false ∧ xs.map folded ≠ ys.map folded) ∨ (lessR xs ys = false ∧ lessR ys xs = true ∧ xs.map folded ≠ ys.map folded) ∨ (lessR xs ys = false ∧ lessR ys xs = false ∧ xs.map folded = ys.map folded)
  | [], [] => .inr (.inr ⟨rfl, rfl, rfl⟩)
  | [], _ :: _ => .inl ⟨rfl, rfl, by simp⟩
  | _ :: _, [] => .inr (.inl ⟨rfl, rfl, by simp⟩)
  | x :: xs, y :: ys => by
    have ha := cmpN_anti x y
    rcases Int.lt_trichotomy (cmpN x y) 0 with h | h | h
    · refine .inl ⟨lessR_cons_lt h, lessR_cons_gt (by omega), fun e => ?_⟩
      simp only [List.map_cons, List.cons.injEq] at e
      have := cmpN_zero.2 e.1
      omega
    · have h0 := cmpN_zero.1 h
      rcases lessR_tri xs ys with ⟨h1, h2, h3⟩ | ⟨h1, h2, h3⟩ | ⟨h1, h2, h3⟩
      · exact .inl ⟨(lessR_cons_eq h).trans h1, (lessR_cons_eq (by omega)).trans h2, by simp [h3]⟩
      · exact .inr (.inl ⟨(lessR_cons_eq h).trans h1, (lessR_cons_eq (by omega)).trans h2, by simp [h3]⟩)
      · exact .inr (.inr ⟨(lessR_cons_eq h).trans h1, (lessR_cons_eq (by omega)).trans h2, by simp [h3, h0]⟩)
    · refine .inr (.inl ⟨lessR_cons_gt h, lessR_cons_lt (by omega), fun e => ?_⟩)
      simp only [List.map_cons, List.cons.injEq] at e
      have := cmpN_zero.2 e.1
      omega
theorem lessR_trans : ∀ xs ys zs : List (List UInt8), lessR xs ys = true → lessR ys zs = true → lessR xs zs = true
  | [], [], _ => by simp [lessR]
  | [], _ :: _, [] => by simp [lessR]
  | [], _ :: _, _ :: _ => by simp [lessR]
  | _ :: _, [], _ => by simp [lessR]
  | _ :: _, _ :: _, [] => by simp [lessR]
  | x :: xs, y :: ys, z :: zs => by
    intro h1 h2
    have hxy : cmpN x y ≤ 0 := by
      rcases Int.lt_or_le 0 (cmpN x y) with h | h
      · rw [lessR_cons_gt h] at h1; cases h1
      · exact h
    have hyz : cmpN y z ≤ 0 := by
      rcases Int.lt_or_le 0 (cmpN y z) with h | h
      · rw [lessR_cons_gt h] at h2; cases h2
      · exact h
    obtain ⟨t1, t2⟩ := cmpN_trans x y z hxy hyz
    by_cases h : cmpN x y < 0 ∨ cmpN y z < 0
    · exact lessR_cons_lt (t2 h)
    · have e1 : cmpN x y = 0 := by omega
      have e2 : cmpN y z = 0 := by omega
      have e3 : cmpN x z = 0 := cmpN_zero.2 ((cmpN_zero.1 e1).trans (cmpN_zero.1 e2))
      rw [lessR_cons_eq e1] at h1
      rw [lessR_cons_eq e2] at h2
      rw [lessR_cons_eq e3]
      exact lessR_trans xs ys zs h1 h2
theorem lessR_prefix : ∀ xs ys : List (List UInt8), xs.map folded <+: ys.map folded → xs.map folded = ys.map folded ∨ lessR xs ys = true
  | [], [], _ => .inl rfl
  | [], _ :: _, _ => .inr rfl
  | _ :: _, [], h => by simp at h
  | x :: xs, y :: ys, h => by
    simp only [List.map_cons, List.cons_prefix_cons] at h
    rcases lessR_prefix xs ys h.2 with e | e
    · exact .inl (by simp [h.1, e])
    · exact .inr ((lessR_cons_eq (cmpN_zero.2 h.1)).trans e)

/-! ### Of names -/
theorem labs_of_valid {n : List UInt8} (h : valid n = true) : labs n = some (labsD n) ∧ n = made (labsD n) ∧ good (labsD n) ∧ n.length ≤ 255 := by
  unfold valid at h
  obtain ⟨ls, hl⟩ := Option.isSome_iff_exists.1 h
  have e : labsD n = ls := by unfold labsD; rw [hl]; rfl
  rw [e]
  exact ⟨hl, labs_iff.1 hl⟩
theorem rev_map_inj {a b : List (List UInt8)} : a.reverse.map folded = b.reverse.map folded ↔ a.map folded = b.map folded := by
  rw [List.map_reverse, List.map_reverse, List.reverse_inj]
theorem same_valid {a b : List UInt8} (ha : valid a = true) (hb : valid b = true) : same a b = decide ((labsD a).map folded = (labsD b).map folded) := by
  obtain ⟨_, ea, ga, la⟩ := labs_of_valid ha
  obtain ⟨eb, _⟩ := labs_of_valid hb
  have h := same_made (b := labsD a) (z := b) ga (by rw [← ea]; exact la) eb
  rw [← ea] at h
  exact h
theorem under_valid {a b : List UInt8} (ha : valid a = true) (hb : valid b = true) : under a b = decide ((labsD b).map folded <:+ (labsD a).map folded) := by
  unfold under
  rw [(labs_of_valid ha).1, (labs_of_valid hb).1]
theorem less_valid {a b : List UInt8} (ha : valid a = true) (hb : valid b = true) : less a b = lessR (labsD a).reverse (labsD b).reverse := by
  unfold less; rw [ha, hb]; rfl
theorem order_tri {a b : List UInt8} (ha : valid a = true) (hb : valid b = true) : (less a b = true ∧ less b a = false ∧ same a b = false) ∨ (less a b = false ∧ less b a = true ∧ same a b = false) ∨ (less a b = false ∧ less b a = false ∧ same a b = true) := by
  rw [less_valid ha hb, less_valid hb ha, same_valid ha hb]
  have h := lessR_tri (labsD a).reverse (labsD b).reverse
  rw [Ne, rev_map_inj] at h
  simpa using h
theorem order_trans {a b c : List UInt8} (ha : valid a = true) (hb : valid b = true) (hc : valid c = true) (h1 : less a b = true) (h2 : less b c = true) : less a c = true := by
  rw [less_valid ha hb] at h1
  rw [less_valid hb hc] at h2
  rw [less_valid ha hc]
  exact lessR_trans _ _ _ h1 h2
theorem order_under {a b : List UInt8} (ha : valid a = true) (hb : valid b = true) (h : under a b = true) : same a b = true ∨ less b a = true := by
  rw [under_valid ha hb, decide_eq_true_eq] at h
  have hp : (labsD b).reverse.map folded <+: (labsD a).reverse.map folded := by
    rw [List.map_reverse, List.map_reverse, List.reverse_prefix]; exact h
  rcases lessR_prefix _ _ hp with e | e
  · rw [rev_map_inj] at e
    exact .inl (by rw [same_valid ha hb]; simp [e])
  · exact .inr (by rw [less_valid hb ha]; exact e)
theorem under_refl {a : List UInt8} (ha : valid a = true) : under a a = true := by
  rw [under_valid ha ha]; simp
theorem under_root {a : List UInt8} (ha : valid a = true) : under a [0] = true := by
  have hz : valid [0] = true := by decide
  rw [under_valid ha hz]
  have : labsD [0] = [] := by decide
  simp [this]
theorem under_trans {a b c : List UInt8} (ha : valid a = true) (hb : valid b = true) (hc : valid c = true) (h1 : under a b = true) (h2 : under b c = true) : under a c = true := by
  rw [under_valid ha hb, decide_eq_true_eq] at h1
  rw [under_valid hb hc, decide_eq_true_eq] at h2
  rw [under_valid ha hc, decide_eq_true_eq]
  exact h2.trans h1
theorem under_same {a b : List UInt8} (ha : valid a = true) (hb : valid b = true) (h : same a b = true) : under a b = true := by
  rw [same_valid ha hb, decide_eq_true_eq] at h
  rw [under_valid ha hb, h]; simp
end Go.Proofs.Ytdodamkndigjkaa.Nm

/- Plain mathematics of folding. -/
namespace Go.Proofs.Ytdodamkndigjkaa
namespace Nm
def foldTo (n : List UInt8) (k : Nat) : List UInt8 := (folded n).take k ++ n.drop k
theorem foldTo_length (n : List UInt8) (k : Nat) : (foldTo n k).length = n.length := by
  simp [foldTo, folded_length]; omega
theorem foldTo_zero (n : List UInt8) : foldTo n 0 = n := by simp [foldTo]
theorem foldTo_end (n : List UInt8) : foldTo n n.length = folded n := by simp [foldTo, ← folded_length n]
theorem foldTo_get {n : List UInt8} {k : Nat} (h : k < n.length) : (foldTo n k)[k]'(by rw [foldTo_length]; exact h) = n[k] := by
  unfold foldTo
  rw [List.getElem_append_right (by rw [List.length_take, folded_length]; omega)]
  simp [folded_length, Nat.min_eq_left (Nat.le_of_lt h)]
theorem foldTo_set {n : List UInt8} {k : Nat} (h : k < n.length) : (foldTo n k).set k (small n[k]) = foldTo n (k + 1) := by
  have hl : ((folded n).take k).length = k := by rw [List.length_take, folded_length]; omega
  have hF : k < (folded n).length := by rw [folded_length]; exact h
  have hg : (folded n)[k] = small n[k] := by simp [folded]
  unfold foldTo
  rw [List.set_append_right k (small n[k]) (by omega), hl, Nat.sub_self, drop_cons h, List.set_cons_zero, List.take_succ_eq_append_getElem hF, hg, List.append_assoc]
  rfl
def fold (n : List UInt8) : List UInt8 := if valid n then folded n else n
end Nm
end Go.Proofs.Ytdodamkndigjkaa

/- Plain mathematics of records (no program in it): what stands in data of each type, whether a record may be, and whether two are the same. -/
namespace Go.Proofs.Ytdodamkndigjkaa.Rd
open Nm

/-- How many bytes the name has that a text begins with; 0, if it begins with none. -/
def nsz (l : List UInt8) : Nat := match (List.range l.length).find? (fun k => valid (l.take (k + 1))) with | some k => k + 1 | none => 0

theorem valid_len {l : List UInt8} (h : valid l = true) : l.length ≤ 255 := by
  rcases Nat.lt_or_ge 255 l.length with h' | h'
  · have e : labs l = none := by unfold labs; rw [if_pos h']
    rw [valid, e] at h; cases h
  · exact h'
theorem nsz_none {l : List UInt8} (h : ∀ k, k < l.length → valid (l.take (k + 1)) = false) : nsz l = 0 := by
  unfold nsz
  rw [List.find?_eq_none.2 (fun k hk => by rw [h k (by simpa using hk)]; simp)]
theorem nsz_some {l : List UInt8} {k : Nat} (hk : k < l.length) (hv : valid (l.take (k + 1)) = true) (h : ∀ j, j < k → valid (l.take (j + 1)) = false) : nsz l = k + 1 := by
  unfold nsz
  have e : (List.range l.length).find? (fun k => valid (l.take (k + 1))) = some k := by
    rw [List.find?_eq_some_iff_getElem]
    refine ⟨hv, k, by simpa using hk, by simp, fun j hj => ?_⟩
    simp only [List.getElem_range]
    rw [h j hj]; rfl
  rw [e]
theorem nsz_cases (l : List UInt8) : (nsz l = 0 ∧ ∀ k, k < l.length → valid (l.take (k + 1)) = false) ∨ ∃ k, nsz l = k + 1 ∧ k < l.length ∧ valid (l.take (k + 1)) = true ∧ k + 1 ≤ 255 ∧ ∀ j, j < k → valid (l.take (j + 1)) = false := by
  cases e : (List.range l.length).find? (fun k => valid (l.take (k + 1))) with
  | none =>
    refine .inl ⟨by unfold nsz; rw [e], fun k hk => ?_⟩
    have := List.find?_eq_none.1 e k (by simpa using hk)
    simpa using this
  | some k =>
    have hs := e
    rw [List.find?_eq_some_iff_getElem] at hs
    obtain ⟨hv, i, hi, rfl, hj⟩ := hs
    simp only [List.length_range] at hi
    simp only [List.getElem_range] at hv hj e
    refine .inr ⟨i, by unfold nsz; rw [e], hi, hv, ?_, fun j hji => by simpa using hj j hji⟩
    have h255 := valid_len hv
    rw [List.length_take] at h255
    omega
theorem nsz_le (l : List UInt8) : nsz l ≤ l.length ∧ nsz l ≤ 255 := by
  rcases nsz_cases l with ⟨h, _⟩ | ⟨k, h, h1, _, h2, _⟩ <;> omega

/-- Where a walk along labels stands: each name that the text begins with ends behind it. -/
def At (l : List UInt8) (k : Nat) : Prop := ∀ j, j < l.length → valid (l.take (j + 1)) = true → k ≤ j ∧ validU ((l.take (j + 1)).drop k) = true
theorem At.zero (l : List UInt8) : At l 0 := fun j _ h => ⟨Nat.zero_le _, by
  rw [List.drop_zero]
  have h255 : ¬ 255 < (l.take (j + 1)).length := Nat.not_lt.2 (valid_len h)
  rw [← valid_of_short h255]; exact h⟩
theorem At.cons {l : List UInt8} {k j : Nat} (hk : k ≤ j) (hj : j < l.length) : (l.take (j + 1)).drop k = l[k]'(by omega) :: ((l.drop (k + 1)).take (j - k)) := by
  rw [List.drop_take, drop_cons (by omega : k < l.length)]
  rw [show j + 1 - k = (j - k) + 1 from by omega, List.take_succ_cons]
theorem At.step {l : List UInt8} {k : Nat} (h : At l k) (hk : k < l.length) (h0 : l[k] ≠ 0) : At l (k + (1 + l[k].toNat)) := by
  intro j hj hv
  obtain ⟨h1, h2⟩ := h j hj hv
  rw [At.cons h1 hj, validU_cons, if_neg h0] at h2
  split at h2
  · cases h2
  · rename_i hb
    rw [List.length_take, List.length_drop] at hb
    have hne : ((l.drop (k + 1)).take (j - k)).drop l[k].toNat ≠ [] := fun e => by rw [e] at h2; cases h2
    have hlen : 0 < (((l.drop (k + 1)).take (j - k)).drop l[k].toNat).length := List.length_pos_iff.2 hne
    simp only [List.length_drop, List.length_take] at hlen
    refine ⟨by omega, ?_⟩
    rw [← h2]
    rw [List.drop_take, List.drop_take, List.drop_drop]
    congr 2
    · omega
    · congr 1; omega
theorem At.stop {l : List UInt8} {k : Nat} (h : At l k) (hk : l.length ≤ k) : nsz l = 0 :=
  nsz_none fun j hj => by
    cases hv : valid (l.take (j + 1))
    · rfl
    · have := (h j hj hv).1; omega
theorem At.only {l : List UInt8} {k j : Nat} (h : At l k) (hk : k < l.length) (h0 : l[k] = 0) (hj : j < l.length) (hv : valid (l.take (j + 1)) = true) : j = k := by
  obtain ⟨h1, h2⟩ := h j hj hv
  rw [At.cons h1 hj, validU_cons, if_pos h0] at h2
  have : ((l.drop (k + 1)).take (j - k)).length = 0 := by rw [List.isEmpty_iff.1 h2]; rfl
  rw [List.length_take, List.length_drop] at this
  omega
theorem At.no {l : List UInt8} {k : Nat} (h : At l k) (hk : k < l.length) (h0 : l[k] = 0) (hv : valid (l.take (k + 1)) = false) : nsz l = 0 :=
  nsz_none fun j hj => by
    cases hv' : valid (l.take (j + 1))
    · rfl
    · have := h.only hk h0 hj hv'
      subst this
      rw [hv] at hv'; cases hv'
theorem At.yes {l : List UInt8} {k : Nat} (h : At l k) (hk : k < l.length) (h0 : l[k] = 0) (hv : valid (l.take (k + 1)) = true) : nsz l = k + 1 :=
  nsz_some hk hv fun j hj => by
    cases hv' : valid (l.take (j + 1))
    · rfl
    · have := h.only hk h0 (by omega) hv'
      omega

/-- Texts, one behind the other. -/
def textsF : Nat → List UInt8 → Bool
  | 0, _ => true
  | _ + 1, [] => true
  | f + 1, c :: r => if r.length < c.toNat then false else textsF f (r.drop c.toNat)
def textsU (l : List UInt8) : Bool := textsF l.length l
theorem textsF_fuel : ∀ (f g : Nat) (n : List UInt8), n.length ≤ f → n.length ≤ g → textsF f n = textsF g n
  | 0, 0, _, _, _ => rfl
  | 0, g + 1, n, h, _ => by
    obtain rfl : n = [] := List.length_eq_zero_iff.1 (by omega)
    rfl
  | f + 1, 0, n, _, h => by
    obtain rfl : n = [] := List.length_eq_zero_iff.1 (by omega)
    rfl
  | f + 1, g + 1, [], _, _ => rfl
  | f + 1, g + 1, c :: r, h, h' => by
    simp only [List.length_cons] at h h'
    simp only [textsF]
    rw [textsF_fuel f g (r.drop c.toNat) (by simp; omega) (by simp; omega)]
theorem textsU_nil : textsU [] = true := rfl
theorem textsU_cons (c : UInt8) (r : List UInt8) : textsU (c :: r) = if r.length < c.toNat then false else textsU (r.drop c.toNat) := by
  show textsF (r.length + 1) (c :: r) = _
  simp only [textsF, textsU]
  rw [textsF_fuel r.length (r.drop c.toNat).length _ (by simp) (Nat.le_refl _)]
def TextAt (d : List UInt8) (k : Nat) : Prop := (k ≤ d.length → textsU (d.drop k) = textsU d) ∧ (d.length < k → textsU d = false)
theorem TextAt.zero (d : List UInt8) : TextAt d 0 := ⟨fun _ => rfl, fun h => by omega⟩
theorem TextAt.step {d : List UInt8} {k : Nat} (h : TextAt d k) (hk : k < d.length) : TextAt d (k + (1 + d[k].toNat)) := by
  have e := h.1 (by omega)
  rw [drop_cons hk, textsU_cons] at e
  constructor
  · intro hl
    rw [if_neg (by simp; omega), List.drop_drop] at e
    rw [← e]
    congr 2
    omega
  · intro hl
    rw [if_pos (by simp; omega)] at e
    exact e.symm
theorem TextAt.done {d : List UInt8} {k : Nat} (h : TextAt d k) (hk : d.length ≤ k) : textsU d = decide (k = d.length) := by
  by_cases e : k = d.length
  · have := h.1 (by omega)
    rw [← this, e, List.drop_length, textsU_nil]; simp
  · rw [h.2 (by omega)]; simp [e]
def texts (d : List UInt8) : Bool := decide (d ≠ []) && textsU d

/-- What a type's data is put together of: so many bytes, so many names, so many bytes. -/
def lay (t : Int) : Option (Nat × Nat × Nat) :=
  if t = 1 then some (4, 0, 0) else if t = 28 then some (16, 0, 0) else if t = 2 ∨ t = 5 ∨ t = 12 then some (0, 1, 0) else if t = 15 then some (2, 1, 0)
  else if t = 33 then some (6, 1, 0) else if t = 6 then some (0, 2, 20) else none

/-- So many names from a place on: where each stands, and where they end. -/
def run (d : List UInt8) : Nat → Nat → Option (List (Nat × Nat) × Nat)
  | 0, at' => some ([], at')
  | n + 1, at' => if nsz (d.drop at') = 0 then none else (run d n (at' + nsz (d.drop at'))).map (fun x => ((at', nsz (d.drop at')) :: x.1, x.2))

def parts (t : Int) (d : List UInt8) : Option (List (Nat × Nat)) :=
  if 1000 < d.length then none
  else if t = 16 then (if texts d then some [] else none)
  else match lay t with
    | none => some []
    | some (a, n, b) => match run d n a with
      | none => none
      | some (ps, e) => if e + b = d.length then some ps else none
def dataOk (t : Int) (d : List UInt8) : Bool := (parts t d).isSome
def partsD (t : Int) (d : List UInt8) : List (Nat × Nat) := (parts t d).getD []

def fitsL (d : List UInt8) (a n b : Nat) : Bool := match run d n a with
  | none => false
  | some (_, e) => e + b == d.length

theorem run_bound (d : List UInt8) : ∀ (n a : Nat) {ps : List (Nat × Nat)} {e : Nat}, run d n a = some (ps, e) → a ≤ e ∧ (n ≠ 0 → e ≤ d.length) ∧ e ≤ a + 255 * n ∧ ps.length = n ∧ ∀ p ∈ ps, a ≤ p.1 ∧ p.1 + p.2 ≤ e ∧ 1 ≤ p.2 ∧ p.2 ≤ 255 ∧ p.2 = nsz (d.drop p.1)
  | 0, a, ps, e, h => by
    simp only [run, Option.some.injEq, Prod.mk.injEq] at h
    obtain ⟨rfl, rfl⟩ := h
    exact ⟨Nat.le_refl _, fun h => absurd rfl h, by omega, rfl, fun p hp => by cases hp⟩
  | n + 1, a, ps, e, h => by
    simp only [run] at h
    split at h
    · cases h
    · rename_i h0
      obtain ⟨x, hx, hxe⟩ := Option.map_eq_some_iff.1 h
      obtain ⟨ps', e'⟩ := x
      simp only [Prod.mk.injEq] at hxe
      obtain ⟨rfl, rfl⟩ := hxe
      obtain ⟨i1, i2, i3, i4, i5⟩ := run_bound d n _ hx
      have hn := nsz_le (d.drop a)
      rw [List.length_drop] at hn
      refine ⟨by omega, fun _ => ?_, by omega, by simp [i4], fun p hp => ?_⟩
      · by_cases e0 : n = 0
        · subst e0
          simp only [run, Option.some.injEq, Prod.mk.injEq] at hx
          omega
        · exact i2 e0
      · rcases List.mem_cons.1 hp with rfl | hp
        · exact ⟨Nat.le_refl _, i1, by show 1 ≤ nsz _; omega, hn.2, rfl⟩
        · obtain ⟨j1, j2, j3⟩ := i5 p hp
          exact ⟨by omega, j2, j3⟩

/-- A record. -/
structure RR where
  name : List UInt8
  typ : Int
  cls : Int
  ttl : Int
  data : List UInt8
deriving DecidableEq
def RR.zero : RR := ⟨[], 0, 0, 0, []⟩
def check (r : RR) : Bool := valid r.name && decide (1 ≤ r.typ ∧ r.typ ≤ 65535 ∧ r.typ ≠ 41 ∧ 0 ≤ r.cls ∧ r.cls ≤ 65535 ∧ 0 ≤ r.ttl ∧ r.ttl ≤ 2147483647) && dataOk r.typ r.data
def checkedR (r : RR) : RR := if check r then r else RR.zero
def known (t : Int) : Bool := decide (t = 1 ∨ t = 2 ∨ t = 5 ∨ t = 6 ∨ t = 12 ∨ t = 15 ∨ t = 16 ∨ t = 28 ∨ t = 33)

/-- Four bytes, the highest first. -/
def four (v : Int) : List UInt8 := [UInt8.ofNat ((v / 16777216) % 256).toNat, UInt8.ofNat ((v / 65536) % 256).toNat, UInt8.ofNat ((v / 256) % 256).toNat, UInt8.ofNat (v % 256).toNat]
def num4 (a b c d : UInt8) : Nat := a.toNat * 16777216 + b.toNat * 65536 + c.toNat * 256 + d.toNat
def number (l : List UInt8) : Nat := num4 (l.getD 0 0) (l.getD 1 0) (l.getD 2 0) (l.getD 3 0)
def isFour (v : Int) : Bool := decide (0 ≤ v ∧ v ≤ 4294967295)
def makeA (n : List UInt8) (ttl x : Int) : RR := if isFour x then checkedR ⟨n, 1, 1, ttl, four x⟩ else RR.zero
def makeName (n : List UInt8) (t ttl : Int) (to : List UInt8) : RR := if t = 2 ∨ t = 5 ∨ t = 12 then checkedR ⟨n, t, 1, ttl, to⟩ else RR.zero
def soaData (n : List UInt8) (x y : Int) : List UInt8 := n ++ [0] ++ four x ++ four 1 ++ four 2 ++ four 3 ++ four y
def makeSOA (n : List UInt8) (ttl x y : Int) : RR := if isFour x && isFour y then checkedR ⟨n, 6, 1, ttl, soaData n x y⟩ else RR.zero

/-- The name that a record leads to. -/
def target (r : RR) : Option (List UInt8) := match parts r.typ r.data with
  | some [(a, n)] => some ((r.data.drop a).take n)
  | _ => none
def lastFour (t : Int) (r : RR) : Option Nat := if r.typ = t ∧ dataOk t r.data = true then some (number (r.data.drop (r.data.length - 4))) else none

/-- Names in data made small. -/
def fold1 (d : List UInt8) (p : Nat × Nat) : List UInt8 := d.take p.1 ++ fold ((d.drop p.1).take p.2) ++ d.drop (p.1 + p.2)
def foldP (ps : List (Nat × Nat)) (d : List UInt8) : List UInt8 := ps.foldl fold1 d
def foldData (t : Int) (d : List UInt8) : List UInt8 := foldP (partsD t d) d
def foldR (r : RR) : RR := ⟨fold r.name, r.typ, r.cls, 0, foldData r.typ r.data⟩
def sameR (a b : RR) : Bool := foldR a == foldR b
def sameSet (a b : List RR) : Bool := a.all (fun x => b.any (fun y => sameR y x)) && b.all (fun x => a.any (fun y => sameR y x))
end Go.Proofs.Ytdodamkndigjkaa.Rd
