/- The order of names, in Lean: total, transitive; a zone is ahead of all that is under it. -/
import Derived.Test.YtnnoooecbbkggaaDoorWalkMath
namespace Go.Proofs.YtnnoooecbbkggaaDoor.Nm

theorem cmpN_cons_lt {a b : UInt8} {x y : List UInt8} (h : (small a).toNat < (small b).toNat) : cmpN (a :: x) (b :: y) = -1 := by
  rw [cmpN, cmpI_lt (by omega), if_neg (by decide)]
theorem cmpN_cons_gt {a b : UInt8} {x y : List UInt8} (h : (small b).toNat < (small a).toNat) : cmpN (a :: x) (b :: y) = 1 := by
  rw [cmpN, cmpI_gt (by omega), if_neg (by decide)]
theorem cmpN_cons_eq {a b : UInt8} {x y : List UInt8} (h : (small a).toNat = (small b).toNat) : cmpN (a :: x) (b :: y) = cmpN x y := by
  rw [cmpN, cmpI_eq (by omega) (by omega), if_pos rfl]
theorem cmpN_anti : ∀ a b : List UInt8, cmpN b a = - cmpN a b
  | [], [] => rfl
  | [], _ :: _ => rfl
  | _ :: _, [] => rfl
  | a :: x, b :: y => by
    rcases Nat.lt_trichotomy (small a).toNat (small b).toNat with h | h | h
    · rw [cmpN_cons_lt h, cmpN_cons_gt h]; rfl
    · rw [cmpN_cons_eq h, cmpN_cons_eq h.symm, cmpN_anti x y]
    · rw [cmpN_cons_lt h, cmpN_cons_gt h]
theorem cmpN_trans : ∀ a b c : List UInt8, cmpN a b ≤ 0 → cmpN b c ≤ 0 → cmpN a c ≤ 0 ∧ (cmpN a b < 0 ∨ cmpN b c < 0 → cmpN a c < 0)
  | [], [], [] => by simp [cmpN]
  | [], [], _ :: _ => by simp [cmpN]
  | [], _ :: _, [] => by simp [cmpN]
  | [], _ :: _, _ :: _ => by simp [cmpN]
  | _ :: _, [], _ => by simp [cmpN]
  | _ :: _, _ :: _, [] => by simp [cmpN]
  | a :: x, b :: y, c :: z => by
    intro h1 h2
    rcases Nat.lt_trichotomy (small a).toNat (small b).toNat with h | h | h
    · rcases Nat.lt_trichotomy (small b).toNat (small c).toNat with k | k | k
      · rw [cmpN_cons_lt (by omega : (small a).toNat < (small c).toNat)]; omega
      · rw [cmpN_cons_lt (by omega : (small a).toNat < (small c).toNat)]; omega
      · rw [cmpN_cons_gt k] at h2; omega
    · rcases Nat.lt_trichotomy (small b).toNat (small c).toNat with k | k | k
      · rw [cmpN_cons_lt (by omega : (small a).toNat < (small c).toNat)]; omega
      · rw [cmpN_cons_eq h] at h1
        rw [cmpN_cons_eq k] at h2
        rw [cmpN_cons_eq h, cmpN_cons_eq k, cmpN_cons_eq (by omega : (small a).toNat = (small c).toNat)]
        exact cmpN_trans x y z h1 h2
      · rw [cmpN_cons_gt k] at h2; omega
    · rw [cmpN_cons_gt h] at h1; omega

theorem lessR_cons_lt {x y : List UInt8} {xs ys : List (List UInt8)} (h : cmpN x y < 0) : lessR (x :: xs) (y :: ys) = true := by
  rw [lessR, if_pos (by omega)]; simpa using h
theorem lessR_cons_gt {x y : List UInt8} {xs ys : List (List UInt8)} (h : 0 < cmpN x y) : lessR (x :: xs) (y :: ys) = false := by
  rw [lessR, if_pos (by omega)]; simp; omega
theorem lessR_cons_eq {x y : List UInt8} {xs ys : List (List UInt8)} (h : cmpN x y = 0) : lessR (x :: xs) (y :: ys) = lessR xs ys := by
  rw [lessR, if_neg (by omega)]
theorem lessR_tri : ∀ xs ys : List (List UInt8), (lessR xs ys = true ∧ lessR ys xs = false ∧ xs.map folded ≠ ys.map folded) ∨ (lessR xs ys = false ∧ lessR ys xs = true ∧ xs.map folded ≠ ys.map folded) ∨ (lessR xs ys = false ∧ lessR ys xs = false ∧ xs.map folded = ys.map folded)
  | [], [] => .inr (.inr ⟨rfl, rfl, rfl⟩)
  | [], _ :: _ => .inl ⟨rfl, rfl, by simp⟩
  | _ :: _, [] => .inr (.inl ⟨rfl, rfl, by simp⟩)
  | x :: xs, y :: ys => by
    have ha := cmpN_anti x y
    rcases Int.lt_trichotomy (cmpN x y) 0 with h | h | h
    · refine .inl ⟨lessR_cons_lt h, lessR_cons_gt (by omega), fun e => ?_⟩
      simp only [List.map_cons, List.cons.injEq] at e
      have := cmpN_zero.2 e.1
      omega
    · have h0 := cmpN_zero.1 h
      rcases lessR_tri xs ys with ⟨h1, h2, h3⟩ | ⟨h1, h2, h3⟩ | ⟨h1, h2, h3⟩
      · exact .inl ⟨(lessR_cons_eq h).trans h1, (lessR_cons_eq (by omega)).trans h2, by simp [h3]⟩
      · exact .inr (.inl ⟨(lessR_cons_eq h).trans h1, (lessR_cons_eq (by omega)).trans h2, by simp [h3]⟩)
      · exact .inr (.inr ⟨(lessR_cons_eq h).trans h1, (lessR_cons_eq (by omega)).trans h2, by simp [h3, h0]⟩)
    · refine .inr (.inl ⟨lessR_cons_gt h, lessR_cons_lt (by omega), fun e => ?_⟩)
      simp only [List.map_cons, List.cons.injEq] at e
      have := cmpN_zero.2 e.1
      omega
theorem lessR_trans : ∀ xs ys zs : List (List UInt8), lessR xs ys = true → lessR ys zs = true → lessR xs zs = true
  | [], [], _ => by simp [lessR]
  | [], _ :: _, [] => by simp [lessR]
  | [], _ :: _, _ :: _ => by simp [lessR]
  | _ :: _, [], _ => by simp [lessR]
  | _ :: _, _ :: _, [] => by simp [lessR]
  | x :: xs, y :: ys, z :: zs => by
    intro h1 h2
    have hxy : cmpN x y ≤ 0 := by
      rcases Int.lt_or_le 0 (cmpN x y) with h | h
      · rw [lessR_cons_gt h] at h1; cases h1
      · exact h
    have hyz : cmpN y z ≤ 0 := by
      rcases Int.lt_or_le 0 (cmpN y z) with h | h
      · rw [lessR_cons_gt h] at h2; cases h2
      · exact h
    obtain ⟨t1, t2⟩ := cmpN_trans x y z hxy hyz
    by_cases h : cmpN x y < 0 ∨ cmpN y z < 0
    · exact lessR_cons_lt (t2 h)
    · have e1 : cmpN x y = 0 := by omega
      have e2 : cmpN y z = 0 := by omega
      have e3 : cmpN x z = 0 := cmpN_zero.2 ((cmpN_zero.1 e1).trans (cmpN_zero.1 e2))
      rw [lessR_cons_eq e1] at h1
      rw [lessR_cons_eq e2] at h2
      rw [lessR_cons_eq e3]
      exact lessR_trans xs ys zs h1 h2
theorem lessR_prefix : ∀ xs ys : List (List UInt8), xs.map folded <+: ys.map folded → xs.map folded = ys.map folded ∨ lessR xs ys = true
  | [], [], _ => .inl rfl
  | [], _ :: _, _ => .inr rfl
  | _ :: _, [], h => by simp at h
  | x :: xs, y :: ys, h => by
    simp only [List.map_cons, List.cons_prefix_cons] at h
    rcases lessR_prefix xs ys h.2 with e | e
    · exact .inl (by simp [h.1, e])
    · exact .inr ((lessR_cons_eq (cmpN_zero.2 h.1)).trans e)

/-! ### Of names -/
theorem labs_of_valid {n : List UInt8} (h : valid n = true) : labs n = some (labsD n) ∧ n = made (labsD n) ∧ good (labsD n) ∧ n.length ≤ 255 := by
  unfold valid at h
  obtain ⟨ls, hl⟩ := Option.isSome_iff_exists.1 h
  have e : labsD n = ls := by unfold labsD; rw [hl]; rfl
  rw [e]
  exact ⟨hl, labs_iff.1 hl⟩
theorem rev_map_inj {a b : List (List UInt8)} : a.reverse.map folded = b.reverse.map folded ↔ a.map folded = b.map folded := by
  rw [List.map_reverse, List.map_reverse, List.reverse_inj]
theorem same_valid {a b : List UInt8} (ha : valid a = true) (hb : valid b = true) : same a b = decide ((labsD a).map folded = (labsD b).map folded) := by
  obtain ⟨_, ea, ga, la⟩ := labs_of_valid ha
  obtain ⟨eb, _⟩ := labs_of_valid hb
  have h := same_made (b := labsD a) (z := b) ga (by rw [← ea]; exact la) eb
  rw [← ea] at h
  exact h
theorem under_valid {a b : List UInt8} (ha : valid a = true) (hb : valid b = true) : under a b = decide ((labsD b).map folded <:+ (labsD a).map folded) := by
  unfold under
  rw [(labs_of_valid ha).1, (labs_of_valid hb).1]
theorem less_valid {a b : List UInt8} (ha : valid a = true) (hb : valid b = true) : less a b = lessR (labsD a).reverse (labsD b).reverse := by
  unfold less; rw [ha, hb]; rfl
theorem order_tri {a b : List UInt8} (ha : valid a = true) (hb : valid b = true) : (less a b = true ∧ less b a = false ∧ same a b = false) ∨ (less a b = false ∧ less b a = true ∧ same a b = false) ∨ (less a b = false ∧ less b a = false ∧ same a b = true) := by
  rw [less_valid ha hb, less_valid hb ha, same_valid ha hb]
  have h := lessR_tri (labsD a).reverse (labsD b).reverse
  rw [Ne, rev_map_inj] at h
  simpa using h
theorem order_trans {a b c : List UInt8} (ha : valid a = true) (hb : valid b = true) (hc : valid c = true) (h1 : less a b = true) (h2 : less b c = true) : less a c = true := by
  rw [less_valid ha hb] at h1
  rw [less_valid hb hc] at h2
  rw [less_valid ha hc]
  exact lessR_trans _ _ _ h1 h2
theorem order_under {a b : List UInt8} (ha : valid a = true) (hb : valid b = true) (h : under a b = true) : same a b = true ∨ less b a = true := by
  rw [under_valid ha hb, decide_eq_true_eq] at h
  have hp : (labsD b).reverse.map folded <+: (labsD a).reverse.map folded := by
    rw [List.map_reverse, List.map_reverse, List.reverse_prefix]; exact h
  rcases lessR_prefix _ _ hp with e | e
  · rw [rev_map_inj] at e
    exact .inl (by rw [same_valid ha hb]; simp [e])
  · exact .inr (by rw [less_valid hb ha]; exact e)
theorem under_refl {a : List UInt8} (ha : valid a = true) : under a a = true := by
  rw [under_valid ha ha]; simp
theorem under_root {a : List UInt8} (ha : valid a = true) : under a [0] = true := by
  have hz : valid [0] = true := by decide
  rw [under_valid ha hz]
  have : labsD [0] = [] := by decide
  simp [this]
theorem under_trans {a b c : List UInt8} (ha : valid a = true) (hb : valid b = true) (hc : valid c = true) (h1 : under a b = true) (h2 : under b c = true) : under a c = true := by
  rw [under_valid ha hb, decide_eq_true_eq] at h1
  rw [under_valid hb hc, decide_eq_true_eq] at h2
  rw [under_valid ha hc, decide_eq_true_eq]
  exact h2.trans h1
theorem under_same {a b : List UInt8} (ha : valid a = true) (hb : valid b = true) (h : same a b = true) : under a b = true := by
  rw [same_valid ha hb, decide_eq_true_eq] at h
  rw [under_valid ha hb, h]; simp
end Go.Proofs.YtnnoooecbbkggaaDoor.Nm
