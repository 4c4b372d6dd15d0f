/- Data that is put together of names: where the names stand. -/
import Derived.Test.YtnnoooecbbkggaaDoorRTarget
namespace Go.Proofs.YtnnoooecbbkggaaDoor.Rd
open Go.Proofs.YtnnoooecbbkggaaDoor.Nm

theorem prefix_free : ∀ (f : Nat) (a b : List UInt8), a.length ≤ f → validU a = true → validU (a ++ b) = true → b = []
  | 0, a, b, h, ha, _ => by
    obtain rfl := List.length_eq_zero_iff.1 (Nat.le_zero.1 h)
    rw [validU_nil] at ha; cases ha
  | f + 1, [], b, _, ha, _ => by rw [validU_nil] at ha; cases ha
  | f + 1, c :: r, b, h, ha, hb => by
    rw [validU_cons] at ha
    rw [List.cons_append, validU_cons] at hb
    by_cases h0 : c = 0
    · rw [if_pos h0] at ha hb
      have h1 : r = [] := by simpa using ha
      subst h1
      simpa using hb
    · rw [if_neg h0] at ha hb
      by_cases h1 : 63 < c.toNat ∨ r.length < c.toNat
      · rw [if_pos h1] at ha; cases ha
      · rw [if_neg h1] at ha
        rw [if_neg (by rw [List.length_append]; omega), List.drop_append_of_le_length (by omega)] at hb
        exact prefix_free f (r.drop c.toNat) b (by rw [List.length_drop]; simp at h; omega) ha hb
theorem valid_U {l : List UInt8} (h : valid l = true) : validU l = true := by
  have := valid_len h
  rw [← valid_of_short (by omega)]; exact h
theorem nsz_valid {l : List UInt8} (h : valid l = true) : nsz l = l.length := by
  rcases nsz_cases l with ⟨_, hn⟩ | ⟨k, hk, hlt, hv, _, _⟩
  · have hl : 0 < l.length := by
      cases l with
      | nil => have := valid_U h; rw [validU_nil] at this; cases this
      | cons => simp
    have := hn (l.length - 1) (by omega)
    rw [show l.length - 1 + 1 = l.length by omega, List.take_length, h] at this
    cases this
  · have h1 := prefix_free _ (l.take (k + 1)) (l.drop (k + 1)) (Nat.le_refl _) (valid_U hv) (by rw [List.take_append_drop]; exact valid_U h)
    have := List.drop_eq_nil_iff.1 h1
    omega
theorem nsz_append {l r : List UInt8} (h : nsz l ≠ 0) : nsz (l ++ r) = nsz l := by
  rcases nsz_cases l with ⟨h0, _⟩ | ⟨k, hk, hlt, hv, _, hj⟩
  · exact absurd h0 h
  · rw [hk]
    refine nsz_some (by rw [List.length_append]; omega) (by rw [List.take_append_of_le_length (by omega)]; exact hv) (fun j hjk => ?_)
    rw [List.take_append_of_le_length (by omega)]
    exact hj j hjk
theorem nsz_take {l : List UInt8} (c : Nat) (h : nsz l ≠ 0) : nsz (l.take c) = if nsz l ≤ c then nsz l else 0 := by
  rcases nsz_cases l with ⟨h0, _⟩ | ⟨k, hk, hlt, hv, _, hj⟩
  · exact absurd h0 h
  · rw [hk]
    split
    · rename_i hc
      refine nsz_some (by rw [List.length_take]; omega) (by rw [List.take_take, Nat.min_eq_left (by omega)]; exact hv) (fun j hjk => ?_)
      rw [List.take_take, Nat.min_eq_left (by omega)]
      exact hj j hjk
    · rename_i hc
      refine nsz_none (fun j hjc => ?_)
      rw [List.length_take] at hjc
      rw [List.take_take, Nat.min_eq_left (by omega)]
      exact hj j (by omega)
theorem run_append {r : List UInt8} : ∀ (n a : Nat) {d : List UInt8} {ps : List (Nat × Nat)} {e : Nat}, a ≤ d.length → run d n a = some (ps, e) → run (d ++ r) n a = some (ps, e)
  | 0, a, d, ps, e, _, h => h
  | n + 1, a, d, ps, e, ha, h => by
    unfold run at h ⊢
    have hz : nsz (d.drop a) ≠ 0 := fun hz => by rw [if_pos hz] at h; cases h
    rw [if_neg hz] at h
    have hap : nsz ((d ++ r).drop a) = nsz (d.drop a) := by rw [List.drop_append_of_le_length ha, nsz_append hz]
    rw [hap, if_neg hz]
    cases hr : run d n (a + nsz (d.drop a)) with
    | none => rw [hr] at h; cases h
    | some x =>
      obtain ⟨ps', e'⟩ := x
      rw [run_append n _ (by have := (nsz_le (d.drop a)).1; rw [List.length_drop] at this; omega) hr]
      rw [hr] at h
      exact h
theorem run_take {c : Nat} : ∀ (n a : Nat) {d : List UInt8} {ps : List (Nat × Nat)} {e : Nat}, run d n a = some (ps, e) → (∃ ps', run (d.take c) n a = some (ps', e) ∧ (n = 0 ∨ e ≤ c)) ∨ run (d.take c) n a = none
  | 0, a, d, ps, e, h => by
    unfold run at h ⊢
    obtain ⟨rfl, rfl⟩ : [] = ps ∧ a = e := by simpa using h
    exact .inl ⟨_, rfl, .inl rfl⟩
  | n + 1, a, d, ps, e, h => by
    unfold run at h ⊢
    have hz : nsz (d.drop a) ≠ 0 := fun hz => by rw [if_pos hz] at h; cases h
    rw [if_neg hz] at h
    rw [List.drop_take, nsz_take _ hz]
    by_cases hc : nsz (d.drop a) ≤ c - a
    · rw [if_pos hc, if_neg hz]
      cases hr : run d n (a + nsz (d.drop a)) with
      | none => rw [hr] at h; cases h
      | some x =>
        obtain ⟨ps', e'⟩ := x
        rw [hr] at h
        obtain ⟨rfl, rfl⟩ : _ ∧ e' = e := by simpa using h
        rcases run_take (c := c) n _ hr with ⟨ps2, h2, h3⟩ | h2
        · rw [h2]
          refine .inl ⟨_, rfl, .inr ?_⟩
          rcases h3 with rfl | h3
          · unfold run at hr
            obtain ⟨rfl, rfl⟩ : [] = ps' ∧ a + nsz (d.drop a) = e' := by simpa using hr
            omega
          · exact h3
        · rw [h2]; exact .inr rfl
    · rw [if_neg hc, if_pos rfl]; exact .inr rfl
/-- Data of a form: a byte more, or less, and it is none. -/
theorem parts_form {t : Int} {d : List UInt8} {a n b : Nat} {ps : List (Nat × Nat)} (h16 : t ≠ 16) (hl : lay t = some (a, n, b)) (hd : d.length ≤ 1000) (he : run d n a = some (ps, d.length - b)) (hb : b ≤ d.length) : parts t d = some ps := by
  unfold parts
  rw [if_neg (by omega), if_neg h16, hl]
  simp only [he]
  rw [if_pos (by omega)]
theorem dataOk_form {t : Int} {d : List UInt8} {ps : List (Nat × Nat)} (h : parts t d = some ps) : dataOk t d = true ∧ partsD t d = ps := partsD_some h
theorem dataOk_off {t : Int} {d : List UInt8} {a n b : Nat} (h16 : t ≠ 16) (hl : lay t = some (a, n, b)) (h : ∀ ps e, run d n a = some (ps, e) → e + b ≠ d.length) : dataOk t d = false := by
  unfold dataOk parts
  by_cases hlen : 1000 < d.length
  · rw [if_pos hlen]; rfl
  · rw [if_neg hlen, if_neg h16, hl]
    simp only
    cases hr : run d n a with
    | none => rfl
    | some x =>
      obtain ⟨ps, e⟩ := x
      simp only
      rw [if_neg (h ps e hr)]; rfl
theorem more_off {t : Int} {d : List UInt8} {a n b : Nat} {ps : List (Nat × Nat)} (h16 : t ≠ 16) (hl : lay t = some (a, n, b)) (ha : a ≤ d.length) (hb : b ≤ d.length) (he : run d n a = some (ps, d.length - b)) (x : UInt8) : dataOk t (d ++ [x]) = false := by
  refine dataOk_off h16 hl (fun ps' e' h => ?_)
  rw [run_append n a ha he] at h
  obtain ⟨rfl, rfl⟩ : ps = ps' ∧ d.length - b = e' := by simpa using h
  simp
  omega
theorem less_off {t : Int} {d : List UInt8} {a n b c : Nat} {ps : List (Nat × Nat)} (h16 : t ≠ 16) (hl : lay t = some (a, n, b)) (hb : b ≤ d.length) (he : run d n a = some (ps, d.length - b)) (hc : c < d.length) : dataOk t (d.take c) = false := by
  refine dataOk_off h16 hl (fun ps' e' h => ?_)
  rcases run_take (c := c) n a he with ⟨ps2, h2, _⟩ | h2
  · rw [h2] at h
    obtain ⟨_, rfl⟩ : ps2 = ps' ∧ d.length - b = e' := by simpa using h
    rw [List.length_take]
    omega
  · rw [h2] at h; cases h

/-! The forms. -/
theorem ne_nil_of_valid {l : List UInt8} (h : valid l = true) : l.length ≠ 0 := fun e => by
  obtain rfl := List.length_eq_zero_iff.1 e
  have := valid_U h; rw [validU_nil] at this; cases this
theorem run_one {q l r : List UInt8} (h : valid l = true) : run (q ++ l ++ r) 1 q.length = some ([(q.length, l.length)], q.length + l.length) := by
  have h1 : nsz ((q ++ l ++ r).drop q.length) = l.length := by
    rw [List.append_assoc, List.drop_left]
    rw [nsz_append (by rw [nsz_valid h]; exact ne_nil_of_valid h), nsz_valid h]
  unfold run
  rw [h1, if_neg (ne_nil_of_valid h)]
  rfl
theorem run_two {l m r : List UInt8} (h : valid l = true) (h' : valid m = true) : run (l ++ m ++ r) 2 0 = some ([(0, l.length), (l.length, m.length)], l.length + m.length) := by
  have h1 : nsz ((l ++ m ++ r).drop 0) = l.length := by
    rw [List.drop_zero, List.append_assoc]
    rw [nsz_append (by rw [nsz_valid h]; exact ne_nil_of_valid h), nsz_valid h]
  have h2 := run_one (q := l) (l := m) (r := r) h'
  unfold run
  rw [h1, if_neg (ne_nil_of_valid h), Nat.zero_add, h2]
  rfl
theorem parts_name {t : Int} {l : List UInt8} (ht : t = 2 ∨ t = 5 ∨ t = 12) (h : valid l = true) : parts t l = some [(0, l.length)] := by
  have h1 := run_one (q := []) (l := l) (r := []) h
  rw [List.append_nil, List.nil_append] at h1
  refine parts_form (a := 0) (n := 1) (b := 0) (by omega) (by rcases ht with rfl | rfl | rfl <;> rfl) (by have := valid_len h; omega) (by simpa using h1) (by omega)
theorem parts_mx {l : List UInt8} (x y : UInt8) (h : valid l = true) : parts 15 (x :: y :: l) = some [(2, l.length)] := by
  have h1 := run_one (q := [x, y]) (l := l) (r := []) h
  rw [List.append_nil] at h1
  refine parts_form (a := 2) (n := 1) (b := 0) (by omega) rfl (by have := valid_len h; simp; omega) ?_ (by omega)
  have e : ([x, y] ++ l).length - 0 = [x, y].length + l.length := by simp; omega
  exact (show run ([x, y] ++ l) 1 2 = some ([(2, l.length)], ([x, y] ++ l).length - 0) from by rw [e]; exact h1)
theorem parts_soa {l m r : List UInt8} (h : valid l = true) (h' : valid m = true) (hr : r.length = 20) : parts 6 (l ++ m ++ r) = some [(0, l.length), (l.length, m.length)] := by
  have h1 := run_two (r := r) h h'
  have e : (l ++ m ++ r).length - 20 = l.length + m.length := by simp; omega
  exact parts_form (a := 0) (n := 2) (b := 20) (by omega) rfl (by have := valid_len h; have := valid_len h'; simp; omega) (by rw [e]; exact h1) (by simp; omega)

theorem four_len (x : Int) : (four x).length = 4 := rfl
theorem number_four {x : Int} (h0 : 0 ≤ x) (h1 : x < 4294967296) : (number (four x) : Int) = x := by
  simp only [number, four, num4, List.getD_cons_zero, List.getD_cons_succ, UInt8.toNat_ofNat']
  omega
end Go.Proofs.YtnnoooecbbkggaaDoor.Rd
