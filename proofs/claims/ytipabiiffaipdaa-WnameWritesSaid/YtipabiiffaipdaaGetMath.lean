/- Plain mathematics of names within messages: where labels end, pointers, the name that begins at a place. -/
import Derived.Test.YtipabiiffaipdaaCommonMath
namespace Go.Proofs.Ytipabiiffaipdaa.Wn

/-- The place of what ends the labels from k on, with fuel: a 0, or a pointer's first byte. -/
def eolF (b : List UInt8) : Nat → Nat → Option Nat
  | 0, _ => none
  | f + 1, k => match b[k]? with
    | none => none
    | some c => if c.toNat = 0 ∨ 192 ≤ c.toNat then some k else if 63 < c.toNat then none else eolF b f (k + (1 + c.toNat))
theorem eolF_fuel (b : List UInt8) : ∀ (f g k : Nat), b.length < f + k → b.length < g + k → eolF b f k = eolF b g k
  | 0, 0, _, _, _ => rfl
  | 0, g + 1, k, h, _ => by simp [eolF, List.getElem?_eq_none (show b.length ≤ k by omega)]
  | f + 1, 0, k, _, h => by simp [eolF, List.getElem?_eq_none (show b.length ≤ k by omega)]
  | f + 1, g + 1, k, h, h' => by
    simp only [eolF]
    split
    · rfl
    · rw [eolF_fuel b f g _ (by omega) (by omega)]
def eol (b : List UInt8) (k : Nat) : Option Nat := eolF b (b.length + 1) k
theorem eol_none {b : List UInt8} {k : Nat} (h : b.length ≤ k) : eol b k = none := by
  simp [eol, eolF, List.getElem?_eq_none h]
theorem eol_at {b : List UInt8} {k : Nat} (h : k < b.length) : eol b k = if b[k].toNat = 0 ∨ 192 ≤ b[k].toNat then some k else if 63 < b[k].toNat then none else eol b (k + (1 + b[k].toNat)) := by
  unfold eol
  conv => lhs; rw [eolF]
  rw [List.getElem?_eq_getElem h]
  show (if _ then _ else _) = _
  split
  · rfl
  · split
    · rfl
    · exact eolF_fuel b _ _ _ (by omega) (by omega)
theorem eol_end {b : List UInt8} {k : Nat} (h : k < b.length) (hc : b[k].toNat = 0 ∨ 192 ≤ b[k].toNat) : eol b k = some k := by rw [eol_at h, if_pos hc]
theorem eol_bad {b : List UInt8} {k : Nat} (h : k < b.length) (h1 : 63 < b[k].toNat) (h2 : b[k].toNat < 192) : eol b k = none := by
  rw [eol_at h, if_neg (by omega), if_pos h1]
theorem eol_step {b : List UInt8} {k : Nat} (h : k < b.length) (h0 : b[k].toNat ≠ 0) (h1 : b[k].toNat ≤ 63) : eol b k = eol b (k + (1 + b[k].toNat)) := by
  rw [eol_at h, if_neg (by omega), if_neg (by omega)]
theorem eolF_some (b : List UInt8) : ∀ (f k : Nat) {e : Nat}, eolF b f k = some e → k ≤ e ∧ ∃ h : e < b.length, (b[e].toNat = 0 ∨ 192 ≤ b[e].toNat)
  | 0, _, _, h => by cases h
  | f + 1, k, e, h => by
    simp only [eolF] at h
    split at h
    · cases h
    · rename_i c hc
      obtain ⟨hk, rfl⟩ := List.getElem?_eq_some_iff.1 hc
      split at h
      · rename_i h1
        cases h
        exact ⟨Nat.le_refl _, hk, h1⟩
      · split at h
        · cases h
        · have := eolF_some b f _ h
          exact ⟨by omega, this.2⟩
theorem eol_some {b : List UInt8} {k e : Nat} (h : eol b k = some e) : k ≤ e ∧ ∃ h : e < b.length, (b[e].toNat = 0 ∨ 192 ≤ b[e].toNat) := eolF_some b _ _ h

/-- The place to which the pointer at k goes. -/
def ptr (b : List UInt8) (k : Nat) : Option Nat := match b[k]?, b[k + 1]? with
  | some c, some d => some ((c.toNat - 192) * 256 + d.toNat)
  | _, _ => none
theorem ptr_none {b : List UInt8} {k : Nat} (h : b.length ≤ k + 1) : ptr b k = none := by
  unfold ptr
  rw [List.getElem?_eq_none h]
  cases b[k]? <;> rfl
theorem ptr_some {b : List UInt8} {k : Nat} (h : k + 1 < b.length) : ptr b k = some ((b[k].toNat - 192) * 256 + b[k + 1].toNat) := by
  unfold ptr
  rw [List.getElem?_eq_getElem h, List.getElem?_eq_getElem (show k < b.length by omega)]

/-- What stands from a place to another. -/
def part (b : List UInt8) (p e : Nat) : List UInt8 := (b.drop p).take (e - p)
theorem part_length {b : List UInt8} {p e : Nat} (h : e ≤ b.length) : (part b p e).length = e - p := by
  unfold part; rw [List.length_take, List.length_drop]; omega

/-- The name that begins at p, however long it is, and where it ends. -/
def getF (b : List UInt8) : Nat → Nat → Option (List UInt8 × Nat)
  | 0, _ => none
  | f + 1, p => match eol b p with
    | none => none
    | some e => if b[e]?.getD 0 = 0 then some (part b p e ++ [0], e + 1) else match ptr b e with
      | none => none
      | some t => if t < p then (getF b f t).map (fun r => (part b p e ++ r.1, e + 2)) else none
theorem getF_fuel (b : List UInt8) : ∀ (f g p : Nat), p < f → p < g → getF b f p = getF b g p
  | 0, _, _, h, _ => by omega
  | _, 0, _, _, h => by omega
  | f + 1, g + 1, p, h, h' => by
    simp only [getF]
    split
    · rfl
    · split
      · rfl
      · split
        · rfl
        · split
          · rw [getF_fuel b f g _ (by omega) (by omega)]
          · rfl
def getU (b : List UInt8) (p : Nat) : Option (List UInt8 × Nat) := getF b (p + 1) p
theorem getU_none {b : List UInt8} {p : Nat} (h : eol b p = none) : getU b p = none := by unfold getU; rw [getF, h]
theorem getU_zero {b : List UInt8} {p e : Nat} (h : eol b p = some e) (he : e < b.length) (h0 : b[e] = 0) : getU b p = some (part b p e ++ [0], e + 1) := by
  unfold getU
  rw [getF, h]
  simp only
  rw [List.getElem?_eq_getElem he, Option.getD_some, if_pos h0]
theorem getU_ptr {b : List UInt8} {p e : Nat} (h : eol b p = some e) (he : e < b.length) (h0 : b[e] ≠ 0) : getU b p = match ptr b e with
    | none => none
    | some t => if t < p then (getU b t).map (fun r => (part b p e ++ r.1, e + 2)) else none := by
  unfold getU
  rw [getF, h]
  simp only
  rw [List.getElem?_eq_getElem he, Option.getD_some, if_neg h0]
  cases ptr b e with
  | none => rfl
  | some t =>
    simp only
    split
    · rw [getF_fuel b p (t + 1) t (by omega) (by omega)]
    · rfl

/-- What was read, and what is read behind it. -/
def fin (read : List UInt8) (nx : Nat) : Option (List UInt8 × Nat) → Option (List UInt8 × Nat)
  | none => none
  | some (n, k) => if (read ++ n).length ≤ 255 then some (read ++ n, if nx = 0 then k else nx) else none
theorem fin_yes {read n : List UInt8} {nx k : Nat} (h : (read ++ n).length ≤ 255) : fin read nx (some (n, k)) = some (read ++ n, if nx = 0 then k else nx) := if_pos h
theorem fin_no {read n : List UInt8} {nx k : Nat} (h : ¬ (read ++ n).length ≤ 255) : fin read nx (some (n, k)) = none := if_neg h
def get (b : List UInt8) (z : Int) : Option (List UInt8 × Nat) := if z < 0 then none else fin [] 0 (getU b z.toNat)
theorem get_neg {b : List UInt8} {z : Int} (h : z < 0) : get b z = none := if_pos h
theorem get_nat (b : List UInt8) (p : Nat) : get b (p : Int) = fin [] 0 (getU b p) := by
  unfold get
  rw [if_neg (by omega)]
  rfl
theorem fin_long {read : List UInt8} {nx : Nat} {b : List UInt8} {p e : Nat} (h : eol b p = some e) (hl : 255 ≤ read.length + (e - p)) : fin read nx (getU b p) = none := by
  obtain ⟨h1, he, _⟩ := eol_some h
  have hp : (part b p e).length = e - p := part_length (by omega)
  by_cases h0 : b[e] = 0
  · rw [getU_zero h he h0]
    exact fin_no (by simp only [List.length_append, List.length_singleton]; omega)
  · rw [getU_ptr h he h0]
    cases ptr b e with
    | none => rfl
    | some t =>
      simp only
      split
      · cases hg : getU b t with
        | none => rfl
        | some r =>
          have hr : 1 ≤ r.1.length := by
            unfold getU getF at hg
            split at hg
            · cases hg
            · split at hg
              · cases hg; simp
              · split at hg
                · cases hg
                · split at hg
                  · obtain ⟨r', h', rfl⟩ := Option.map_eq_some_iff.1 hg
                    have : 1 ≤ r'.1.length := getF_pos b _ _ h'
                    simp only [List.length_append]; omega
                  · cases hg
          exact fin_no (by simp only [List.length_append]; omega)
      · rfl
where
  getF_pos (b : List UInt8) : ∀ (f p : Nat) {r : List UInt8 × Nat}, getF b f p = some r → 1 ≤ r.1.length
    | 0, _, _, h => by cases h
    | f + 1, p, r, h => by
      simp only [getF] at h
      split at h
      · cases h
      · split at h
        · cases h; simp
        · split at h
          · cases h
          · split at h
            · obtain ⟨r', h', rfl⟩ := Option.map_eq_some_iff.1 h
              have := getF_pos b f _ h'
              simp only [List.length_append]; omega
            · cases h
theorem fin_zero {read : List UInt8} {nx : Nat} {b : List UInt8} {p e : Nat} (h : eol b p = some e) (he : e < b.length) (h0 : b[e] = 0) (hl : ¬ 255 ≤ read.length + (e - p)) :
    fin read nx (getU b p) = some (read ++ part b p e ++ [0], if nx = 0 then e + 1 else nx) := by
  have hp : (part b p e).length = e - p := part_length (by omega)
  rw [getU_zero h he h0, fin_yes (by simp only [List.length_append, List.length_singleton]; omega), List.append_assoc]
theorem fin_noptr {read : List UInt8} {nx : Nat} {b : List UInt8} {p e : Nat} (h : eol b p = some e) (he : e < b.length) (h0 : b[e] ≠ 0) (hp : ptr b e = none) : fin read nx (getU b p) = none := by
  rw [getU_ptr h he h0, hp]; rfl
theorem fin_ahead {read : List UInt8} {nx : Nat} {b : List UInt8} {p e t : Nat} (h : eol b p = some e) (he : e < b.length) (h0 : b[e] ≠ 0) (hp : ptr b e = some t) (ht : p ≤ t) : fin read nx (getU b p) = none := by
  rw [getU_ptr h he h0, hp]
  simp only
  rw [if_neg (by omega)]; rfl
theorem fin_step {read : List UInt8} {nx : Nat} {b : List UInt8} {p e t : Nat} (h : eol b p = some e) (he : e < b.length) (h0 : b[e] ≠ 0) (hp : ptr b e = some t) (ht : t < p) :
    fin read nx (getU b p) = fin (read ++ part b p e) (if nx = 0 then e + 2 else nx) (getU b t) := by
  rw [getU_ptr h he h0, hp]
  simp only
  rw [if_pos ht]
  cases getU b t with
  | none => rfl
  | some r =>
    simp only [Option.map_some, fin, List.append_assoc]
    by_cases hn : nx = 0
    · simp [hn]
    · simp [hn]
end Go.Proofs.Ytipabiiffaipdaa.Wn
