/- Plain mathematics of names (no program in it): a name's labels, and that a name and its labels say the same. -/
import Derived.WalkKit
namespace Go.Proofs.YtnnoooecbbkggaaDoor.Nm

/-- The labels of what is written (however long it is), with fuel. -/
def labsF : Nat → List UInt8 → Option (List (List UInt8))
  | 0, _ => none
  | _ + 1, [] => none
  | f + 1, c :: r =>
    if c = 0 then (if r.isEmpty then some [] else none)
    else if 63 < c.toNat ∨ r.length < c.toNat then none
    else (labsF f (r.drop c.toNat)).map (fun l => r.take c.toNat :: l)

def labsU (n : List UInt8) : Option (List (List UInt8)) := labsF n.length n
def labs (n : List UInt8) : Option (List (List UInt8)) := if 255 < n.length then none else labsU n

theorem labsF_fuel : ∀ (f g : Nat) (n : List UInt8), n.length ≤ f → n.length ≤ g → labsF f n = labsF g n
  | 0, 0, _, _, _ => rfl
  | 0, g + 1, n, h, _ => by
    obtain rfl : n = [] := List.length_eq_zero_iff.1 (by omega)
    rfl
  | f + 1, 0, n, _, h => by
    obtain rfl : n = [] := List.length_eq_zero_iff.1 (by omega)
    rfl
  | f + 1, g + 1, [], _, _ => rfl
  | f + 1, g + 1, c :: r, h, h' => by
    simp only [List.length_cons] at h h'
    simp only [labsF]
    rw [labsF_fuel f g (r.drop c.toNat) (by simp; omega) (by simp; omega)]

theorem labsU_nil : labsU [] = none := rfl
theorem labsU_cons (c : UInt8) (r : List UInt8) : labsU (c :: r) =
    if c = 0 then (if r.isEmpty then some [] else none)
    else if 63 < c.toNat ∨ r.length < c.toNat then none
    else (labsU (r.drop c.toNat)).map (fun l => r.take c.toNat :: l) := by
  show labsF (r.length + 1) (c :: r) = _
  simp only [labsF, labsU]
  rw [labsF_fuel r.length (r.drop c.toNat).length _ (by simp) (Nat.le_refl _)]

/-- The name of labels. -/
def made : List (List UInt8) → List UInt8
  | [] => [0]
  | l :: ls => UInt8.ofNat l.length :: (l ++ made ls)
def good (ls : List (List UInt8)) : Prop := ∀ l ∈ ls, 1 ≤ l.length ∧ l.length ≤ 63

theorem ofNat_toNat {k : Nat} (h : k ≤ 63) : (UInt8.ofNat k).toNat = k := by
  simp; omega
theorem ofNat_ne {k : Nat} (h0 : 1 ≤ k) (h : k ≤ 63) : UInt8.ofNat k ≠ 0 := by
  intro e
  have := congrArg UInt8.toNat e
  rw [ofNat_toNat h] at this
  simp at this
  omega

theorem labsU_made : ∀ {ls : List (List UInt8)}, good ls → labsU (made ls) = some ls
  | [], _ => rfl
  | l :: ls, h => by
    obtain ⟨h1, h2⟩ := h l (by simp)
    rw [made, labsU_cons, if_neg (ofNat_ne h1 h2), ofNat_toNat h2, if_neg (by simp; omega)]
    have g : good ls := fun x hx => h x (List.mem_cons_of_mem _ hx)
    simp [labsU_made g]

theorem labsF_some : ∀ (f : Nat) {n : List UInt8} {ls : List (List UInt8)}, labsF f n = some ls → n = made ls ∧ good ls
  | 0, _, _, h => by cases h
  | f + 1, [], _, h => by cases h
  | f + 1, c :: r, ls, h => by
    simp only [labsF] at h
    split at h
    · rename_i hc
      split at h
      · rename_i hr
        cases h
        have : r = [] := by simpa using hr
        exact ⟨by rw [hc, this]; rfl, fun l hl => by cases hl⟩
      · cases h
    · rename_i hc
      split at h
      · cases h
      · rename_i hb
        obtain ⟨ls', h', rfl⟩ := Option.map_eq_some_iff.1 h
        obtain ⟨e, g⟩ := labsF_some f h'
        have hlen : (r.take c.toNat).length = c.toNat := by simp; omega
        have hc0 : c.toNat ≠ 0 := fun e0 => hc (by rw [← UInt8.toNat_inj]; simpa using e0)
        refine ⟨?_, ?_⟩
        · rw [made, hlen, ← e, List.take_append_drop]; simp
        · intro l hl
          rcases List.mem_cons.1 hl with rfl | hl
          · rw [hlen]; omega
          · exact g l hl

theorem labsU_iff {n : List UInt8} {ls : List (List UInt8)} : labsU n = some ls ↔ n = made ls ∧ good ls :=
  ⟨labsF_some _, fun ⟨e, g⟩ => e ▸ labsU_made g⟩
theorem labs_iff {n : List UInt8} {ls : List (List UInt8)} : labs n = some ls ↔ n = made ls ∧ good ls ∧ n.length ≤ 255 := by
  unfold labs
  split
  · rename_i h
    constructor
    · intro h; cases h
    · rintro ⟨_, _, h'⟩; omega
  · rename_i h
    rw [labsU_iff]
    constructor
    · rintro ⟨a, b⟩; exact ⟨a, b, by omega⟩
    · rintro ⟨a, b, _⟩; exact ⟨a, b⟩

def valid (n : List UInt8) : Bool := (labs n).isSome
def validU (n : List UInt8) : Bool := (labsU n).isSome

theorem validU_nil : validU [] = false := rfl
theorem validU_cons (c : UInt8) (r : List UInt8) : validU (c :: r) =
    if c = 0 then r.isEmpty
    else if 63 < c.toNat ∨ r.length < c.toNat then false
    else validU (r.drop c.toNat) := by
  unfold validU
  rw [labsU_cons]
  split
  · split <;> simp_all
  · split <;> simp

/-- Where a walk over a name stands: what is left decides. -/
def ValidAt (n : List UInt8) (k : Nat) : Prop := (k ≤ n.length → validU (n.drop k) = validU n) ∧ (n.length < k → validU n = false)
theorem validAt_zero (n : List UInt8) : ValidAt n 0 := ⟨fun _ => rfl, fun h => by omega⟩
theorem drop_cons {n : List UInt8} {k : Nat} (h : k < n.length) : n.drop k = n[k] :: n.drop (k + 1) := List.drop_eq_getElem_cons h
theorem valid_of_short {n : List UInt8} (h : ¬ 255 < n.length) : valid n = validU n := by simp [valid, validU, labs, h]
theorem ValidAt.stop {n : List UInt8} {k : Nat} (h : ValidAt n k) (hk : n.length ≤ k) : validU n = false := by
  by_cases e : k = n.length
  · have := h.1 (by omega)
    rw [← this, e, List.drop_length]; rfl
  · exact h.2 (by omega)
theorem ValidAt.zero {n : List UInt8} {k : Nat} (h : ValidAt n k) (hk : k < n.length) (h0 : n[k] = 0) : validU n = decide (k + 1 = n.length) := by
  rw [← h.1 (by omega), drop_cons hk, validU_cons, if_pos h0, Bool.eq_iff_iff]
  simp
  omega
theorem ValidAt.big {n : List UInt8} {k : Nat} (h : ValidAt n k) (hk : k < n.length) (h0 : 63 < n[k].toNat) : validU n = false := by
  rw [← h.1 (by omega), drop_cons hk, validU_cons, if_neg, if_pos (Or.inl h0)]
  intro e; rw [e] at h0; simp at h0
theorem ValidAt.step {n : List UInt8} {k : Nat} (h : ValidAt n k) (hk : k < n.length) (h0 : n[k] ≠ 0) (hb : ¬ 63 < n[k].toNat) : ValidAt n (k + (1 + n[k].toNat)) := by
  have e := h.1 (by omega)
  rw [drop_cons hk, validU_cons, if_neg h0] at e
  constructor
  · intro hl
    rw [if_neg (by simp; omega), List.drop_drop] at e
    rw [← e]
    congr 2
    omega
  · intro hl
    rw [if_pos (by simp; omega)] at e
    exact e.symm

/-! Letters made small, and how two are compared. -/
def small (c : UInt8) : UInt8 := if 65 ≤ c.toNat ∧ c.toNat ≤ 90 then c + 32 else c
theorem small_yes {c : UInt8} (h1 : 65 ≤ c.toNat) (h2 : c.toNat ≤ 90) : ((small c).toNat : Int) = (c.toNat : Int) + 32 := by
  unfold small
  rw [if_pos ⟨h1, h2⟩, UInt8.toNat_add]
  simp
  omega
theorem small_no {c : UInt8} (h : ¬ (65 ≤ c.toNat ∧ c.toNat ≤ 90)) : small c = c := by
  unfold small
  rw [if_neg h]
def cmpI (x y : Int) : Int := if x < y then -1 else if y < x then 1 else 0
theorem cmpI_lt {x y : Int} (h : x < y) : cmpI x y = -1 := if_pos h
theorem cmpI_gt {x y : Int} (h : y < x) : cmpI x y = 1 := by unfold cmpI; rw [if_neg (by omega), if_pos h]
theorem cmpI_eq {x y : Int} (h1 : ¬ x < y) (h2 : ¬ y < x) : cmpI x y = 0 := by unfold cmpI; rw [if_neg h1, if_neg h2]
theorem cmpI_self (x : Int) : cmpI x x = 0 := cmpI_eq (by omega) (by omega)
theorem cmpI_bounds (x y : Int) : -1 ≤ cmpI x y ∧ cmpI x y ≤ 1 := by unfold cmpI; split <;> (try split) <;> omega
theorem cmpI_zero {x y : Int} : cmpI x y = 0 ↔ x = y := by unfold cmpI; split <;> (try split) <;> constructor <;> intro h <;> omega
def cmpN : List UInt8 → List UInt8 → Int
  | [], [] => 0
  | [], _ :: _ => -1
  | _ :: _, [] => 1
  | a :: x, b :: y => if cmpI (small a).toNat (small b).toNat = 0 then cmpN x y else cmpI (small a).toNat (small b).toNat
theorem cmpN_bounds : ∀ (a b : List UInt8), -1 ≤ cmpN a b ∧ cmpN a b ≤ 1
  | [], [] => by simp [cmpN]
  | [], _ :: _ => by simp [cmpN]
  | _ :: _, [] => by simp [cmpN]
  | a :: x, b :: y => by
    unfold cmpN
    split
    · exact cmpN_bounds x y
    · exact cmpI_bounds _ _
/-- Where a comparison of two stands: what is left decides. -/
theorem cmpN_step {a b : List UInt8} {k : Nat} (ha : k < a.length) (hb : k < b.length) (h : cmpN (a.drop k) (b.drop k) = cmpN a b) :
    (cmpI (small a[k]).toNat (small b[k]).toNat = 0 → cmpN (a.drop (k + 1)) (b.drop (k + 1)) = cmpN a b) ∧ (cmpI (small a[k]).toNat (small b[k]).toNat ≠ 0 → cmpN a b = cmpI (small a[k]).toNat (small b[k]).toNat) := by
  rw [drop_cons ha, drop_cons hb, cmpN] at h
  constructor
  · intro e; rw [if_pos e] at h; exact h
  · intro e; rw [if_neg e] at h; exact h.symm
theorem cmpN_end {a b : List UInt8} {k : Nat} (hk : k = min a.length b.length) (h : cmpN (a.drop k) (b.drop k) = cmpN a b) : cmpN a b = cmpI a.length b.length := by
  rw [← h]
  by_cases e : a.length ≤ b.length
  · have e1 : a.drop k = [] := List.drop_of_length_le (by omega)
    rw [e1]
    by_cases e' : a.length = b.length
    · rw [List.drop_of_length_le (by omega : b.length ≤ k), e', cmpI_self]; rfl
    · rw [drop_cons (by omega : k < b.length), cmpI_lt (by omega)]; rfl
  · rw [List.drop_of_length_le (by omega : b.length ≤ k), drop_cons (by omega : k < a.length), cmpI_gt (by omega)]; rfl
def folded (n : List UInt8) : List UInt8 := n.map small
theorem cmpN_zero : ∀ {a b : List UInt8}, cmpN a b = 0 ↔ folded a = folded b
  | [], [] => by simp [cmpN, folded]
  | [], _ :: _ => by simp [cmpN, folded]
  | _ :: _, [] => by simp [cmpN, folded]
  | a :: x, b :: y => by
    unfold cmpN
    split
    · rename_i h
      rw [cmpI_zero] at h
      rw [cmpN_zero]
      have : small a = small b := by rw [← UInt8.toNat_inj]; omega
      simp [folded, this]
    · rename_i h
      constructor
      · intro e; exact absurd e h
      · intro e
        simp only [folded, List.map_cons, List.cons.injEq] at e
        exact absurd (by rw [cmpI_zero, e.1]) h

def same (a b : List UInt8) : Bool := valid a && valid b && folded a == folded b
theorem folded_length (n : List UInt8) : (folded n).length = n.length := by simp [folded]
theorem same_len {a b : List UInt8} (h : a.length ≠ b.length) : same a b = false := by
  have : folded a ≠ folded b := fun e => h (by rw [← folded_length a, e, folded_length])
  simp [same, this]

end Go.Proofs.YtnnoooecbbkggaaDoor.Nm
