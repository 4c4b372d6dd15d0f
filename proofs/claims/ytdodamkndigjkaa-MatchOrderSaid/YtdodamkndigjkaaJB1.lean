/- 2 texts put together: Math, WalkMath. -/
import Derived.WalkKit
/- Plain mathematics of names (no program in it): a name's labels, and that a name and its labels say the same. -/
namespace Go.Proofs.Ytdodamkndigjkaa.Nm

/-- The labels of what is written (however long it is), with fuel. -/
def labsF : Nat → List UInt8 → Option (List (List UInt8))
  | 0, _ => none
  | _ + 1, [] => none
  | f + 1, c :: r =>
    if c = 0 then (if r.isEmpty then some [] else none)
    else if 63 < c.toNat ∨ r.length < c.toNat then none
    else (labsF f (r.drop c.toNat)).map (fun l => r.take c.toNat :: l)

def labsU (n : List UInt8) : Option (List (List UInt8)) := labsF n.length n
def labs (n : List UInt8) : Option (List (List UInt8)) := if 255 < n.length then none else labsU n

theorem labsF_fuel : ∀ (f g : Nat) (n : List UInt8), n.length ≤ f → n.length ≤ g → labsF f n = labsF g n
  | 0, 0, _, _, _ => rfl
  | 0, g + 1, n, h, _ => by
    obtain rfl : n = [] := List.length_eq_zero_iff.1 (by omega)
    rfl
  | f + 1, 0, n, _, h => by
    obtain rfl : n = [] := List.length_eq_zero_iff.1 (by omega)
    rfl
  | f + 1, g + 1, [], _, _ => rfl
  | f + 1, g + 1, c :: r, h, h' => by
    simp only [List.length_cons] at h h'
    simp only [labsF]
    rw [labsF_fuel f g (r.drop c.toNat) (by simp; omega) (by simp; omega)]

theorem labsU_nil : labsU [] = none := rfl
theorem labsU_cons (c : UInt8) (r : List UInt8) : labsU (c :: r) =
    if c = 0 then (if r.isEmpty then some [] else none)
    else if 63 < c.toNat ∨ r.length < c.toNat then none
    else (labsU (r.drop c.toNat)).map (fun l => r.take c.toNat :: l) := by
  show labsF (r.length + 1) (c :: r) = _
  simp only [labsF, labsU]
  rw [labsF_fuel r.length (r.drop c.toNat).length _ (by simp) (Nat.le_refl _)]

/-- The name of labels. -/
def made : List (List UInt8) → List UInt8
  | [] => [0]
  | l :: ls => UInt8.ofNat l.length :: (l ++ made ls)
def good (ls : List (List UInt8)) : Prop := ∀ l ∈ ls, 1 ≤ l.length ∧ l.length ≤ 63

theorem ofNat_toNat {k : Nat} (h : k ≤ 63) : (UInt8.ofNat k).toNat = k := by
  simp; omega
theorem ofNat_ne {k : Nat} (h0 : 1 ≤ k) (h : k ≤ 63) : UInt8.ofNat k ≠ 0 := by
  intro e
  have := congrArg UInt8.toNat e
  rw [ofNat_toNat h] at this
  simp at this
  omega

theorem labsU_made : ∀ {ls : List (List UInt8)}, good ls → labsU (made ls) = some ls
  | [], _ => rfl
  | l :: ls, h => by
    obtain ⟨h1, h2⟩ := h l (by simp)
    rw [made, labsU_cons, if_neg (ofNat_ne h1 h2), ofNat_toNat h2, if_neg (by simp; omega)]
    have g : good ls := fun x hx => h x (List.mem_cons_of_mem _ hx)
    simp [labsU_made g]

theorem labsF_some : ∀ (f : Nat) {n : List UInt8} {ls : List (List UInt8)}, labsF f n = some ls → n = made ls ∧ good ls
  | 0, _, _, h => by cases h
  | f + 1, [], _, h => by cases h
  | f + 1, c :: r, ls, h => by
    simp only [labsF] at h
    split at h
    · rename_i hc
      split at h
      · rename_i hr
        cases h
        have : r = [] := by simpa using hr
        exact ⟨by rw [hc, this]; rfl, fun l hl => by cases hl⟩
      · cases h
    · rename_i hc
      split at h
      · cases h
      · rename_i hb
        obtain ⟨ls', h', rfl⟩ := Option.map_eq_some_iff.1 h
        obtain ⟨e, g⟩ := labsF_some f h'
        have hlen : (r.take c.toNat).length = c.toNat := by simp; omega
        have hc0 : c.toNat ≠ 0 := fun e0 => hc (by rw [← UInt8.toNat_inj]; simpa using e0)
        refine ⟨?_, ?_⟩
        · rw [made, hlen, ← e, List.take_append_drop]; simp
        · intro l hl
          rcases List.mem_cons.1 hl with rfl | hl
          · rw [hlen]; omega
          · exact g l hl

theorem labsU_iff {n : List UInt8} {ls : List (List UInt8)} : labsU n = some ls ↔ n = made ls ∧ good ls :=
  ⟨labsF_some _, fun ⟨e, g⟩ => e ▸ labsU_made g⟩
theorem labs_iff {n : List UInt8} {ls : List (List UInt8)} : labs n = some ls ↔ n = made ls ∧ good ls ∧ n.length ≤ 255 := by
  unfold labs
  split
  · rename_i h
    constructor
    · intro h; cases h
    · rintro ⟨_, _, h'⟩; omega
  · rename_i h
    rw [labsU_iff]
    constructor
    · rintro ⟨a, b⟩; exact ⟨a, b, by omega⟩
    · rintro ⟨a, b, _⟩; exact ⟨a, b⟩

def valid (n : List UInt8) : Bool := (labs n).isSome
def validU (n : List UInt8) : Bool := (labsU n).isSome

theorem validU_nil : validU [] = false := rfl
theorem validU_cons (c : UInt8) (r : List UInt8) : validU (c :: r) =
    if c = 0 then r.isEmpty
    else if 63 < c.toNat ∨ r.length < c.toNat then false
    else validU (r.drop c.toNat) := by
  unfold validU
  rw [labsU_cons]
  split
  · split <;> simp_all
  · split <;> simp

/-- Where a walk over a name stands: what is left decides. -/
def ValidAt (n : List UInt8) (k : Nat) : Prop := (k ≤ n.length → validU (n.drop k) = validU n) ∧ (n.length < k → validU n = false)
theorem validAt_zero (n : List UInt8) : ValidAt n 0 := ⟨fun _ => rfl, fun h => by omega⟩
theorem drop_cons {n : List UInt8} {k : Nat} (h : k < n.length) : n.drop k = n[k] :: n.drop (k + 1) := List.drop_eq_getElem_cons h
theorem valid_of_short {n : List UInt8} (h : ¬ 255 < n.length) : valid n = validU n := by simp [valid, validU, labs, h]
theorem ValidAt.stop {n : List UInt8} {k : Nat} (h : ValidAt n k) (hk : n.length ≤ k) : validU n = false := by
  by_cases e : k = n.length
  · have := h.1 (by omega)
    rw [← this, e, List.drop_length]; rfl
  · exact h.2 (by omega)
theorem ValidAt.zero {n : List UInt8} {k : Nat} (h : ValidAt n k) (hk : k < n.length) (h0 : n[k] = 0) : validU n = decide (k + 1 = n.length) := by
  rw [← h.1 (by omega), drop_cons hk, validU_cons, if_pos h0, Bool.eq_iff_iff]
  simp
  omega
theorem ValidAt.big {n : List UInt8} {k : Nat} (h : ValidAt n k) (hk : k < n.length) (h0 : 63 < n[k].toNat) : validU n = false := by
  rw [← h.1 (by omega), drop_cons hk, validU_cons, if_neg, if_pos (Or.inl h0)]
  intro e; rw [e] at h0; simp at h0
theorem ValidAt.step {n : List UInt8} {k : Nat} (h : ValidAt n k) (hk : k < n.length) (h0 : n[k] ≠ 0) (hb : ¬ 63 < n[k].toNat) : ValidAt n (k + (1 + n[k].toNat)) := by
  have e := h.1 (by omega)
  rw [drop_cons hk, validU_cons, if_neg h0] at e
  constructor
  · intro hl
    rw [if_neg (by simp; omega), List.drop_drop] at e
    rw [← e]
    congr 2
    omega
  · intro hl
    rw [if_pos (by simp; omega)] at e
    exact e.symm

/-! Letters made small, and how two are compared. -/
def small (c : UInt8) : UInt8 := if 65 ≤ c.toNat ∧ c.toNat ≤ 90 then c + 32 else c
theorem small_yes {c : UInt8} (h1 : 65 ≤ c.toNat) (h2 : c.toNat ≤ 90) : ((small c).toNat : Int) = (c.toNat : Int) + 32 := by
  unfold small
  rw [if_pos ⟨h1, h2⟩, UInt8.toNat_add]
  simp
  omega
theorem small_no {c : UInt8} (h : ¬ (65 ≤ c.toNat ∧ c.toNat ≤ 90)) : small c = c := by
  unfold small
  rw [if_neg h]
def cmpI (x y : Int) : Int := if x < y then -1 else if y < x then 1 else 0
theorem cmpI_lt {x y : Int} (h : x < y) : cmpI x y = -1 := if_pos h
theorem cmpI_gt {x y : Int} (h : y < x) : cmpI x y = 1 := by unfold cmpI; rw [if_neg (by omega), if_pos h]
theorem cmpI_eq {x y : Int} (h1 : ¬ x < y) (h2 : ¬ y < x) : cmpI x y = 0 := by unfold cmpI; rw [if_neg h1, if_neg h2]
theorem cmpI_self (x : Int) : cmpI x x = 0 := cmpI_eq (by omega) (by omega)
theorem cmpI_bounds (x y : Int) : -1 ≤ cmpI x y ∧ cmpI x y ≤ 1 := by unfold cmpI; split <;> (try split) <;> omega
theorem cmpI_zero {x y : Int} : cmpI x y = 0 ↔ x = y := by unfold cmpI; split <;> (try split) <;> constructor <;> intro h <;> omega
def cmpN : List UInt8 → List UInt8 → Int
  | [], [] => 0
  | [], _ :: _ => -1
  | _ :: _, [] => 1
  | a :: x, b :: y => if cmpI (small a).toNat (small b).toNat = 0 then cmpN x y else cmpI (small a).toNat (small b).toNat
theorem cmpN_bounds : ∀ (a b : List UInt8), -1 ≤ cmpN a b ∧ cmpN a b ≤ 1
  | [], [] => by simp [cmpN]
  | [], _ :: _ => by simp [cmpN]
  | _ :: _, [] => by simp [cmpN]
  | a :: x, b :: y => by
    unfold cmpN
    split
    · exact cmpN_bounds x y
    · exact cmpI_bounds _ _
/-- Where a comparison of two stands: what is left decides. -/
theorem cmpN_step {a b : List UInt8} {k : Nat} (ha : k < a.length) (hb : k < b.length) (h : cmpN (a.drop k) (b.drop k) = cmpN a b) :
    (cmpI (small a[k]).toNat (small b[k]).toNat = 0 → cmpN (a.drop (k + 1)) (b.drop (k + 1)) = cmpN a b) ∧ (cmpI (small a[k]).toNat (small b[k]).toNat ≠ 0 → cmpN a b = cmpI (small a[k]).toNat (small b[k]).toNat) := by
  rw [drop_cons ha, drop_cons hb, cmpN] at h
  constructor
  · intro e; rw [if_pos e] at h; exact h
  · intro e; rw [if_neg e] at h; exact h.symm
theorem cmpN_end {a b : List UInt8} {k : Nat} (hk : k = min a.length b.length) (h : cmpN (a.drop k) (b.drop k) = cmpN a b) : cmpN a b = cmpI a.length b.length := by
  rw [← h]
  by_cases e : a.length ≤ b.length
  · have e1 : a.drop k = [] := List.drop_of_length_le (by omega)
    rw [e1]
    by_cases e' : a.length = b.length
    · rw [List.drop_of_length_le (by omega : b.length ≤ k), e', cmpI_self]; rfl
    · rw [drop_cons (by omega : k < b.length), cmpI_lt (by omega)]; rfl
  · rw [List.drop_of_length_le (by omega : b.length ≤ k), drop_cons (by omega : k < a.length), cmpI_gt (by omega)]; rfl
def folded (n : List UInt8) : List UInt8 := n.map small
theorem cmpN_zero : ∀ {a b : List UInt8}, cmpN a b = 0 ↔ folded a = folded b
  | [], [] => by simp [cmpN, folded]
  | [], _ :: _ => by simp [cmpN, folded]
  | _ :: _, [] => by simp [cmpN, folded]
  | a :: x, b :: y => by
    unfold cmpN
    split
    · rename_i h
      rw [cmpI_zero] at h
      rw [cmpN_zero]
      have : small a = small b := by rw [← UInt8.toNat_inj]; omega
      simp [folded, this]
    · rename_i h
      constructor
      · intro e; exact absurd e h
      · intro e
        simp only [folded, List.map_cons, List.cons.injEq] at e
        exact absurd (by rw [cmpI_zero, e.1]) h

def same (a b : List UInt8) : Bool := valid a && valid b && folded a == folded b
theorem folded_length (n : List UInt8) : (folded n).length = n.length := by simp [folded]
theorem same_len {a b : List UInt8} (h : a.length ≠ b.length) : same a b = false := by
  have : folded a ≠ folded b := fun e => h (by rw [← folded_length a, e, folded_length])
  simp [same, this]

end Go.Proofs.Ytdodamkndigjkaa.Nm

/- Where the labels of a name stand. -/
namespace Go.Proofs.Ytdodamkndigjkaa.Nm

/-- How many bytes labels take. -/
def encL : List (List UInt8) → Nat
  | [] => 0
  | l :: ls => 1 + l.length + encL ls
/-- Where labels stand, the first one at k. -/
def posOf : Nat → List (List UInt8) → List Nat
  | _, [] => []
  | k, l :: ls => k :: posOf (k + (1 + l.length)) ls
theorem encL_append (a b : List (List UInt8)) : encL (a ++ b) = encL a + encL b := by
  induction a with
  | nil => simp [encL]
  | cons l a ih => simp only [List.cons_append, encL, ih]; omega
theorem posOf_append (k : Nat) (a b : List (List UInt8)) : posOf k (a ++ b) = posOf k a ++ posOf (k + encL a) b := by
  induction a generalizing k with
  | nil => simp [posOf, encL]
  | cons l a ih => simp only [List.cons_append, posOf, ih, encL, Nat.add_assoc]
theorem posOf_length (k : Nat) (a : List (List UInt8)) : (posOf k a).length = a.length := by
  induction a generalizing k with
  | nil => rfl
  | cons l a ih => simp [posOf, ih]
theorem made_length (ls : List (List UInt8)) : (made ls).length = encL ls + 1 := by
  induction ls with
  | nil => rfl
  | cons l ls ih => simp [made, encL, ih]; omega
theorem made_drop (a b : List (List UInt8)) : (made (a ++ b)).drop (encL a) = made b := by
  induction a with
  | nil => rfl
  | cons l a ih =>
    rw [List.cons_append, made, encL, show 1 + l.length + encL a = (l.length + encL a) + 1 by omega, List.drop_succ_cons, List.drop_append, List.drop_of_length_le (by omega), List.nil_append]
    rw [show l.length + encL a - l.length = encL a by omega, ih]
theorem length_le_encL {ls : List (List UInt8)} : ls.length ≤ encL ls := by
  induction ls with
  | nil => simp
  | cons l ls ih => simp [encL]; omega

/-- A place at which a label stands within n. -/
def OkPos (n : List UInt8) (x : Nat) : Prop := ∃ h : x < n.length, x + 1 + n[x].toNat ≤ n.length
abbrev Pos (n : List UInt8) := { x : Nat // OkPos n x }
def labAt (n : List UInt8) (x : Nat) : List UInt8 := (n.drop (x + 1)).take (n[x]?.getD 0).toNat
def labsD (n : List UInt8) : List (List UInt8) := (labs n).getD []
def placesN (n : List UInt8) : List Nat := posOf 0 (labsD n)

theorem at_rest {n : List UInt8} {a b : List (List UInt8)} (h : n = made (a ++ b)) : n.drop (encL a) = made b := by rw [h, made_drop]
theorem at_end {n : List UInt8} {a : List (List UInt8)} (h : n = made a) : ∃ hk : encL a < n.length, n[encL a] = 0 := by
  have hl : n.length = encL a + 1 := by rw [h, made_length]
  refine ⟨by omega, ?_⟩
  have := at_rest (b := []) (n := n) (a := a) (by simpa using h)
  rw [drop_cons (by omega : encL a < n.length), made] at this
  exact (List.cons.inj this).1
theorem at_label {n : List UInt8} {a b : List (List UInt8)} {l : List UInt8} (h : n = made (a ++ l :: b)) (g : good (a ++ l :: b)) :
    ∃ hk : encL a < n.length, n[encL a] ≠ 0 ∧ n[encL a].toNat = l.length ∧ 1 ≤ l.length ∧ l.length ≤ 63 ∧ encL a + 1 + l.length < n.length ∧ labAt n (encL a) = l := by
  obtain ⟨h1, h2⟩ := g l (by simp)
  have hl : n.length = encL a + (1 + l.length + encL b) + 1 := by rw [h, made_length, encL_append, encL]
  have hk : encL a < n.length := by omega
  have hd := at_rest h
  have hd' := hd
  rw [drop_cons hk, made] at hd
  obtain ⟨e1, e2⟩ := List.cons.inj hd
  refine ⟨hk, ?_, ?_, h1, h2, by omega, ?_⟩
  · rw [e1]; exact ofNat_ne h1 h2
  · rw [e1]; exact ofNat_toNat h2
  · unfold labAt
    rw [List.getElem?_eq_getElem hk, Option.getD_some, e1, ofNat_toNat h2, e2, List.take_left']
    rfl
theorem labAt_of {n : List UInt8} {x : Nat} (h : x < n.length) : labAt n x = (n.drop (x + 1)).take n[x].toNat := by
  unfold labAt
  rw [List.getElem?_eq_getElem h, Option.getD_some]
theorem labAt_places {n : List UInt8} {a b : List (List UInt8)} (h : n = made (a ++ b)) (g : good (a ++ b)) : (posOf (encL a) b).map (labAt n) = b := by
  induction b generalizing a with
  | nil => rfl
  | cons l b ih =>
    obtain ⟨_, _, _, _, _, _, e⟩ := at_label h g
    have h' : n = made ((a ++ [l]) ++ b) := by simpa using h
    have g' : good ((a ++ [l]) ++ b) := by simpa using g
    have := ih h' g'
    rw [encL_append] at this
    simp only [encL, Nat.add_zero] at this
    simp only [posOf, List.map_cons, e, this]
theorem labAt_placesN (n : List UInt8) : (placesN n).map (labAt n) = labsD n := by
  unfold placesN labsD
  cases h : labs n with
  | none => rfl
  | some ls =>
    obtain ⟨e, g, _⟩ := labs_iff.1 h
    exact labAt_places (a := []) e g

def parent (n : List UInt8) : List UInt8 := match labsD n with | _ :: ls => made ls | [] => [0]
theorem parent_nil {n : List UInt8} (h : labsD n = []) : parent n = [0] := by unfold parent; rw [h]
theorem labsD_made {n : List UInt8} (h : labsD n ≠ []) : n = made (labsD n) ∧ good (labsD n) ∧ n.length ≤ 255 ∧ labs n = some (labsD n) := by
  unfold labsD at *
  cases e : labs n with
  | none => rw [e] at h; exact absurd rfl h
  | some ls =>
    obtain ⟨a, b, c⟩ := labs_iff.1 e
    exact ⟨a, b, c, rfl⟩
theorem parent_cons {n l : List UInt8} {ls : List (List UInt8)} (h : labsD n = l :: ls) : ∃ hk : 0 < n.length, n[0].toNat = l.length ∧ 1 + l.length ≤ n.length ∧ parent n = n.drop (1 + l.length) := by
  obtain ⟨e, g, hl, _⟩ := labsD_made (n := n) (by rw [h]; simp)
  rw [h] at e g
  obtain ⟨hk, _, h2, _, _, h5, _⟩ := at_label (n := n) (a := []) (b := ls) (l := l) e g
  have h6 := at_rest (n := n) (a := [l]) (b := ls) e
  simp only [encL] at *
  refine ⟨hk, h2, by omega, ?_⟩
  unfold parent
  rw [h]
  simpa using h6.symm


def under (n z : List UInt8) : Bool :=
  match labs n, labs z with
  | some a, some b => decide (b.map folded <:+ a.map folded)
  | _, _ => false
/-- As Under goes: label by label. -/
def underC (n z : List UInt8) : Bool := (placesN n).any (fun k => same (n.drop k) z) || (valid n && z == [0])
theorem underC_yes {n z : List UInt8} {k : Nat} (h : k ∈ placesN n) (hs : same (n.drop k) z = true) : underC n z = true := by
  unfold underC
  rw [List.any_eq_true.2 ⟨k, h, hs⟩, Bool.true_or]
theorem underC_no {n z : List UInt8} (h : ∀ k ∈ placesN n, same (n.drop k) z = false) : underC n z = (valid n && z == [0]) := by
  unfold underC
  rw [List.any_eq_false.2 (fun k hk => by rw [h k hk]; simp), Bool.false_or]

theorem small_len {c : UInt8} (h : c.toNat ≤ 63) : small c = c := small_no (by omega)
theorem folded_made {ls : List (List UInt8)} (g : good ls) : folded (made ls) = made (ls.map folded) := by
  induction ls with
  | nil => rfl
  | cons l ls ih =>
    obtain ⟨h1, h2⟩ := g l (by simp)
    have := ih (fun x hx => g x (List.mem_cons_of_mem _ hx))
    simp only [made, List.map_cons, folded_length]
    rw [← this]
    simp only [folded, List.map_cons, List.map_append]
    rw [small_len (by rw [ofNat_toNat h2]; exact h2)]
theorem good_folded {ls : List (List UInt8)} (g : good ls) : good (ls.map folded) := by
  intro l hl
  obtain ⟨x, hx, rfl⟩ := List.mem_map.1 hl
  rw [folded_length]
  exact g x hx
theorem made_inj {a b : List (List UInt8)} (ga : good a) (gb : good b) (h : made a = made b) : a = b := by
  have h1 := labsU_made ga
  rw [h, labsU_made gb] at h1
  exact (Option.some.inj h1).symm
theorem good_suffix {a b : List (List UInt8)} (g : good (a ++ b)) : good b := fun x hx => g x (List.mem_append_right _ hx)
theorem same_made {b zl : List (List UInt8)} {z : List UInt8} (g : good b) (hb : (made b).length ≤ 255) (hz : labs z = some zl) : same (made b) z = decide (b.map folded = zl.map folded) := by
  obtain ⟨ez, gz, _⟩ := labs_iff.1 hz
  have hv : valid (made b) = true := by unfold valid; rw [labs_iff.2 ⟨rfl, g, hb⟩]; rfl
  have hvz : valid z = true := by unfold valid; rw [hz]; rfl
  rw [Bool.eq_iff_iff]
  simp only [same, hv, hvz, Bool.true_and, beq_iff_eq, decide_eq_true_eq]
  rw [ez, folded_made g, folded_made gz]
  exact ⟨fun h => made_inj (good_folded g) (good_folded gz) h, fun h => by rw [h]⟩
theorem same_invalid {a z : List UInt8} (hz : labs z = none) : same a z = false := by
  unfold same valid
  rw [hz]; simp
theorem any_places {n z : List UInt8} {a b zl : List (List UInt8)} (h : n = made (a ++ b)) (g : good (a ++ b)) (hl : n.length ≤ 255) (hz : labs z = some zl) :
    ((posOf (encL a) b).any (fun k => same (n.drop k) z) || decide (zl = [])) = decide (zl.map folded <:+ b.map folded) := by
  induction b generalizing a with
  | nil =>
    simp [posOf]
  | cons l b ih =>
    have h' : n = made ((a ++ [l]) ++ b) := by simpa using h
    have g' : good ((a ++ [l]) ++ b) := by simpa using g
    have i := ih h' g'
    rw [encL_append] at i
    simp only [encL, Nat.add_zero] at i
    have hd := at_rest h
    have hs : same (n.drop (encL a)) z = decide ((l :: b).map folded = zl.map folded) := by
      rw [hd]
      refine same_made (good_suffix g) ?_ hz
      have : (n.drop (encL a)).length ≤ 255 := by rw [List.length_drop]; omega
      rw [hd] at this
      exact this
    simp only [posOf, List.any_cons, hs, Bool.or_assoc, i]
    rw [Bool.eq_iff_iff]
    simp only [Bool.or_eq_true, decide_eq_true_eq, List.map_cons]
    rw [List.suffix_cons_iff]
    exact ⟨fun h => h.elim (fun e => Or.inl e.symm) Or.inr, fun h => h.elim (fun e => Or.inl e.symm) Or.inr⟩
theorem underC_eq (n z : List UInt8) : underC n z = under n z := by
  unfold under
  cases hn : labs n with
  | none =>
    unfold underC placesN labsD valid
    rw [hn]; simp [posOf]
  | some a =>
    cases hz : labs z with
    | none =>
      have e0 : z ≠ [0] := fun e => by rw [e] at hz; cases hz
      unfold underC
      rw [List.any_eq_false.2 (fun k hk => by rw [same_invalid hz]; simp)]
      simp [e0]
    | some zl =>
      obtain ⟨e, g, hl⟩ := labs_iff.1 hn
      obtain ⟨ez, gz, _⟩ := labs_iff.1 hz
      have := any_places (a := []) (b := a) e g hl hz
      simp only [encL] at this
      show _ = decide (zl.map folded <:+ a.map folded)
      rw [← this]
      unfold underC placesN labsD valid
      rw [hn]
      simp only [Option.getD_some, Option.isSome_some, Bool.true_and]
      congr 1
      rw [Bool.eq_iff_iff]
      simp only [beq_iff_eq, decide_eq_true_eq]
      constructor
      · intro h
        rw [h] at hz
        cases hz
        rfl
      · intro h
        rw [ez, h]
        rfl

/-- As Common goes: the first part of a that b is under. -/
def commonC (a b : List UInt8) : List UInt8 := match (placesN a).find? (fun k => under b (a.drop k)) with | some k => a.drop k | none => [0]
theorem commonC_none {a b : List UInt8} (h : ∀ k ∈ placesN a, under b (a.drop k) = false) : commonC a b = [0] := by
  unfold commonC
  rw [List.find?_eq_none.2 (fun k hk => by rw [h k hk]; simp)]
theorem commonC_some {a b : List UInt8} {pre : List Nat} {k : Nat} (hp : pre ++ [k] <+: placesN a) (h : ∀ j ∈ pre, under b (a.drop j) = false) (hk : under b (a.drop k) = true) : commonC a b = a.drop k := by
  obtain ⟨r, e⟩ := hp
  unfold commonC
  rw [← e, List.append_assoc, List.find?_append, List.find?_eq_none.2 (fun j hj => by rw [h j hj]; simp)]
  simp [hk]

/-- Labels without an end. -/
def encs : List (List UInt8) → List UInt8
  | [] => []
  | l :: ls => UInt8.ofNat l.length :: (l ++ encs ls)
theorem made_encs (ls : List (List UInt8)) : made ls = encs ls ++ [0] := by
  induction ls with
  | nil => rfl
  | cons l ls ih => simp [made, encs, ih]
theorem encs_append (a b : List (List UInt8)) : encs (a ++ b) = encs a ++ encs b := by
  induction a with
  | nil => rfl
  | cons l a ih => simp [encs, ih]
theorem encs_length (a : List (List UInt8)) : (encs a).length = encL a := by
  have := made_length a
  rw [made_encs, List.length_append, List.length_singleton] at this
  omega
/-- A label may be one, and goes in. -/
def fits (k : Nat) (l : List UInt8) : Bool := decide (1 ≤ l.length) && decide (l.length ≤ 63) && decide (k + l.length + 2 ≤ 255)
def fitsAll : Nat → List (List UInt8) → Bool
  | _, [] => true
  | k, l :: ls => fits k l && fitsAll (k + (1 + l.length)) ls
def join (ls : List (List UInt8)) : Option (List UInt8) := if fitsAll 0 ls then some (made ls) else none
theorem fitsAll_append (k : Nat) (a b : List (List UInt8)) : fitsAll k (a ++ b) = (fitsAll k a && fitsAll (k + encL a) b) := by
  induction a generalizing k with
  | nil => simp [fitsAll, encL]
  | cons l a ih => simp only [List.cons_append, fitsAll, ih, encL, Bool.and_assoc, Nat.add_assoc]
theorem fitsAll_iff (k : Nat) (ls : List (List UInt8)) (hk : k ≤ 254) : fitsAll k ls = true ↔ good ls ∧ k + encL ls ≤ 254 := by
  induction ls generalizing k with
  | nil => simp [fitsAll, good, encL, hk]
  | cons l ls ih =>
    simp only [fitsAll, Bool.and_eq_true, fits, decide_eq_true_eq, encL]
    constructor
    · rintro ⟨⟨⟨h1, h2⟩, h3⟩, h4⟩
      obtain ⟨g, h5⟩ := (ih (k + (1 + l.length)) (by omega)).1 h4
      refine ⟨?_, by omega⟩
      intro x hx
      rcases List.mem_cons.1 hx with rfl | hx
      · exact ⟨h1, h2⟩
      · exact g x hx
    · rintro ⟨g, h5⟩
      obtain ⟨h1, h2⟩ := g l (by simp)
      exact ⟨⟨⟨h1, h2⟩, by omega⟩, (ih (k + (1 + l.length)) (by omega)).2 ⟨fun x hx => g x (List.mem_cons_of_mem _ hx), by omega⟩⟩
theorem join_some {ls : List (List UInt8)} {n : List UInt8} : join ls = some n ↔ n = made ls ∧ good ls ∧ n.length ≤ 255 := by
  unfold join
  have h := fitsAll_iff 0 ls (by omega)
  split
  · rename_i hf
    obtain ⟨g, hl⟩ := h.1 hf
    constructor
    · intro e
      obtain rfl := Option.some.inj e
      exact ⟨rfl, g, by rw [made_length]; omega⟩
    · rintro ⟨rfl, _, _⟩; rfl
  · rename_i hf
    constructor
    · intro e; cases e
    · rintro ⟨rfl, g, hl⟩
      rw [made_length] at hl
      exact absurd (h.2 ⟨g, by omega⟩) hf
theorem join_labs {ls : List (List UInt8)} {n : List UInt8} : join ls = some n ↔ labs n = some ls := by
  rw [join_some, labs_iff]

theorem join_none_at {ls : List (List UInt8)} {k : Nat} (hk : k < ls.length) (h : fits (encL (ls.take k)) ls[k] = false) : join ls = none := by
  have e : ls = ls.take k ++ ls[k] :: ls.drop (k + 1) := by rw [← List.drop_eq_getElem_cons hk, List.take_append_drop]
  unfold join
  rw [if_neg]
  rw [e, fitsAll_append]
  simp only [fitsAll, Nat.zero_add, h, Bool.false_and, Bool.and_false]
  decide
theorem fitsAll_take {ls : List (List UInt8)} {k : Nat} (hk : k < ls.length) (h : fitsAll 0 (ls.take k) = true) (hf : fits (encL (ls.take k)) ls[k] = true) : fitsAll 0 (ls.take (k + 1)) = true := by
  rw [List.take_succ_eq_append_getElem hk, fitsAll_append, h]
  simp [fitsAll, hf]
theorem encs_take {ls : List (List UInt8)} {k : Nat} (hk : k < ls.length) : encs (ls.take (k + 1)) = (encs (ls.take k) ++ [UInt8.ofNat ls[k].length]) ++ ls[k] := by
  rw [List.take_succ_eq_append_getElem hk, encs_append]
  simp [encs]
theorem fits_no1 {k : Nat} {l : List UInt8} (h : l = []) : fits k l = false := by simp [fits, h]
theorem fits_no2 {k : Nat} {l : List UInt8} (h : 63 < l.length) : fits k l = false := by
  have : ¬ l.length ≤ 63 := by omega
  simp [fits, this]
theorem fits_no3 {k : Nat} {l : List UInt8} (h : 255 < k + l.length + 2) : fits k l = false := by
  have : ¬ k + l.length + 2 ≤ 255 := by omega
  simp [fits, this]
theorem fits_yes {k : Nat} {l : List UInt8} (h1 : l ≠ []) (h2 : ¬ 63 < l.length) (h3 : ¬ 255 < k + l.length + 2) : fits k l = true := by
  have : 1 ≤ l.length := List.length_pos_iff.2 h1
  simp [fits]
  omega

theorem places_ok_at {n : List UInt8} {a b : List (List UInt8)} (h : n = made (a ++ b)) (g : good (a ++ b)) : ∀ x ∈ posOf (encL a) b, OkPos n x := by
  induction b generalizing a with
  | nil => intro x hx; cases hx
  | cons l b ih =>
    intro x hx
    obtain ⟨hk, _, h2, _, _, h5, _⟩ := at_label h g
    rcases List.mem_cons.1 hx with rfl | hx
    · exact ⟨hk, by omega⟩
    · have h' : n = made ((a ++ [l]) ++ b) := by simpa using h
      have g' : good ((a ++ [l]) ++ b) := by simpa using g
      refine ih h' g' x ?_
      rw [encL_append]
      simpa [encL] using hx
theorem places_ok {n : List UInt8} {x : Nat} (h : x ∈ placesN n) : OkPos n x := by
  unfold placesN labsD at h
  cases e : labs n with
  | none => rw [e] at h; simp [posOf] at h
  | some ls =>
    obtain ⟨en, g, _⟩ := labs_iff.1 e
    rw [e] at h
    exact places_ok_at (a := []) en g x h
theorem places_length (n : List UInt8) : (placesN n).length = (labsD n).length := by
  unfold placesN; exact posOf_length _ _
theorem lab_get {n : List UInt8} {i : Nat} (h : i < (placesN n).length) : labAt n (placesN n)[i] = (labsD n)[i]'(by rw [← places_length]; exact h) := by
  have := labAt_placesN n
  have h2 : ((placesN n).map (labAt n))[i]? = (labsD n)[i]? := by rw [this]
  rw [List.getElem?_map, List.getElem?_eq_getElem h, List.getElem?_eq_getElem (by rw [← places_length]; exact h)] at h2
  exact Option.some.inj h2
theorem labsD_len (n : List UInt8) : (labsD n).length ≤ 255 := by
  by_cases h : labsD n = []
  · rw [h]; simp
  · obtain ⟨e, _, hl, _⟩ := labsD_made h
    have h1 : n.length = encL (labsD n) + 1 := by
      have := made_length (labsD n)
      rw [← e] at this
      exact this
    have h2 := length_le_encL (ls := labsD n)
    omega

theorem labsD_good (n : List UInt8) : good (labsD n) := by
  by_cases h : labsD n = []
  · rw [h]; intro l hl; cases hl
  · exact (labsD_made h).2.1

/-- Label by label from the last one on. -/
def lessR : List (List UInt8) → List (List UInt8) → Bool
  | x :: xs, y :: ys => if cmpN x y ≠ 0 then decide (cmpN x y < 0) else lessR xs ys
  | [], _ :: _ => true
  | _, [] => false
def less (a b : List UInt8) : Bool := valid a && valid b && lessR (labsD a).reverse (labsD b).reverse
theorem take_rev {l : List (List UInt8)} {i : Nat} (h : i < l.length) : (l.take (i + 1)).reverse = l[i] :: (l.take i).reverse := by
  rw [List.take_succ_eq_append_getElem h, List.reverse_append]; rfl

end Go.Proofs.Ytdodamkndigjkaa.Nm
