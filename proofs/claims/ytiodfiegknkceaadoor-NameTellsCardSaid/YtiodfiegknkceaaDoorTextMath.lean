/- Texts of names, read again. -/
import Derived.Test.YtiodfiegknkceaaDoorParse
import Derived.Test.YtiodfiegknkceaaDoorCommonMath
namespace Go.Proofs.YtiodfiegknkceaaDoor.Nm

theorem pu3 : ∀ k : Fin 256, (33 ≤ k.val ∧ k.val ≤ 126) ∨ (match Lib.parseUintB 8 [48 + UInt8.ofNat k.val / 100, 48 + UInt8.ofNat k.val / 10 % 10, 48 + UInt8.ofNat k.val % 10] with | .ok v => v == k.val | _ => false) = true := by decide +kernel
theorem digit_ne : ∀ k : Fin 256, 48 + UInt8.ofNat k.val / 100 ≠ 46 ∧ 48 + UInt8.ofNat k.val / 100 ≠ 92 := by decide +kernel
theorem ofNat_self (c : UInt8) : UInt8.ofNat c.toNat = c := by simp
theorem readB_byteText (c : UInt8) (r : List UInt8) : readB (byteText c ++ r) = (c, (byteText c).length) := by
  unfold byteText
  by_cases h1 : c = 46 ∨ c = 92
  · rw [if_pos h1]
    simp [readB, h1]
  · rw [if_neg h1]
    by_cases h2 : 33 ≤ c.toNat ∧ c.toNat ≤ 126
    · rw [if_pos h2]
      have h92 : c ≠ 92 := fun e => h1 (.inr e)
      have hs : shown c = true := decide_eq_true h2
      simp [readB, h92, hs]
    · rw [if_neg h2]
      have hlt := c.toNat_lt
      have hp := (pu3 ⟨c.toNat, by omega⟩).resolve_left h2
      have hd := digit_ne ⟨c.toNat, by omega⟩
      simp only [ofNat_self] at hp hd
      have hs : shown c = false := decide_eq_false h2
      cases hq : Lib.parseUintB 8 [48 + c / 100, 48 + c / 10 % 10, 48 + c % 10] with
      | ok v =>
        rw [hq] at hp
        have hv : v = c.toNat := by simpa using hp
        subst hv
        simp [readB, hd, hq, hs]
      | _ => rw [hq] at hp; cases hp
theorem byteText_cons (c : UInt8) : ∃ b bs, byteText c = b :: bs ∧ b ≠ 46 := by
  unfold byteText
  split
  · exact ⟨_, _, rfl, by decide⟩
  · rename_i h
    split
    · exact ⟨_, _, rfl, fun e => h (.inl e)⟩
    · exact ⟨_, _, rfl, by decide⟩
theorem rl_byte (c : UInt8) (r acc : List UInt8) (k : Nat) : rl (byteText c ++ r) acc k = rl r (acc ++ [c]) (k + (byteText c).length) := by
  obtain ⟨b, bs, e, hb⟩ := byteText_cons c
  have h := readB_byteText c r
  rw [e] at h ⊢
  rw [List.cons_append] at h ⊢
  have h2 : (readB (b :: (bs ++ r))).2 = (b :: bs).length := by rw [h]
  have h1 : (readB (b :: (bs ++ r))).1 = c := by rw [h]
  rw [rl_step hb (by rw [h2]; simp), h1, h2]
  rw [← List.cons_append, List.drop_left' rfl]
theorem rl_flat (l r acc : List UInt8) (k : Nat) : rl (l.flatMap byteText ++ r) acc k = rl r (acc ++ l) (k + (l.flatMap byteText).length) := by
  induction l generalizing acc k with
  | nil => simp
  | cons c l ih =>
    rw [List.flatMap_cons, List.append_assoc, rl_byte, ih]
    congr 1
    · simp
    · rw [List.length_append]; omega
theorem labText_eq (l : List UInt8) : labText l = l.flatMap byteText ++ [46] := rfl
theorem rl_labText (l r : List UInt8) : rl (labText l ++ r) [] 0 = (l, (labText l).length) := by
  rw [labText_eq, List.append_assoc, rl_flat, List.singleton_append, rl_dot]
  simp
theorem pl_flat (ls acc : List (List UInt8)) (r : List UInt8) : pl (ls.flatMap labText ++ r) acc = pl r (acc ++ ls) := by
  induction ls generalizing acc with
  | nil => simp
  | cons l ls ih =>
    rw [List.flatMap_cons, List.append_assoc]
    have h := rl_labText l (ls.flatMap labText ++ r)
    have hl : (labText l).length ≠ 0 := by rw [labText_eq]; simp
    rw [pl_step (fun e => hl (by rw [List.append_eq_nil_iff.1 e |>.1]; rfl)) (by rw [h]; exact hl), h, List.drop_left' rfl, ih]
    simp
theorem pl_open (ls acc : List (List UInt8)) {l : List UInt8} (hl : l ≠ []) : pl (ls.flatMap labText ++ l.flatMap byteText) acc = none := by
  rw [pl_flat]
  refine pl_bad ?_ ?_
  · cases l with
    | nil => exact absurd rfl hl
    | cons c l =>
      obtain ⟨b, bs, e, _⟩ := byteText_cons c
      rw [List.flatMap_cons, e]; simp
  · have := rl_flat l [] [] 0
    rw [List.append_nil] at this
    rw [this, rl_nil]
theorem byteText_len1 (c : UInt8) : 1 ≤ (byteText c).length ∧ (byteText c).length ≤ 4 := by
  unfold byteText; split <;> (try split) <;> simp
theorem flat_len2 (l : List UInt8) : l.length ≤ (l.flatMap byteText).length ∧ (l.flatMap byteText).length ≤ 4 * l.length := by
  induction l with
  | nil => simp
  | cons c l ih => have := byteText_len1 c; simp only [List.flatMap_cons, List.length_append, List.length_cons]; omega
theorem text_len (ls : List (List UInt8)) : encL ls ≤ (ls.flatMap labText).length ∧ (ls.flatMap labText).length ≤ 4 * encL ls := by
  induction ls with
  | nil => simp [encL]
  | cons l ls ih => have := flat_len2 l; simp only [List.flatMap_cons, List.length_append, labText_eq, List.length_singleton, encL]; omega
theorem made_ne {ls : List (List UInt8)} (h : ls ≠ []) (g : good ls) : made ls ≠ [0] := by
  intro e
  have := congrArg List.length e
  rw [made_length] at this
  cases ls with
  | nil => exact h rfl
  | cons l ls => simp [encL] at this
theorem text_made {ls : List (List UInt8)} (h : ls ≠ []) (g : good ls) (hl : (made ls).length ≤ 255) : text (made ls) = ls.flatMap labText := by
  unfold text
  rw [if_neg (made_ne h g), labsD_of_made g hl]
theorem parse_text {ls : List (List UInt8)} (h : ls ≠ []) (g : good ls) (hl : (made ls).length ≤ 255) : parse (ls.flatMap labText) = some (made ls) := by
  have h1 := text_len ls
  rw [made_length] at hl
  have h2 : 2 ≤ encL ls := by
    cases ls with
    | nil => exact absurd rfl h
    | cons l ls => have := g l (by simp); simp only [encL]; omega
  have h3 : ls.flatMap labText ≠ [46] := fun e => by rw [e] at h1; simp at h1; omega
  have h4 : ¬ (ls.flatMap labText = [] ∨ 1020 < (ls.flatMap labText).length) := by
    rintro (e | e)
    · rw [e] at h1; simp at h1; omega
    · omega
  have h5 := pl_flat ls [] []
  rw [List.append_nil, List.nil_append, pl_nil] at h5
  unfold parse
  rw [if_neg h3, if_neg h4, h5]
  exact join_some.2 ⟨rfl, g, by rw [made_length]; exact hl⟩
theorem parse_open (ls : List (List UInt8)) {l : List UInt8} (hl : l ≠ []) : parse (ls.flatMap labText ++ l.flatMap byteText) = none := by
  have h := pl_open ls [] hl
  unfold parse
  split
  · rename_i e
    rw [e] at h
    have h5 := pl_flat [[]] [] []
    rw [show ([[]] : List (List UInt8)).flatMap labText ++ [] = [46] from rfl, h, pl_nil] at h5
    cases h5
  · split
    · rfl
    · rw [h]; rfl
/-- A name's text is read as it was. -/
theorem parse_of_text {n : List UInt8} (h : valid n = true) : parse (text n) = some n := by
  obtain ⟨_, e, g, hl⟩ := labs_of_valid h
  by_cases hn : labsD n = []
  · rw [hn] at e
    rw [e]; rfl
  · have h1 : text n = (labsD n).flatMap labText := by
      unfold text
      rw [if_neg (by rw [e]; exact made_ne hn g)]
    rw [h1, parse_text hn g (by rw [← e]; exact hl), ← e]
end Go.Proofs.YtiodfiegknkceaaDoor.Nm
