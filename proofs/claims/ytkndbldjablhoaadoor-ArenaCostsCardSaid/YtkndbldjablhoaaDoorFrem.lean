/- Pieces beside a gap; what is free among them. -/
import Derived.Test.YtkndbldjablhoaaDoorLaym
import Derived.Test.YtkndbldjablhoaaDoorArel
set_option maxRecDepth 100000
namespace Go.Proofs.YtkndbldjablhoaaDoor
namespace Ar
/-- Piece p begins at v, with a gap of g bytes behind xs. -/
def AtG (xs : List Pc) (g : Nat) (ys : List Pc) (v : Nat) (p : Pc) : Prop := At xs v p ∨ ∃ v', v = total xs + g + v' ∧ At ys v' p
theorem atG_zero (xs ys : List Pc) (v : Nat) (p : Pc) : AtG xs 0 ys v p ↔ At (xs ++ ys) v p := by unfold AtG; rw [at_app]; simp
theorem atG_cons (xs ys : List Pc) (g : Nat) (q : Pc) (v : Nat) (p : Pc) : AtG xs g (q :: ys) v p ↔ AtG xs (g + q.takes) ys v p ∨ (v = total xs + g ∧ p = q) := by
  unfold AtG
  constructor
  · rintro (h | ⟨v', rfl, h⟩)
    · exact .inl (.inl h)
    · rcases h with ⟨rfl, rfl⟩ | ⟨v2, rfl, h⟩
      · exact .inr ⟨rfl, rfl⟩
      · exact .inl (.inr ⟨v2, by omega, h⟩)
  · rintro ((h | ⟨v', rfl, h⟩) | ⟨rfl, rfl⟩)
    · exact .inl h
    · exact .inr ⟨q.takes + v', by omega, .inr ⟨v', rfl, h⟩⟩
    · exact .inr ⟨0, rfl, .inl ⟨rfl, rfl⟩⟩
theorem atG_snoc (xs ys : List Pc) (g : Nat) (r : Pc) (v : Nat) (p : Pc) : AtG (xs ++ [r]) g ys v p ↔ AtG xs (r.takes + g) ys v p ∨ (v = total xs ∧ p = r) := by
  unfold AtG
  rw [at_app, total_app]
  simp only [total, Nat.add_zero]
  constructor
  · rintro ((h | ⟨v', rfl, h⟩) | ⟨v', rfl, h⟩)
    · exact .inl (.inl h)
    · rcases h with ⟨rfl, rfl⟩ | ⟨v2, rfl, h⟩
      · exact .inr ⟨rfl, rfl⟩
      · exact h.elim
    · exact .inl (.inr ⟨v', by omega, h⟩)
  · rintro ((h | ⟨v', rfl, h⟩) | ⟨rfl, rfl⟩)
    · exact .inl (.inl h)
    · exact .inr ⟨v', by omega, h⟩
    · exact .inl (.inr ⟨0, rfl, .inl ⟨rfl, rfl⟩⟩)
theorem atG_fill (xs ys : List Pc) (m : Pc) (v : Nat) (p : Pc) : At (xs ++ m :: ys) v p ↔ AtG xs m.takes ys v p ∨ (v = total xs ∧ p = m) := by
  rw [← atG_zero, atG_cons]; simp
theorem atG_uniq {xs ys : List Pc} {g v : Nat} {p q : Pc} (h : AtG xs g ys v p) (k : AtG xs g ys v q) : p = q := by
  rcases h with h | ⟨v1, rfl, h⟩
  · rcases k with k | ⟨v2, e, _⟩
    · exact at_uniq h k
    · have := at_le h; have := takes_pos p; omega
  · rcases k with k | ⟨v2, e, k⟩
    · have := at_le k; have := takes_pos q; omega
    · obtain rfl : v1 = v2 := by omega
      exact at_uniq h k
/-- Nothing begins within the gap. -/
theorem atG_gap {xs ys : List Pc} {g v : Nat} {p : Pc} (h : AtG xs g ys v p) (h1 : total xs ≤ v) (h2 : v < total xs + g) : False := by
  rcases h with h | ⟨v1, rfl, h⟩
  · have := at_le h; have := takes_pos p; omega
  · omega
/-- E names the free pieces. -/
def Frees (E : Nat → Option (Nat × Nat)) (xs : List Pc) (g : Nat) (ys : List Pc) : Prop := ∀ i c v, E i = some (c, v) ↔ ∃ p, AtG xs g ys v p ∧ p.free = true ∧ p.owner = i ∧ cls p.size = c
theorem frees_off {E : Nat → Option (Nat × Nat)} {xs ys xs' ys' : List Pc} {g g' : Nat} {q : Pc} {u : Nat} (h : Frees E xs g ys) (hq : q.free = true) (hi : ∀ v p, AtG xs g ys v p ↔ AtG xs' g' ys' v p ∨ (v = u ∧ p = q)) (hn : ∀ p, ¬ AtG xs' g' ys' u p) : E q.owner = some (cls q.size, u) ∧ Frees (off E q.owner) xs' g' ys' := by
  have hE : E q.owner = some (cls q.size, u) := (h _ _ _).2 ⟨q, (hi u q).2 (.inr ⟨rfl, rfl⟩), hq, rfl, rfl⟩
  refine ⟨hE, fun i c v => ?_⟩
  constructor
  · intro hx
    by_cases e : i = q.owner
    · rw [e, off_same] at hx; cases hx
    · rw [off_ne E e] at hx
      obtain ⟨p, h1, h2, h3, h4⟩ := (h i c v).1 hx
      rcases (hi v p).1 h1 with h5 | ⟨_, rfl⟩
      · exact ⟨p, h5, h2, h3, h4⟩
      · exact absurd h3.symm e
  · rintro ⟨p, h1, h2, h3, h4⟩
    have hx := (h i c v).2 ⟨p, (hi v p).2 (.inl h1), h2, h3, h4⟩
    by_cases e : i = q.owner
    · rw [e, hE] at hx
      cases hx
      exact absurd h1 (hn p)
    · rw [off_ne E e]; exact hx
theorem frees_skip {E : Nat → Option (Nat × Nat)} {xs ys xs' ys' : List Pc} {g g' : Nat} {q : Pc} {u : Nat} (h : Frees E xs g ys) (hq : q.free = false) (hi : ∀ v p, AtG xs g ys v p ↔ AtG xs' g' ys' v p ∨ (v = u ∧ p = q)) : Frees E xs' g' ys' := fun i c v => by
  rw [h i c v]
  constructor
  · rintro ⟨p, h1, h2, h3, h4⟩
    rcases (hi v p).1 h1 with h5 | ⟨_, rfl⟩
    · exact ⟨p, h5, h2, h3, h4⟩
    · rw [hq] at h2; cases h2
  · rintro ⟨p, h1, h2, h3, h4⟩
    exact ⟨p, (hi v p).2 (.inl h1), h2, h3, h4⟩
/-- A block in the gap. -/
theorem frees_block {E : Nat → Option (Nat × Nat)} {xs ys : List Pc} {m : Pc} (h : Frees E xs m.takes ys) (hm : m.free = false) : Frees E (xs ++ [m]) 0 ys := fun i c v => by
  rw [h i c v]
  constructor
  · rintro ⟨p, h1, h2, h3, h4⟩
    exact ⟨p, (atG_snoc xs ys 0 m v p).2 (.inl h1), h2, h3, h4⟩
  · rintro ⟨p, h1, h2, h3, h4⟩
    rcases (atG_snoc xs ys 0 m v p).1 h1 with h5 | ⟨_, rfl⟩
    · exact ⟨p, h5, h2, h3, h4⟩
    · rw [hm] at h2; cases h2
/-- A free piece in the gap. -/
theorem frees_fill {E : Nat → Option (Nat × Nat)} {xs ys : List Pc} {k : Nat} {raw : List UInt8} (h : Frees E xs raw.length ys) (h8 : 8 ≤ raw.length) (hk : E k = none) : Frees (on E k (cls raw.length, total xs)) xs 0 (mkFree k raw :: ys) := fun i c v => by
  have ht := mkFree_takes (k := k) (raw := raw) h8
  constructor
  · intro hx
    by_cases e : i = k
    · rw [e, on_same] at hx
      cases hx
      exact ⟨mkFree k raw, (atG_cons _ _ _ _ _ _).2 (.inr ⟨by omega, rfl⟩), rfl, e.symm, rfl⟩
    · rw [on_ne E _ e] at hx
      obtain ⟨p, h1, h2, h3, h4⟩ := (h i c v).1 hx
      exact ⟨p, (atG_cons _ _ _ _ _ _).2 (.inl (by rw [ht, Nat.zero_add]; exact h1)), h2, h3, h4⟩
  · rintro ⟨p, h1, h2, h3, h4⟩
    rcases (atG_cons _ _ _ _ _ _).1 h1 with h5 | ⟨rfl, rfl⟩
    · rw [ht, Nat.zero_add] at h5
      have hx := (h i c v).2 ⟨p, h5, h2, h3, h4⟩
      have e : i ≠ k := fun e => by rw [e, hk] at hx; cases hx
      rw [on_ne E _ e]; exact hx
    · have e : k = i := h3
      have h4' : cls raw.length = c := h4
      rw [← e, on_same, ← h4']
      simp
/-- What the node of a free piece is. -/
theorem Ch.node {nd : List Node} {spare : Nat} {E : Nat → Option (Nat × Nat)} {sp : List Nat} (h : Ch nd spare E sp) {i : Nat} {x : Nat × Nat} (hx : E i = some x) : i < nd.length ∧ (nodeAt nd i).n < nd.length ∧ (nodeAt nd i).l < nd.length := by
  have hl := h.low i x hx
  have hlab : lab E i = some x.1 := by unfold lab; rw [if_neg (by omega), hx]; rfl
  exact ⟨hl.2.1, (lab_lt h (h.nx i _ hlab).1).1, (lab_lt h (h.pv i _ hlab).1).1⟩
theorem Ch.class {nd : List Node} {spare : Nat} {E : Nat → Option (Nat × Nat)} {sp : List Nat} (h : Ch nd spare E sp) {c : Nat} (hc : c < 17) : c < nd.length ∧ (nodeAt nd c).n < nd.length := by
  have hlab : lab E c = some c := by unfold lab; rw [if_pos hc]
  exact ⟨by have := h.len; omega, (lab_lt h (h.nx c _ hlab).1).1⟩
/-- The first of a class. -/
theorem Ch.first {nd : List Node} {spare : Nat} {E : Nat → Option (Nat × Nat)} {sp : List Nat} (h : Ch nd spare E sp) {c : Nat} (hc : c < 17) (hne : (nodeAt nd c).n ≠ c) : E (nodeAt nd c).n = some (c, (nodeAt nd (nodeAt nd c).n).v) := by
  have hlab : lab E c = some c := by unfold lab; rw [if_pos hc]
  have hn := (h.nx c _ hlab).1
  unfold lab at hn
  split at hn
  · exact absurd (Option.some.inj hn) hne
  · obtain ⟨⟨x, y⟩, hx, rfl⟩ := Option.map_eq_some_iff.1 hn
    rw [h.val _ _ _ hx]
    exact hx
/-- How many nodes there are: pieces have at least 16 bytes. -/
theorem nodup_le {α : Type} [DecidableEq α] : ∀ {l m : List α}, l.Nodup → (∀ x ∈ l, x ∈ m) → l.length ≤ m.length
  | [], m, _, _ => Nat.zero_le _
  | x :: l, m, h, hs => by
    obtain ⟨h1, h2⟩ := List.nodup_cons.1 h
    have hx := hs x (List.mem_cons_self ..)
    have := nodup_le (l := l) (m := m.erase x) h2 (fun y hy => (List.mem_erase_of_ne (fun e => h1 (by rw [← e]; exact hy))).2 (hs y (List.mem_cons_of_mem _ hy)))
    rw [List.length_erase_of_mem hx] at this
    have : 0 < m.length := List.length_pos_of_mem hx
    simp only [List.length_cons]; omega
theorem total_ge : ∀ {xs : List Pc}, (∀ p ∈ xs, p.Ok) → 16 * xs.length ≤ total xs
  | [], _ => Nat.zero_le _
  | p :: r, h => by
    have := (h p (List.mem_cons_self ..)).ge
    have := total_ge (xs := r) (fun q hq => h q (List.mem_cons_of_mem _ hq))
    simp only [total, List.length_cons]; omega
end Ar
end Go.Proofs.YtkndbldjablhoaaDoor
