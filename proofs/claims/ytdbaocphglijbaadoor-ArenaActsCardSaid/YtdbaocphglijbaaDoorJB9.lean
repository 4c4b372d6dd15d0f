/- 4 texts put together: Laym, Frem, Relm, Relf. -/
import Derived.Test.YtdbaocphglijbaaDoorJB4
import Derived.Test.YtdbaocphglijbaaDoorJB6
import Derived.Test.YtdbaocphglijbaaDoorJB8
/- The memory as pieces, one behind the other. -/
set_option maxRecDepth 100000
namespace Go.Proofs.YtdbaocphglijbaaDoor
namespace Ar
structure Pc where
  free : Bool
  marked : Bool
  owner : Nat
  size : Nat
  data : List UInt8
def Pc.takes (p : Pc) : Nat := p.data.length + 8
def Pc.hd (p : Pc) (a : Nat) : Head := ⟨p.free, p.marked, p.owner, p.size, a⟩
def Pc.bytes (p : Pc) (a : Nat) : List UInt8 := byte8 (p.hd a).word ++ p.data
structure Pc.Ok (p : Pc) : Prop where
  m16 : p.takes % 16 = 0
  ge : 16 ≤ p.takes
  own : p.owner < 1048576
  fr : p.free = true → p.size = p.takes
  bl : p.free = false → p.size ≤ 4096 ∧ cost p.size = p.takes
def lay : Nat → List Pc → List UInt8
  | _, [] => []
  | a, p :: r => p.bytes a ++ lay p.takes r
def total : List Pc → Nat
  | [] => 0
  | p :: r => p.takes + total r
def lastT : Nat → List Pc → Nat
  | a, [] => a
  | _, p :: r => lastT p.takes r
theorem bytes_len (p : Pc) (a : Nat) : (p.bytes a).length = p.takes := by unfold Pc.bytes Pc.takes byte8; rw [List.length_append, lastB_len]; omega
theorem total_app : ∀ xs ys, total (xs ++ ys) = total xs + total ys
  | [], ys => by simp [total]
  | p :: r, ys => by simp [total, total_app r ys, Nat.add_assoc]
theorem lay_len : ∀ a xs, (lay a xs).length = total xs
  | _, [] => rfl
  | a, p :: r => by simp [lay, total, bytes_len, lay_len]
theorem lay_app : ∀ a xs ys, lay a (xs ++ ys) = lay a xs ++ lay (lastT a xs) ys
  | _, [], _ => rfl
  | a, p :: r, ys => by simp [lay, lastT, lay_app]
theorem lastT_app : ∀ a xs ys, lastT a (xs ++ ys) = lastT (lastT a xs) ys
  | _, [], _ => rfl
  | a, p :: r, ys => by simp [lastT, lastT_app]
/-- Piece p begins at v. -/
def At : List Pc → Nat → Pc → Prop
  | [], _, _ => False
  | q :: ys, v, p => (v = 0 ∧ p = q) ∨ ∃ v', v = q.takes + v' ∧ At ys v' p
theorem at_app : ∀ (xs ys : List Pc) (v : Nat) (p : Pc), At (xs ++ ys) v p ↔ At xs v p ∨ ∃ v', v = total xs + v' ∧ At ys v' p
  | [], ys, v, p => by simp [At, total]
  | q :: xs, ys, v, p => by
    show (_ ∨ _) ↔ ((_ ∨ _) ∨ _)
    constructor
    · rintro (h | ⟨v', rfl, h⟩)
      · exact .inl (.inl h)
      · rcases (at_app xs ys v' p).1 h with k | ⟨v2, e, k⟩
        · exact .inl (.inr ⟨v', rfl, k⟩)
        · exact .inr ⟨v2, by simp [total, e, Nat.add_assoc], k⟩
    · rintro ((h | ⟨v', rfl, h⟩) | ⟨v2, rfl, h⟩)
      · exact .inl h
      · exact .inr ⟨v', rfl, (at_app xs ys v' p).2 (.inl h)⟩
      · exact .inr ⟨total xs + v2, by simp [total, Nat.add_assoc], (at_app xs ys _ p).2 (.inr ⟨v2, rfl, h⟩)⟩
theorem at_split : ∀ {xs : List Pc} {v : Nat} {p : Pc}, At xs v p → ∃ us bs, xs = us ++ p :: bs ∧ total us = v
  | q :: ys, v, p, h => by
    rcases h with ⟨rfl, rfl⟩ | ⟨v', rfl, h⟩
    · exact ⟨[], ys, rfl, rfl⟩
    · obtain ⟨us, bs, rfl, rfl⟩ := at_split h
      exact ⟨q :: us, bs, rfl, rfl⟩
theorem at_mem {xs : List Pc} {v : Nat} {p : Pc} (h : At xs v p) : p ∈ xs := by
  obtain ⟨us, bs, rfl, _⟩ := at_split h
  simp
theorem at_mid (us bs : List Pc) (p : Pc) : At (us ++ p :: bs) (total us) p := (at_app us _ _ p).2 (.inr ⟨0, by simp, .inl ⟨rfl, rfl⟩⟩)
theorem at_le {xs : List Pc} {v : Nat} {p : Pc} (h : At xs v p) : v + p.takes ≤ total xs := by
  obtain ⟨us, bs, rfl, rfl⟩ := at_split h
  rw [total_app]; simp only [total]; omega
theorem takes_pos (p : Pc) : 0 < p.takes := by unfold Pc.takes; omega
theorem at_uniq : ∀ {xs : List Pc} {v : Nat} {p q : Pc}, At xs v p → At xs v q → p = q
  | x :: ys, v, p, q, h, k => by
    have := takes_pos x
    rcases h with ⟨rfl, rfl⟩ | ⟨v', rfl, h⟩
    · rcases k with ⟨_, rfl⟩ | ⟨v2, e, _⟩
      · rfl
      · omega
    · rcases k with ⟨e, _⟩ | ⟨v2, e, k⟩
      · omega
      · obtain rfl : v' = v2 := by omega
        exact at_uniq h k
theorem total_mod : ∀ {xs : List Pc}, (∀ p ∈ xs, p.Ok) → total xs % 16 = 0
  | [], _ => rfl
  | p :: r, h => by
    have h1 := (h p (List.mem_cons_self ..)).m16
    have h2 := total_mod (xs := r) (fun q hq => h q (List.mem_cons_of_mem _ hq))
    simp only [total]; omega
theorem hd_fits {p : Pc} {a m : Nat} (h : p.Ok) (ht : p.takes ≤ 1048576) (ha : a ≤ 1048576) (_hm : m = m) : (p.hd a).fits := by
  refine ⟨h.own, ?_, by show a < _; omega⟩
  show p.size < 2097152
  cases hf : p.free
  · have := (h.bl hf).1; omega
  · have := h.fr hf; omega
theorem headAt_app (X D Y : List UInt8) (p : Head) (hp : p.fits) : headAt (X ++ (byte8 p.word ++ D) ++ Y) X.length = p := by
  unfold headAt
  have e : ((X ++ (byte8 p.word ++ D) ++ Y).drop X.length).take 8 = byte8 p.word := by
    rw [List.append_assoc, List.drop_left' rfl, List.append_assoc, List.take_left' (show (byte8 p.word).length = 8 from lastB_len 8 _)]
  rw [e]
  unfold byte8
  rw [wordOf_lastB, Nat.mod_eq_of_lt (word_lt hp), headOf_word hp]
theorem put_app (X B Y l : List UInt8) (h : B.length = l.length) : put (X ++ B ++ Y) X.length l = X ++ l ++ Y := by
  unfold put
  have e1 : (X ++ B ++ Y).take X.length = X := by rw [List.append_assoc, List.take_left' rfl]
  have e2 : (X ++ B ++ Y).drop (X.length + l.length) = Y := List.drop_left' (by simp [h])
  rw [e1, e2]
theorem putHd_app (X B Y : List UInt8) (p : Head) (h : B.length = 8) : putHd (X ++ B ++ Y) X.length p = X ++ byte8 p.word ++ Y := by
  unfold putHd
  exact put_app X B Y _ (by rw [h]; exact (lastB_len 8 _).symm)
theorem lastT_le : ∀ {xs : List Pc} {a m : Nat}, a ≤ m → total xs ≤ m → lastT a xs ≤ m
  | [], a, m, h, _ => h
  | p :: r, a, m, _, h => lastT_le (xs := r) (by simp only [total] at h; omega) (by simp only [total] at h; omega)
/-- The new free piece. -/
def mkFree (k : Nat) (raw : List UInt8) : Pc := ⟨true, false, k, raw.length, raw.drop 8⟩
theorem mkFree_takes {k : Nat} {raw : List UInt8} (h : 8 ≤ raw.length) : (mkFree k raw).takes = raw.length := by unfold mkFree Pc.takes; simp; omega
theorem mkFree_ok {k : Nat} {raw : List UInt8} (h : 16 ≤ raw.length) (h16 : raw.length % 16 = 0) (hk : k < 1048576) : (mkFree k raw).Ok := by
  have e := mkFree_takes (k := k) (raw := raw) (by omega)
  exact ⟨by rw [e]; exact h16, by rw [e]; exact h, hk, fun _ => e.symm, fun h => by cases h⟩
/-- putFree on a gap. -/
theorem putFree_mem (S : St) (xs ys : List Pc) (raw rest : List UInt8) (a' : Nat) (hm : S.mem = lay 0 xs ++ raw ++ lay a' ys ++ rest) (hr : rest.length < 16) (h16 : 16 ≤ raw.length) (hr16 : raw.length % 16 = 0)
    (hxs : ∀ p ∈ xs, p.Ok) (hys : ∀ p ∈ ys, p.Ok) (ha' : a' ≤ 1048576) (hl : S.mem.length ≤ 1048576) :
    (putFree S (total xs) raw.length (lastT 0 xs)).mem = lay 0 (xs ++ mkFree (push S.nd S.spare (cls raw.length) (total xs)).k raw :: ys) ++ rest := by
  have hlen : S.mem.length = total xs + raw.length + total ys + rest.length := by rw [hm]; simp [lay_len]; omega
  have tx := total_mod hxs
  have ty := total_mod hys
  unfold putFree
  simp only
  generalize (push S.nd S.spare (cls raw.length) (total xs)).k = k
  have e1 : putHd S.mem (total xs) ⟨true, false, k, raw.length, lastT 0 xs⟩ = lay 0 xs ++ (mkFree k raw).bytes (lastT 0 xs) ++ (lay a' ys ++ rest) := by
    have hs : S.mem = lay 0 xs ++ raw.take 8 ++ (raw.drop 8 ++ lay a' ys ++ rest) := by
      rw [hm]
      simp only [List.append_assoc]
      rw [← List.append_assoc (raw.take 8), List.take_append_drop]
    rw [hs]
    have := putHd_app (lay 0 xs) (raw.take 8) (raw.drop 8 ++ lay a' ys ++ rest) ⟨true, false, k, raw.length, lastT 0 xs⟩ (by simp; omega)
    rw [lay_len] at this
    rw [this]
    unfold Pc.bytes mkFree Pc.hd
    simp only [List.append_assoc]
  rw [e1]
  have hX : (lay 0 xs ++ (mkFree k raw).bytes (lastT 0 xs)).length = total xs + raw.length := by
    rw [List.length_append, lay_len, bytes_len, mkFree_takes (by omega)]
  cases ys with
  | nil =>
    have hge : ¬ (total xs + raw.length < S.mem.length / 16 * 16) := by simp [total] at hlen; omega
    rw [if_neg hge, lay_app]
    simp [lay]
  | cons q ys =>
    have hq := hys q (List.mem_cons_self ..)
    have hq16 := hq.ge
    simp only [total] at hlen
    have hlt : total xs + raw.length < S.mem.length / 16 * 16 := by omega
    rw [if_pos hlt]
    have e2 : lay 0 xs ++ (mkFree k raw).bytes (lastT 0 xs) ++ (lay a' (q :: ys) ++ rest) = (lay 0 xs ++ (mkFree k raw).bytes (lastT 0 xs)) ++ (byte8 (q.hd a').word ++ q.data) ++ (lay q.takes ys ++ rest) := by
      simp only [lay, Pc.bytes, List.append_assoc]
    rw [e2]
    have hfit := hd_fits (p := q) (a := a') (m := 0) hq (by omega) ha' rfl
    have h3 := headAt_app (lay 0 xs ++ (mkFree k raw).bytes (lastT 0 xs)) q.data (lay q.takes ys ++ rest) (q.hd a') hfit
    rw [hX] at h3
    rw [h3]
    have h4 := putHd_app (lay 0 xs ++ (mkFree k raw).bytes (lastT 0 xs)) (byte8 (q.hd a').word) (q.data ++ (lay q.takes ys ++ rest)) ⟨q.free, q.marked, q.owner, q.size, raw.length⟩ (lastB_len 8 _)
    rw [hX] at h4
    have e3 : (lay 0 xs ++ (mkFree k raw).bytes (lastT 0 xs)) ++ (byte8 (q.hd a').word ++ q.data) ++ (lay q.takes ys ++ rest) = (lay 0 xs ++ (mkFree k raw).bytes (lastT 0 xs)) ++ byte8 (q.hd a').word ++ (q.data ++ (lay q.takes ys ++ rest)) := by simp only [List.append_assoc]
    rw [e3]
    refine h4.trans ?_
    rw [lay_app]
    simp only [lay, mkFree_takes (k := k) (raw := raw) (by omega), Pc.bytes, Pc.hd, List.append_assoc]
end Ar
end Go.Proofs.YtdbaocphglijbaaDoor

/- Pieces beside a gap; what is free among them. -/
set_option maxRecDepth 100000
namespace Go.Proofs.YtdbaocphglijbaaDoor
namespace Ar
/-- Piece p begins at v, with a gap of g bytes behind xs. -/
def AtG (xs : List Pc) (g : Nat) (ys : List Pc) (v : Nat) (p : Pc) : Prop := At xs v p ∨ ∃ v', v = total xs + g + v' ∧ At ys v' p
theorem atG_zero (xs ys : List Pc) (v : Nat) (p : Pc) : AtG xs 0 ys v p ↔ At (xs ++ ys) v p := by unfold AtG; rw [at_app]; simp
theorem atG_cons (xs ys : List Pc) (g : Nat) (q : Pc) (v : Nat) (p : Pc) : AtG xs g (q :: ys) v p ↔ AtG xs (g + q.takes) ys v p ∨ (v = total xs + g ∧ p = q) := by
  unfold AtG
  constructor
  · rintro (h | ⟨v', rfl, h⟩)
    · exact .inl (.inl h)
    · rcases h with ⟨rfl, rfl⟩ | ⟨v2, rfl, h⟩
      · exact .inr ⟨rfl, rfl⟩
      · exact .inl (.inr ⟨v2, by omega, h⟩)
  · rintro ((h | ⟨v', rfl, h⟩) | ⟨rfl, rfl⟩)
    · exact .inl h
    · exact .inr ⟨q.takes + v', by omega, .inr ⟨v', rfl, h⟩⟩
    · exact .inr ⟨0, rfl, .inl ⟨rfl, rfl⟩⟩
theorem atG_snoc (xs ys : List Pc) (g : Nat) (r : Pc) (v : Nat) (p : Pc) : AtG (xs ++ [r]) g ys v p ↔ AtG xs (r.takes + g) ys v p ∨ (v = total xs ∧ p = r) := by
  unfold AtG
  rw [at_app, total_app]
  simp only [total, Nat.add_zero]
  constructor
  · rintro ((h | ⟨v', rfl, h⟩) | ⟨v', rfl, h⟩)
    · exact .inl (.inl h)
    · rcases h with ⟨rfl, rfl⟩ | ⟨v2, rfl, h⟩
      · exact .inr ⟨rfl, rfl⟩
      · exact h.elim
    · exact .inl (.inr ⟨v', by omega, h⟩)
  · rintro ((h | ⟨v', rfl, h⟩) | ⟨rfl, rfl⟩)
    · exact .inl (.inl h)
    · exact .inr ⟨v', by omega, h⟩
    · exact .inl (.inr ⟨0, rfl, .inl ⟨rfl, rfl⟩⟩)
theorem atG_fill (xs ys : List Pc) (m : Pc) (v : Nat) (p : Pc) : At (xs ++ m :: ys) v p ↔ AtG xs m.takes ys v p ∨ (v = total xs ∧ p = m) := by
  rw [← atG_zero, atG_cons]; simp
theorem atG_uniq {xs ys : List Pc} {g v : Nat} {p q : Pc} (h : AtG xs g ys v p) (k : AtG xs g ys v q) : p = q := by
  rcases h with h | ⟨v1, rfl, h⟩
  · rcases k with k | ⟨v2, e, _⟩
    · exact at_uniq h k
    · have := at_le h; have := takes_pos p; omega
  · rcases k with k | ⟨v2, e, k⟩
    · have := at_le k; have := takes_pos q; omega
    · obtain rfl : v1 = v2 := by omega
      exact at_uniq h k
/-- Nothing begins within the gap. -/
theorem atG_gap {xs ys : List Pc} {g v : Nat} {p : Pc} (h : AtG xs g ys v p) (h1 : total xs ≤ v) (h2 : v < total xs + g) : False := by
  rcases h with h | ⟨v1, rfl, h⟩
  · have := at_le h; have := takes_pos p; omega
  · omega
/-- E names the free pieces. -/
def Frees (E : Nat → Option (Nat × Nat)) (xs : List Pc) (g : Nat) (ys : List Pc) : Prop := ∀ i c v, E i = some (c, v) ↔ ∃ p, AtG xs g ys v p ∧ p.free = true ∧ p.owner = i ∧ cls p.size = c
theorem frees_off {E : Nat → Option (Nat × Nat)} {xs ys xs' ys' : List Pc} {g g' : Nat} {q : Pc} {u : Nat} (h : Frees E xs g ys) (hq : q.free = true) (hi : ∀ v p, AtG xs g ys v p ↔ AtG xs' g' ys' v p ∨ (v = u ∧ p = q)) (hn : ∀ p, ¬ AtG xs' g' ys' u p) : E q.owner = some (cls q.size, u) ∧ Frees (off E q.owner) xs' g' ys' := by
  have hE : E q.owner = some (cls q.size, u) := (h _ _ _).2 ⟨q, (hi u q).2 (.inr ⟨rfl, rfl⟩), hq, rfl, rfl⟩
  refine ⟨hE, fun i c v => ?_⟩
  constructor
  · intro hx
    by_cases e : i = q.owner
    · rw [e, off_same] at hx; cases hx
    · rw [off_ne E e] at hx
      obtain ⟨p, h1, h2, h3, h4⟩ := (h i c v).1 hx
      rcases (hi v p).1 h1 with h5 | ⟨_, rfl⟩
      · exact ⟨p, h5, h2, h3, h4⟩
      · exact absurd h3.symm e
  · rintro ⟨p, h1, h2, h3, h4⟩
    have hx := (h i c v).2 ⟨p, (hi v p).2 (.inl h1), h2, h3, h4⟩
    by_cases e : i = q.owner
    · rw [e, hE] at hx
      cases hx
      exact absurd h1 (hn p)
    · rw [off_ne E e]; exact hx
theorem frees_skip {E : Nat → Option (Nat × Nat)} {xs ys xs' ys' : List Pc} {g g' : Nat} {q : Pc} {u : Nat} (h : Frees E xs g ys) (hq : q.free = false) (hi : ∀ v p, AtG xs g ys v p ↔ AtG xs' g' ys' v p ∨ (v = u ∧ p = q)) : Frees E xs' g' ys' := fun i c v => by
  rw [h i c v]
  constructor
  · rintro ⟨p, h1, h2, h3, h4⟩
    rcases (hi v p).1 h1 with h5 | ⟨_, rfl⟩
    · exact ⟨p, h5, h2, h3, h4⟩
    · rw [hq] at h2; cases h2
  · rintro ⟨p, h1, h2, h3, h4⟩
    exact ⟨p, (hi v p).2 (.inl h1), h2, h3, h4⟩
/-- A block in the gap. -/
theorem frees_block {E : Nat → Option (Nat × Nat)} {xs ys : List Pc} {m : Pc} (h : Frees E xs m.takes ys) (hm : m.free = false) : Frees E (xs ++ [m]) 0 ys := fun i c v => by
  rw [h i c v]
  constructor
  · rintro ⟨p, h1, h2, h3, h4⟩
    exact ⟨p, (atG_snoc xs ys 0 m v p).2 (.inl h1), h2, h3, h4⟩
  · rintro ⟨p, h1, h2, h3, h4⟩
    rcases (atG_snoc xs ys 0 m v p).1 h1 with h5 | ⟨_, rfl⟩
    · exact ⟨p, h5, h2, h3, h4⟩
    · rw [hm] at h2; cases h2
/-- A free piece in the gap. -/
theorem frees_fill {E : Nat → Option (Nat × Nat)} {xs ys : List Pc} {k : Nat} {raw : List UInt8} (h : Frees E xs raw.length ys) (h8 : 8 ≤ raw.length) (hk : E k = none) : Frees (on E k (cls raw.length, total xs)) xs 0 (mkFree k raw :: ys) := fun i c v => by
  have ht := mkFree_takes (k := k) (raw := raw) h8
  constructor
  · intro hx
    by_cases e : i = k
    · rw [e, on_same] at hx
      cases hx
      exact ⟨mkFree k raw, (atG_cons _ _ _ _ _ _).2 (.inr ⟨by omega, rfl⟩), rfl, e.symm, rfl⟩
    · rw [on_ne E _ e] at hx
      obtain ⟨p, h1, h2, h3, h4⟩ := (h i c v).1 hx
      exact ⟨p, (atG_cons _ _ _ _ _ _).2 (.inl (by rw [ht, Nat.zero_add]; exact h1)), h2, h3, h4⟩
  · rintro ⟨p, h1, h2, h3, h4⟩
    rcases (atG_cons _ _ _ _ _ _).1 h1 with h5 | ⟨rfl, rfl⟩
    · rw [ht, Nat.zero_add] at h5
      have hx := (h i c v).2 ⟨p, h5, h2, h3, h4⟩
      have e : i ≠ k := fun e => by rw [e, hk] at hx; cases hx
      rw [on_ne E _ e]; exact hx
    · have e : k = i := h3
      have h4' : cls raw.length = c := h4
      rw [← e, on_same, ← h4']
      simp
/-- What the node of a free piece is. -/
theorem Ch.node {nd : List Node} {spare : Nat} {E : Nat → Option (Nat × Nat)} {sp : List Nat} (h : Ch nd spare E sp) {i : Nat} {x : Nat × Nat} (hx : E i = some x) : i < nd.length ∧ (nodeAt nd i).n < nd.length ∧ (nodeAt nd i).l < nd.length := by
  have hl := h.low i x hx
  have hlab : lab E i = some x.1 := by unfold lab; rw [if_neg (by omega), hx]; rfl
  exact ⟨hl.2.1, (lab_lt h (h.nx i _ hlab).1).1, (lab_lt h (h.pv i _ hlab).1).1⟩
theorem Ch.class {nd : List Node} {spare : Nat} {E : Nat → Option (Nat × Nat)} {sp : List Nat} (h : Ch nd spare E sp) {c : Nat} (hc : c < 17) : c < nd.length ∧ (nodeAt nd c).n < nd.length := by
  have hlab : lab E c = some c := by unfold lab; rw [if_pos hc]
  exact ⟨by have := h.len; omega, (lab_lt h (h.nx c _ hlab).1).1⟩
/-- The first of a class. -/
theorem Ch.first {nd : List Node} {spare : Nat} {E : Nat → Option (Nat × Nat)} {sp : List Nat} (h : Ch nd spare E sp) {c : Nat} (hc : c < 17) (hne : (nodeAt nd c).n ≠ c) : E (nodeAt nd c).n = some (c, (nodeAt nd (nodeAt nd c).n).v) := by
  have hlab : lab E c = some c := by unfold lab; rw [if_pos hc]
  have hn := (h.nx c _ hlab).1
  unfold lab at hn
  split at hn
  · exact absurd (Option.some.inj hn) hne
  · obtain ⟨⟨x, y⟩, hx, rfl⟩ := Option.map_eq_some_iff.1 hn
    rw [h.val _ _ _ hx]
    exact hx
/-- How many nodes there are: pieces have at least 16 bytes. -/
theorem nodup_le {α : Type} [DecidableEq α] : ∀ {l m : List α}, l.Nodup → (∀ x ∈ l, x ∈ m) → l.length ≤ m.length
  | [], m, _, _ => Nat.zero_le _
  | x :: l, m, h, hs => by
    obtain ⟨h1, h2⟩ := List.nodup_cons.1 h
    have hx := hs x (List.mem_cons_self ..)
    have := nodup_le (l := l) (m := m.erase x) h2 (fun y hy => (List.mem_erase_of_ne (fun e => h1 (by rw [← e]; exact hy))).2 (hs y (List.mem_cons_of_mem _ hy)))
    rw [List.length_erase_of_mem hx] at this
    have : 0 < m.length := List.length_pos_of_mem hx
    simp only [List.length_cons]; omega
theorem total_ge : ∀ {xs : List Pc}, (∀ p ∈ xs, p.Ok) → 16 * xs.length ≤ total xs
  | [], _ => Nat.zero_le _
  | p :: r, h => by
    have := (h p (List.mem_cons_self ..)).ge
    have := total_ge (xs := r) (fun q hq => h q (List.mem_cons_of_mem _ hq))
    simp only [total, List.length_cons]; omega
end Ar
end Go.Proofs.YtdbaocphglijbaaDoor

/- release, on pieces. -/
set_option maxRecDepth 100000
namespace Go.Proofs.YtdbaocphglijbaaDoor
namespace Ar
/-- The memory with a gap, and its free pieces. -/
structure Gap (S : St) (xs : List Pc) (raw : List UInt8) (a' : Nat) (ys : List Pc) (rest : List UInt8) (E : Nat → Option (Nat × Nat)) (sp : List Nat) : Prop where
  mem : S.mem = lay 0 xs ++ raw ++ lay a' ys ++ rest
  rest : rest.length < 16
  lim : S.mem.length ≤ 1048576
  oxs : ∀ p ∈ xs, p.Ok
  oys : ∀ p ∈ ys, p.Ok
  a' : a' ≤ 1048576
  ch : Ch S.nd S.spare E sp
  fr : Frees E xs raw.length ys
  nd : S.nd.length < 190000
theorem Gap.len {S : St} {xs ys : List Pc} {raw rest : List UInt8} {a' : Nat} {E : Nat → Option (Nat × Nat)} {sp : List Nat} (h : Gap S xs raw a' ys rest E sp) : S.mem.length = total xs + raw.length + total ys + rest.length := by rw [h.mem]; simp [lay_len]; omega
theorem Gap.fin {S : St} {xs ys : List Pc} {raw rest : List UInt8} {a' : Nat} {E : Nat → Option (Nat × Nat)} {sp : List Nat} (h : Gap S xs raw a' ys rest E sp) (hr : raw.length % 16 = 0) : fin S = total xs + raw.length + total ys := by
  have := h.len
  have := total_mod h.oxs
  have := total_mod h.oys
  have := h.rest
  unfold Ar.fin
  omega
/-- The head of the piece behind the gap. -/
theorem Gap.headR {S : St} {xs ys : List Pc} {raw rest : List UInt8} {a' : Nat} {E : Nat → Option (Nat × Nat)} {sp : List Nat} {q : Pc} (h : Gap S xs raw a' (q :: ys) rest E sp) : headAt S.mem (total xs + raw.length) = q.hd a' := by
  have hl := h.len
  simp only [total] at hl
  have hlim := h.lim
  have hf := hd_fits (p := q) (a := a') (m := 0) (h.oys q (List.mem_cons_self ..)) (by omega) h.a' rfl
  have h3 := headAt_app (lay 0 xs ++ raw) q.data (lay q.takes ys ++ rest) (q.hd a') hf
  rw [List.length_append, lay_len] at h3
  rw [h.mem]
  have e : lay 0 xs ++ raw ++ lay a' (q :: ys) ++ rest = (lay 0 xs ++ raw) ++ (byte8 (q.hd a').word ++ q.data) ++ (lay q.takes ys ++ rest) := by simp only [lay, Pc.bytes, List.append_assoc]
  rw [e]; exact h3
/-- The head of the piece ahead of the gap. -/
theorem Gap.headL {S : St} {xs ys : List Pc} {raw rest : List UInt8} {a' : Nat} {E : Nat → Option (Nat × Nat)} {sp : List Nat} {r : Pc} (h : Gap S (xs ++ [r]) raw a' ys rest E sp) : headAt S.mem (total xs) = r.hd (lastT 0 xs) := by
  have hl := h.len
  rw [total_app] at hl
  simp only [total] at hl
  have hlim := h.lim
  have hf := hd_fits (p := r) (a := lastT 0 xs) (m := 0) (h.oxs r (by simp)) (by omega) (lastT_le (by omega) (by omega)) rfl
  have h3 := headAt_app (lay 0 xs) r.data (raw ++ lay a' ys ++ rest) (r.hd (lastT 0 xs)) hf
  rw [lay_len] at h3
  rw [h.mem, lay_app]
  have e : lay 0 xs ++ lay (lastT 0 xs) [r] ++ raw ++ lay a' ys ++ rest = lay 0 xs ++ (byte8 (r.hd (lastT 0 xs)).word ++ r.data) ++ (raw ++ lay a' ys ++ rest) := by simp only [lay, Pc.bytes, List.append_assoc, List.append_nil]
  rw [e]; exact h3
/-- What is left when the piece behind the gap is taken into it. -/
theorem Gap.right {S : St} {xs ys : List Pc} {raw rest : List UInt8} {a' : Nat} {E : Nat → Option (Nat × Nat)} {sp : List Nat} {q : Pc} (h : Gap S xs raw a' (q :: ys) rest E sp) (hf : q.free = true) :
    Gap { S with nd := dropN S.nd q.owner S.spare, spare := q.owner } xs (raw ++ q.bytes a') q.takes ys rest (off E q.owner) (q.owner :: sp) ∧ q.owner < S.nd.length ∧ (nodeAt S.nd q.owner).n < S.nd.length ∧ (nodeAt S.nd q.owner).l < S.nd.length := by
  obtain ⟨hE, hF⟩ := frees_off (u := total xs + raw.length) h.fr hf (fun v p => atG_cons xs ys raw.length q v p) (fun p hp => atG_gap hp (by omega) (by have := takes_pos q; omega))
  have hl := h.len
  simp only [total] at hl
  have hlim := h.lim
  refine ⟨⟨?_, h.rest, h.lim, h.oxs, fun p hp => h.oys p (List.mem_cons_of_mem _ hp), by omega, h.ch.drop hE, ?_, ?_⟩, h.ch.node hE⟩
  · rw [show ({ S with nd := dropN S.nd q.owner S.spare, spare := q.owner } : St).mem = S.mem from rfl, h.mem]
    simp only [lay, List.append_assoc]
  · rw [List.length_append, bytes_len]; exact hF
  · show (dropN _ _ _).length < _
    rw [dropN_len]; exact h.nd
theorem Gap.left {S : St} {xs ys : List Pc} {raw rest : List UInt8} {a' : Nat} {E : Nat → Option (Nat × Nat)} {sp : List Nat} {r : Pc} (h : Gap S (xs ++ [r]) raw a' ys rest E sp) (hf : r.free = true) :
    Gap { S with nd := dropN S.nd r.owner S.spare, spare := r.owner } xs (r.bytes (lastT 0 xs) ++ raw) a' ys rest (off E r.owner) (r.owner :: sp) ∧ r.owner < S.nd.length ∧ (nodeAt S.nd r.owner).n < S.nd.length ∧ (nodeAt S.nd r.owner).l < S.nd.length := by
  obtain ⟨hE, hF⟩ := frees_off (u := total xs) h.fr hf (fun v p => atG_snoc xs ys raw.length r v p) (fun p hp => atG_gap hp (by omega) (by have := takes_pos r; omega))
  refine ⟨⟨?_, h.rest, h.lim, fun p hp => h.oxs p (by simp [hp]), h.oys, h.a', h.ch.drop hE, ?_, ?_⟩, h.ch.node hE⟩
  · rw [show ({ S with nd := dropN S.nd r.owner S.spare, spare := r.owner } : St).mem = S.mem from rfl, h.mem, lay_app]
    simp only [lay, List.append_assoc, List.append_nil]
  · rw [List.length_append, bytes_len]; exact hF
  · show (dropN _ _ _).length < _
    rw [dropN_len]; exact h.nd
/-- putFree fills the gap. -/
theorem Gap.fill {S : St} {xs ys : List Pc} {raw rest : List UInt8} {a' : Nat} {E : Nat → Option (Nat × Nat)} {sp : List Nat} (h : Gap S xs raw a' ys rest E sp) (h16 : 16 ≤ raw.length) (hr16 : raw.length % 16 = 0) :
    PutOk S (total xs) raw.length (lastT 0 xs) ∧ ∃ k E' sp', k < 1048576 ∧ (putFree S (total xs) raw.length (lastT 0 xs)).mem = lay 0 (xs ++ mkFree k raw :: ys) ++ rest ∧ Ch (putFree S (total xs) raw.length (lastT 0 xs)).nd (putFree S (total xs) raw.length (lastT 0 xs)).spare E' sp' ∧ Frees E' xs 0 (mkFree k raw :: ys) := by
  have hl := h.len
  have hlim := h.lim
  have htx := total_mod h.oxs
  have hcl := (cls_spec (s := raw.length) h16 (by omega)).2.2
  have hcc := h.ch.class (c := cls raw.length) (by omega)
  obtain ⟨f1, f2, f3, f4, f5⟩ := h.ch.fresh (cls raw.length) (total xs)
  obtain ⟨sp', hch⟩ := h.ch.push (c := cls raw.length) (total xs) (by omega)
  have hnd := h.nd
  refine ⟨⟨h16, by omega, by omega, lastT_le (by omega) (by omega), hcc.1, hcc.2, h.ch.spare_lt, by omega⟩, (push S.nd S.spare (cls raw.length) (total xs)).k, _, sp', by omega, putFree_mem S xs ys raw rest a' h.mem h.rest h16 hr16 h.oxs h.oys h.a' h.lim, hch, frees_fill h.fr (by omega) f2⟩
end Ar
end Go.Proofs.YtdbaocphglijbaaDoor

/- release, on pieces: the whole. -/
set_option maxRecDepth 100000
namespace Go.Proofs.YtdbaocphglijbaaDoor
namespace Ar
def blocks (xs : List Pc) : List Pc := xs.filter fun p => !p.free
theorem blocks_app (xs ys : List Pc) : blocks (xs ++ ys) = blocks xs ++ blocks ys := List.filter_append ..
theorem blocks_free {p : Pc} (xs : List Pc) (h : p.free = true) : blocks (p :: xs) = blocks xs := by unfold blocks; rw [List.filter_cons]; simp [h]
theorem blocks_block {p : Pc} (xs : List Pc) (h : p.free = false) : blocks (p :: xs) = p :: blocks xs := by unfold blocks; rw [List.filter_cons]; simp [h]
theorem head_takes {p : Pc} (h : p.Ok) (a : Nat) : (p.hd a).takes = p.takes := by
  unfold Head.takes Pc.hd
  simp only
  cases hf : p.free
  · simp only [Bool.false_eq_true, if_false]
    rw [costI_nat (h.bl hf).1]; exact (h.bl hf).2
  · simp only [if_true]; exact h.fr hf
/-- The piece itself becomes the gap. -/
theorem Gap.own {S : St} {xs ys : List Pc} {rest : List UInt8} {a' : Nat} {E : Nat → Option (Nat × Nat)} {sp : List Nat} {p : Pc} (h : Gap S xs [] a' (p :: ys) rest E sp) (hf : p.free = false) : Gap S xs (p.bytes a') p.takes ys rest E sp := by
  have hl := h.len
  simp only [total, List.length_nil] at hl
  have hlim := h.lim
  refine ⟨?_, h.rest, h.lim, h.oxs, fun q hq => h.oys q (List.mem_cons_of_mem _ hq), by omega, h.ch, ?_, h.nd⟩
  · rw [h.mem]; simp only [lay, List.append_assoc, List.append_nil]
  · rw [bytes_len]
    refine frees_skip (u := total xs) h.fr hf (fun v b => ?_)
    have := atG_cons xs ys 0 p v b
    simpa using this
/-- The step to the right. -/
structure RStep (S : St) (xs : List Pc) (p : Pc) (a0 : Nat) (ys : List Pc) (rest : List UInt8) (q : Head) (bq : Bool) (S1 : St) (ys1 : List Pc) (raw1 : List UInt8) (a1 : Nat) (E1 : Nat → Option (Nat × Nat)) (sp1 : List Nat) : Prop where
  took : tookFree S (total xs + p.takes) = (q, bq)
  take : takeFree S (total xs + p.takes) = S1
  ok : TakeOk S (total xs + p.takes)
  gap : Gap S1 xs raw1 a1 ys1 rest E1 sp1
  size : raw1.length = relSize p.takes q bq
  m16 : raw1.length % 16 = 0
  q : q.size ≤ 1048576
  pre : ∃ t, raw1 = p.bytes a0 ++ t
  at_ : ∀ v b, b.free = false → (AtG xs raw1.length ys1 v b ↔ AtG xs p.takes ys v b)
  bl : blocks ys1 = blocks ys
  mem : S1.mem = S.mem
  rem : S1.used = S.used ∧ S1.pl = S.pl ∧ S1.us = S.us ∧ S1.low = S.low
theorem right_step {S : St} {xs ys : List Pc} {rest : List UInt8} {a0 : Nat} {E : Nat → Option (Nat × Nat)} {sp : List Nat} {p : Pc} (h : Gap S xs [] a0 (p :: ys) rest E sp) (hf : p.free = false) :
    ∃ q bq S1 ys1 raw1 a1 E1 sp1, RStep S xs p a0 ys rest q bq S1 ys1 raw1 a1 E1 sp1 := by
  have g := h.own hf
  have hp := h.oys p (List.mem_cons_self ..)
  have hbl := bytes_len p a0
  have hfin := g.fin (by rw [hbl]; exact hp.m16)
  have hlen := g.len
  have hlim := g.lim
  rw [hbl] at hfin hlen
  have hnd := g.nd
  cases ys with
  | nil =>
    simp only [total, Nat.add_zero] at hfin
    refine ⟨⟨false, false, 0, 0, 0⟩, false, S, [], p.bytes a0, p.takes, E, sp, ?_, ?_, ?_, g, ?_, by rw [hbl]; exact hp.m16, by simp, ⟨[], by simp⟩, fun v b _ => by rw [hbl], rfl, rfl, rfl, rfl, rfl, rfl⟩
    · unfold tookFree; rw [if_pos hfin.symm]
    · unfold takeFree; rw [if_pos hfin.symm]
    · exact ⟨fun e => absurd hfin.symm e, fun e => absurd hfin.symm e, by omega⟩
    · rw [hbl]; rfl
  | cons q ys =>
    have hq := h.oys q (List.mem_cons_of_mem _ (List.mem_cons_self ..))
    have hqp := hq.ge
    simp only [total] at hfin hlen
    have hne : ¬ (total xs + p.takes = fin S) := by omega
    have hh := g.headR
    rw [hbl] at hh
    have hft : (q.hd p.takes).fits := hd_fits (m := 0) hq (by omega) (by omega) rfl
    have hqs : (q.hd p.takes).size ≤ 1048576 := by
      show q.size ≤ _
      cases hf2 : q.free
      · have := (hq.bl hf2).1; omega
      · have := hq.fr hf2; omega
    cases hqf : q.free with
    | true =>
      obtain ⟨g2, n1, n2, n3⟩ := g.right hqf
      refine ⟨q.hd p.takes, true, _, ys, _, _, _, _, ?_, ?_, ?_, g2, ?_, ?_, hqs, ⟨_, rfl⟩, fun v b hb => ?_, (blocks_free ys hqf).symm, rfl, rfl, rfl, rfl, rfl⟩
      · unfold tookFree; rw [if_neg hne, hh]; exact Prod.ext rfl hqf
      · unfold takeFree; rw [if_neg hne, hh, if_pos (show (q.hd p.takes).free = true from hqf)]; rfl
      · refine ⟨fun _ => by omega, fun _ _ => ?_, by omega⟩
        rw [hh]; exact ⟨n1, n2, n3⟩
      · rw [List.length_append, hbl, bytes_len]
        show p.takes + q.takes = p.takes + q.size
        rw [hq.fr hqf]
      · rw [List.length_append, hbl, bytes_len]; have := hp.m16; have := hq.m16; omega
      · rw [List.length_append, hbl, bytes_len, atG_cons]
        constructor
        · exact .inl
        · rintro (h1 | ⟨_, rfl⟩)
          · exact h1
          · rw [hqf] at hb; cases hb
    | false =>
      refine ⟨q.hd p.takes, false, S, q :: ys, p.bytes a0, p.takes, E, sp, ?_, ?_, ?_, g, by rw [hbl]; rfl, by rw [hbl]; exact hp.m16, hqs, ⟨[], by simp⟩, fun v b _ => by rw [hbl], rfl, rfl, rfl, rfl, rfl, rfl⟩
      · unfold tookFree; rw [if_neg hne, hh]; exact Prod.ext rfl hqf
      · unfold takeFree; rw [if_neg hne, hh, if_neg (by show ¬ q.free = true; rw [hqf]; decide)]
      · refine ⟨fun _ => by omega, fun _ h2 => ?_, by omega⟩
        rw [hh] at h2
        have : q.free = true := h2
        rw [hqf] at this; cases this
/-- The step to the left. -/
structure LStep (S1 : St) (xs : List Pc) (p : Pc) (raw1 : List UInt8) (a1 : Nat) (ys1 : List Pc) (rest : List UInt8) (r : Head) (br : Bool) (S2 : St) (xs2 : List Pc) (raw2 : List UInt8) (E2 : Nat → Option (Nat × Nat)) (sp2 : List Nat) : Prop where
  le : lastT 0 xs ≤ total xs
  took : tookFree S1 (total xs - lastT 0 xs) = (r, br)
  take : takeFree S1 (total xs - lastT 0 xs) = S2
  ok : TakeOk S1 (total xs - lastT 0 xs)
  gap : Gap S2 xs2 raw2 a1 ys1 rest E2 sp2
  pos : (br = true → total xs2 = total xs - lastT 0 xs ∧ lastT 0 xs2 = r.ahead ∧ raw2.length = raw1.length + r.size) ∧ (br = false → xs2 = xs ∧ raw2 = raw1)
  m16 : raw2.length % 16 = 0
  r : r.size ≤ 1048576
  at_ : ∀ v b, b.free = false → (AtG xs2 raw2.length ys1 v b ↔ AtG xs raw1.length ys1 v b)
  bl : blocks xs2 = blocks xs
  rem : S2.used = S1.used ∧ S2.pl = S1.pl ∧ S2.us = S1.us ∧ S2.low = S1.low
theorem lastT_snoc (xs : List Pc) (r : Pc) (a : Nat) : lastT a (xs ++ [r]) = r.takes := by rw [lastT_app]; rfl
theorem left_step {S1 : St} {xs ys1 : List Pc} {raw1 rest : List UInt8} {a0 a1 : Nat} {E1 : Nat → Option (Nat × Nat)} {sp1 : List Nat} {p : Pc} (g : Gap S1 xs raw1 a1 ys1 rest E1 sp1) (hp : p.Ok) (hf : p.free = false) (ha0 : a0 ≤ 1048576) (h16 : raw1.length % 16 = 0) (hpre : ∃ t, raw1 = p.bytes a0 ++ t) :
    ∃ r br S2 xs2 raw2 E2 sp2, LStep S1 xs p raw1 a1 ys1 rest r br S2 xs2 raw2 E2 sp2 := by
  obtain ⟨t, ht⟩ := hpre
  have hbl := bytes_len p a0
  have hpg := hp.ge
  have hrl : 16 ≤ raw1.length := by rw [ht, List.length_append, hbl]; omega
  have hfin := g.fin h16
  have hlen := g.len
  have hlim := g.lim
  have hnd := g.nd
  rcases List.eq_nil_or_concat xs with rfl | ⟨xs', r, hx⟩
  · have hh : headAt S1.mem 0 = p.hd a0 := by
      have hfit := hd_fits (p := p) (a := a0) (m := 0) hp (by rw [ht, List.length_append, hbl] at hlen; omega) ha0 rfl
      have := headAt_app [] p.data (t ++ lay a1 ys1 ++ rest) (p.hd a0) hfit
      rw [g.mem, ht]
      simp only [lay, List.nil_append, List.append_assoc, Pc.bytes, List.length_nil] at this ⊢
      exact this
    simp only [total] at hfin hlen
    have hne : ¬ ((0 : Nat) - 0 = fin S1) := by omega
    refine ⟨p.hd a0, false, S1, [], raw1, E1, sp1, Nat.le_refl _, ?_, ?_, ?_, g, ⟨(fun e => by cases e), fun _ => ⟨rfl, rfl⟩⟩, h16, ?_, fun _ _ _ => Iff.rfl, rfl, rfl, rfl, rfl, rfl⟩
    · show tookFree S1 (0 - 0) = _
      unfold tookFree; rw [if_neg hne, hh]; exact Prod.ext rfl hf
    · show takeFree S1 (0 - 0) = _
      unfold takeFree; rw [if_neg hne, hh, if_neg (by show ¬ p.free = true; rw [hf]; decide)]
    · show TakeOk S1 (0 - 0)
      refine ⟨fun _ => by omega, fun _ h2 => ?_, by omega⟩
      rw [hh] at h2
      have : p.free = true := h2
      rw [hf] at this; cases this
    · show p.size ≤ _
      have := (hp.bl hf).1; omega
  · rw [List.concat_eq_append] at hx
    subst hx
    have hr := g.oxs r (by simp)
    have hrg := hr.ge
    have hh := g.headL
    rw [total_app] at hfin hlen
    simp only [total, Nat.add_zero] at hfin hlen
    have hpos : total (xs' ++ [r]) - lastT 0 (xs' ++ [r]) = total xs' := by rw [total_app, lastT_snoc]; simp [total]
    have hle : lastT 0 (xs' ++ [r]) ≤ total (xs' ++ [r]) := by rw [total_app, lastT_snoc]; simp [total]
    have hne : ¬ (total xs' = fin S1) := by omega
    have hrs : (r.hd (lastT 0 xs')).size ≤ 1048576 := by
      show r.size ≤ _
      cases hf2 : r.free
      · have := (hr.bl hf2).1; omega
      · have := hr.fr hf2; omega
    cases hrf : r.free with
    | true =>
      obtain ⟨g2, n1, n2, n3⟩ := g.left hrf
      refine ⟨r.hd (lastT 0 xs'), true, _, xs', _, _, _, hle, ?_, ?_, ?_, g2, ⟨fun _ => ⟨hpos.symm, rfl, ?_⟩, (fun e => by cases e)⟩, ?_, hrs, fun v b hb => ?_, ?_, rfl, rfl, rfl, rfl⟩
      · rw [hpos]; unfold tookFree; rw [if_neg hne, hh]; exact Prod.ext rfl hrf
      · rw [hpos]; unfold takeFree; rw [if_neg hne, hh, if_pos (show (r.hd (lastT 0 xs')).free = true from hrf)]; rfl
      · rw [hpos]
        refine ⟨fun _ => by omega, fun _ _ => ?_, by omega⟩
        rw [hh]; exact ⟨n1, n2, n3⟩
      · rw [List.length_append, bytes_len]
        show r.takes + raw1.length = raw1.length + r.size
        rw [hr.fr hrf]; omega
      · rw [List.length_append, bytes_len]; have := hr.m16; omega
      · rw [List.length_append, bytes_len, atG_snoc]
        constructor
        · exact .inl
        · rintro (h1 | ⟨_, rfl⟩)
          · exact h1
          · rw [hrf] at hb; cases hb
      · rw [blocks_app, blocks_free [] hrf]; simp [blocks]
    | false =>
      refine ⟨r.hd (lastT 0 xs'), false, S1, xs' ++ [r], raw1, E1, sp1, hle, ?_, ?_, ?_, g, ⟨(fun e => by cases e), fun _ => ⟨rfl, rfl⟩⟩, h16, hrs, fun _ _ _ => Iff.rfl, rfl, rfl, rfl, rfl, rfl⟩
      · rw [hpos]; unfold tookFree; rw [if_neg hne, hh]; exact Prod.ext rfl hrf
      · rw [hpos]; unfold takeFree; rw [if_neg hne, hh, if_neg (by show ¬ r.free = true; rw [hrf]; decide)]
      · rw [hpos]
        refine ⟨fun _ => by omega, fun _ h2 => ?_, by omega⟩
        rw [hh] at h2
        have : r.free = true := h2
        rw [hrf] at this; cases this
end Ar
end Go.Proofs.YtdbaocphglijbaaDoor
