/- Heaps in a list: mathematics. -/
import Derived.WalkKit
/- Heaps in a list: mathematics. -/
namespace Go.Proofs.Ytchlemajppnehaa
namespace Hp
def above (p : Nat) : Nat := (p - 1) / 2
def upd (a : Nat → Nat) (i v : Nat) : Nat → Nat := fun p => if p = i then v else a p
theorem upd_self (a : Nat → Nat) (i v : Nat) : upd a i v i = v := by simp [upd]
theorem upd_ne (a : Nat → Nat) {i p : Nat} (v : Nat) (h : p ≠ i) : upd a i v p = a p := by simp [upd, h]
theorem upd_upd (a : Nat → Nat) (i u v : Nat) : upd (upd a i u) i v = upd a i v := by
  funext p; unfold upd; split <;> rfl
theorem above_lt {p : Nat} (h : 0 < p) : above p < p := by unfold above; omega
/-- A list with the places of its elements, as far as they are kept (none is, of an empty list of places). -/
structure Sp where
  l : List Nat
  pl : List Nat
def Sp.at_ (s : Sp) : Nat → Nat := fun p => s.l.getD p 0
def Sp.put (s : Sp) (x p : Nat) : Sp := ⟨s.l.set p x, s.pl.set x p⟩
theorem at_put (s : Sp) {x p : Nat} (h : p < s.l.length) : (s.put x p).at_ = upd s.at_ p x := by
  funext q
  unfold Sp.at_ Sp.put upd
  simp only [List.getD_eq_getElem?_getD, List.getElem?_set]
  by_cases e : p = q
  · subst e; simp [h]
  · simp [e, Ne.symm e]
theorem put_len (s : Sp) (x p : Nat) : (s.put x p).l.length = s.l.length := by simp [Sp.put]
/-- Keys in order: a total preorder by a strict part. -/
structure Ord (lt : Nat → Nat → Bool) : Prop where
  asym : ∀ a b, lt a b = true → lt b a = false
  neg : ∀ a b c, lt a b = false → lt b c = false → lt a c = false
theorem Ord.irr {lt : Nat → Nat → Bool} (h : Ord lt) (a : Nat) : lt a a = false := by
  cases e : lt a a with
  | false => rfl
  | true => rw [← e]; exact (e.symm ▸ h.asym a a e)
variable (lt : Nat → Nat → Bool)
def rise (s : Sp) (x p : Nat) : Sp × Nat :=
  if _h : 0 < p then
    if lt x (s.at_ (above p)) then rise (s.put (s.at_ (above p)) p) x (above p) else (s.put x p, p)
  else (s.put x p, p)
termination_by p
decreasing_by exact above_lt _h
/-- Which of the two below goes ahead. -/
def next (s : Sp) (p : Nat) : Nat × Bool :=
  if 2 * p + 2 < s.l.length ∧ lt (s.at_ (2 * p + 2)) (s.at_ (2 * p + 1)) = true then (2 * p + 2, true) else (2 * p + 1, decide (2 * p + 1 < s.l.length))
theorem next_lt {s : Sp} {p : Nat} (h : (next lt s p).2 = true) : p < (next lt s p).1 ∧ (next lt s p).1 < s.l.length := by
  unfold next at h ⊢
  split at h
  · rename_i h1
    rw [if_pos h1]
    exact ⟨by show p < 2 * p + 2; omega, h1.1⟩
  · rename_i h1
    rw [if_neg h1]
    exact ⟨by show p < 2 * p + 1; omega, by simpa using h⟩
def sink (s : Sp) (x p : Nat) : Sp :=
  if _h : (next lt s p).2 = true ∧ lt (s.at_ (next lt s p).1) x = true then sink (s.put (s.at_ (next lt s p).1) p) x (next lt s p).1 else s.put x p
termination_by s.l.length - p
decreasing_by
  rw [put_len]
  have := next_lt lt _h.1
  omega
/-- One goes in. -/
def push (s : Sp) (x : Nat) : Sp := (rise lt ⟨s.l ++ [x], s.pl⟩ x s.l.length).1
/-- One goes out; the last one comes in for it. -/
def refill (s1 : Sp) (y p e : Nat) : Sp := if p < e then (if (rise lt s1 y p).2 = p then sink lt (rise lt s1 y p).1 y p else (rise lt s1 y p).1) else s1
def take (s : Sp) (p : Nat) : Nat × Sp := (s.at_ p, refill lt ⟨s.l.take (s.l.length - 1), s.pl⟩ (s.at_ (s.l.length - 1)) p (s.l.length - 1))
def Ok (n : Nat) (a : Nat → Nat) : Prop := ∀ p, 0 < p → p < n → lt (a p) (a (above p)) = false
def Inj (n : Nat) (a : Nat → Nat) : Prop := ∀ p q, p < n → q < n → a p = a q → p = q
def Rng (n : Nat) (a : Nat → Nat) (S : Nat → Prop) : Prop := ∀ v, (∃ p, p < n ∧ a p = v) ↔ S v
/-- Each of the list (with x at a place) but the one at that place is where it says. -/
def PlB (n : Nat) (s : Sp) (hole : Nat) : Prop := ∀ p, p < n → p ≠ hole → s.pl[s.at_ p]? = some p
def Pl (n : Nat) (s : Sp) : Prop := ∀ p, p < n → s.pl[s.at_ p]? = some p
theorem swap_inj {n : Nat} {a : Nat → Nat} {x i j : Nat} (hi : i < n) (hj : j < n) (hne : i ≠ j) (h : Inj n (upd a i x)) : Inj n (upd (upd a i (a j)) j x) := by
  -- behind the swap the value at p is what stood at σ p
  have key : ∀ p, p < n → ∃ r, r < n ∧ upd (upd a i (a j)) j x p = upd a i x r ∧ (p = i → r = j) ∧ (p = j → r = i) ∧ (p ≠ i → p ≠ j → r = p) := by
    intro p hp
    by_cases p2 : p = j
    · exact ⟨i, hi, by subst p2; rw [upd_self, upd_self], fun e => absurd (e.symm.trans p2) hne, fun _ => rfl, fun _ e => absurd p2 e⟩
    · by_cases p1 : p = i
      · exact ⟨j, hj, by subst p1; rw [upd_ne _ _ p2, upd_self, upd_ne _ _ (Ne.symm hne)], fun _ => rfl, fun e => absurd e p2, fun e => absurd p1 e⟩
      · exact ⟨p, hp, by rw [upd_ne _ _ p2, upd_ne _ _ p1, upd_ne _ _ p1], fun e => absurd e p1, fun e => absurd e p2, fun _ _ => rfl⟩
  intro p q hp hq e
  obtain ⟨r, hr, e1, a1, a2, a3⟩ := key p hp
  obtain ⟨t, ht, e2, b1, b2, b3⟩ := key q hq
  have := h r t hr ht (by rw [← e1, ← e2, e])
  by_cases p1 : p = i <;> by_cases p2 : p = j <;> by_cases q1 : q = i <;> by_cases q2 : q = j <;> (try have := a1 p1) <;> (try have := a2 p2) <;> (try have := a3 p1 p2) <;> (try have := b1 q1) <;> (try have := b2 q2) <;> (try have := b3 q1 q2) <;> omega
theorem swap_rng {n : Nat} {a : Nat → Nat} {x i j : Nat} {S : Nat → Prop} (hi : i < n) (hj : j < n) (hne : i ≠ j) (h : Rng n (upd a i x) S) : Rng n (upd (upd a i (a j)) j x) S := by
  intro v
  rw [← h v]
  constructor
  · rintro ⟨p, hp, rfl⟩
    by_cases p2 : p = j
    · exact ⟨i, hi, by subst p2; rw [upd_self, upd_self]⟩
    · by_cases p1 : p = i
      · exact ⟨j, hj, by subst p1; rw [upd_ne _ _ p2, upd_self, upd_ne _ _ (Ne.symm hne)]⟩
      · exact ⟨p, hp, by rw [upd_ne _ _ p2, upd_ne _ _ p1, upd_ne _ _ p1]⟩
  · rintro ⟨p, hp, rfl⟩
    by_cases p1 : p = i
    · exact ⟨j, hj, by subst p1; rw [upd_self, upd_self]⟩
    · by_cases p2 : p = j
      · exact ⟨i, hi, by subst p2; rw [upd_ne _ _ hne, upd_self, upd_ne _ _ p1]⟩
      · exact ⟨p, hp, by rw [upd_ne _ _ p2, upd_ne _ _ p1, upd_ne _ _ p1]⟩
/-- What becomes of the set, and of the places: the end. -/
structure Fin (n : Nat) (S : Nat → Prop) (s0 s : Sp) : Prop where
  len : s.l.length = n
  inj : Inj n s.at_
  rng : Rng n s.at_ S
  plen : s.pl.length = s0.pl.length
  place : ∀ v, ¬ S v → s.pl[v]? = s0.pl[v]?
/-- ... while one is held in hand. -/
structure Mid (n : Nat) (S : Nat → Prop) (s0 s : Sp) (x hole : Nat) : Prop where
  len : s.l.length = n
  lt : hole < n
  inj : Inj n (upd s.at_ hole x)
  rng : Rng n (upd s.at_ hole x) S
  plen : s.pl.length = s0.pl.length
  place : ∀ v, ¬ S v → s.pl[v]? = s0.pl[v]?
variable {lt}
variable {n : Nat} {S : Nat → Prop} {s0 s : Sp} {x hole : Nat}
theorem Mid.x_mem (h : Mid n S s0 s x hole) : S x := (h.rng x).1 ⟨hole, h.lt, upd_self _ _ _⟩
theorem Mid.mem (h : Mid n S s0 s x hole) {p : Nat} (hp : p < n) (hne : p ≠ hole) : S (s.at_ p) := (h.rng _).1 ⟨p, hp, upd_ne _ _ hne⟩
theorem set_other {l : List Nat} {i j v : Nat} (h : i ≠ j) : (l.set i v)[j]? = l[j]? := List.getElem?_set_ne h
theorem Mid.fin (h : Mid n S s0 s x hole) : Fin n S s0 (s.put x hole) :=
  ⟨by rw [put_len, h.len], by rw [at_put _ (by rw [h.len]; exact h.lt)]; exact h.inj, by rw [at_put _ (by rw [h.len]; exact h.lt)]; exact h.rng, by simp [Sp.put, h.plen], fun v hv => by
    show (s.pl.set x hole)[v]? = _
    rw [set_other (fun e : x = v => hv (by rw [← e]; exact h.x_mem))]
    exact h.place v hv⟩
theorem Mid.move (h : Mid n S s0 s x hole) {j : Nat} (hj : j < n) (hne : hole ≠ j) : Mid n S s0 (s.put (s.at_ j) hole) x j := by
  have e := at_put s (x := s.at_ j) (p := hole) (by rw [h.len]; exact h.lt)
  refine ⟨by rw [put_len, h.len], hj, by rw [e]; exact swap_inj h.lt hj hne h.inj, by rw [e]; exact swap_rng h.lt hj hne h.rng, by simp [Sp.put, h.plen], fun v hv => ?_⟩
  show (s.pl.set (s.at_ j) hole)[v]? = _
  rw [set_other (fun e : s.at_ j = v => hv (by rw [← e]; exact h.mem hj (Ne.symm hne)))]
  exact h.place v hv
theorem PlB.move (h : Mid n S s0 s x hole) (hp : PlB n s hole) {j : Nat} (hj : j < n) (hne : hole ≠ j) : PlB n (s.put (s.at_ j) hole) j := by
  intro p hpn hpj
  rw [at_put s (by rw [h.len]; exact h.lt)]
  show (s.pl.set (s.at_ j) hole)[_]? = _
  have hl : s.at_ j < s.pl.length := (List.getElem?_eq_some_iff.1 (hp j hj (Ne.symm hne))).1
  by_cases e : p = hole
  · subst e
    rw [upd_self, List.getElem?_set_self hl]
  · rw [upd_ne _ _ e, set_other]
    · exact hp p hpn e
    · intro e2
      have := h.inj p j hpn hj (by rw [upd_ne _ _ e, upd_ne _ _ (Ne.symm hne), e2])
      exact hpj this
theorem PlB.fin (h : Mid n S s0 s x hole) (hp : PlB n s hole) (hx : x < s.pl.length) : Pl n (s.put x hole) := by
  intro p hpn
  rw [at_put s (by rw [h.len]; exact h.lt)]
  show (s.pl.set x hole)[_]? = _
  by_cases e : p = hole
  · subst e
    rw [upd_self, List.getElem?_set_self hx]
  · rw [upd_ne _ _ e, set_other]
    · exact hp p hpn e
    · intro e2
      exact e (h.inj p hole hpn h.lt (by rw [upd_ne _ _ e, upd_self, e2]))
/-- All but what has to do with the hole is in order. -/
structure But (lt : Nat → Nat → Bool) (n : Nat) (a : Nat → Nat) (hole : Nat) : Prop where
  off : ∀ p, 0 < p → p < n → p ≠ hole → above p ≠ hole → lt (a p) (a (above p)) = false
  far : ∀ c, 0 < c → c < n → above c = hole → 0 < hole → lt (a c) (a (above hole)) = false
theorem above_ne {p : Nat} (h : 0 < p) : above p ≠ p := Nat.ne_of_lt (above_lt h)
theorem But.up (O : Ord lt) {a : Nat → Nat} (h : But lt n a hole) (h0 : 0 < hole) (hn : hole < n) : But lt n (upd a hole (a (above hole))) (above hole) := by
  have hlt := above_lt h0
  constructor
  · intro p hp hpn hne hab
    by_cases e : p = hole
    · subst e; exact absurd rfl hab
    · rw [upd_ne _ _ e]
      by_cases e2 : above p = hole
      · rw [e2, upd_self]; exact h.far p hp hpn e2 h0
      · rw [upd_ne _ _ e2]; exact h.off p hp hpn e e2
  · intro c hc hcn hac hg
    have hlg := above_lt hg
    have hgg : lt (a (above hole)) (a (above (above hole))) = false := h.off _ hg (by omega) (by omega) (by omega)
    rw [upd_ne _ _ (show above (above hole) ≠ hole by omega)]
    by_cases e : c = hole
    · subst e; rw [upd_self]; exact hgg
    · rw [upd_ne _ _ e]
      have := h.off c hc hcn e (by rw [hac]; omega)
      rw [hac] at this
      exact O.neg _ _ _ this hgg
/-- x may stand above the hole's children, as it goes up. -/
theorem up_under (O : Ord lt) {a : Nat → Nat} (h : But lt n a hole) (h0 : 0 < hole) (hx : lt x (a (above hole)) = true) : ∀ c, 0 < c → c < n → above c = above hole → lt (upd a hole (a (above hole)) c) x = false := by
  intro c hc hcn hac
  have hxa := O.asym _ _ hx
  by_cases e : c = hole
  · subst e; rw [upd_self]; exact hxa
  · rw [upd_ne _ _ e]
    have := h.off c hc hcn e (by rw [hac]; exact above_ne h0)
    rw [hac] at this
    exact O.neg _ _ _ this hxa
theorem ok_fill {a : Nat → Nat} (h : But lt n a hole) (hu : 0 < hole → lt x (a (above hole)) = false) (hd : ∀ c, 0 < c → c < n → above c = hole → lt (a c) x = false) : Ok lt n (upd a hole x) := by
  intro p hp hpn
  by_cases e : p = hole
  · subst e
    rw [upd_self, upd_ne _ _ (above_ne hp)]
    exact hu hp
  · rw [upd_ne _ _ e]
    by_cases e2 : above p = hole
    · rw [e2, upd_self]; exact hd p hp hpn e2
    · rw [upd_ne _ _ e2]; exact h.off p hp hpn e e2
theorem rise_ok (O : Ord lt) : ∀ (k : Nat) (s : Sp) (hole : Nat), hole ≤ k → Mid n S s0 s x hole → But lt n s.at_ hole → (∀ c, 0 < c → c < n → above c = hole → lt (s.at_ c) x = false) →
    Fin n S s0 (rise lt s x hole).1 ∧ Ok lt n (rise lt s x hole).1.at_ ∧ (rise lt s x hole).2 ≤ hole ∧ (PlB n s hole → x < s.pl.length → Pl n (rise lt s x hole).1) := by
  intro k
  induction k with
  | zero =>
    intro s hole hk hM hB hd
    obtain rfl : hole = 0 := by omega
    rw [rise, dif_neg (by omega)]
    exact ⟨hM.fin, by rw [at_put _ (by rw [hM.len]; exact hM.lt)]; exact ok_fill hB (fun e => absurd e (by omega)) hd, Nat.le_refl _, fun hp hx => PlB.fin hM hp hx⟩
  | succ k ih =>
    intro s hole hk hM hB hd
    rw [rise]
    by_cases h0 : 0 < hole
    · rw [dif_pos h0]
      cases hx : lt x (s.at_ (above hole)) with
      | false =>
        rw [if_neg (by simp)]
        exact ⟨hM.fin, by rw [at_put _ (by rw [hM.len]; exact hM.lt)]; exact ok_fill hB (fun _ => hx) hd, Nat.le_refl _, fun hp hx => PlB.fin hM hp hx⟩
      | true =>
        rw [if_pos rfl]
        have hlt := above_lt h0
        have hn := hM.lt
        have e := at_put s (x := s.at_ (above hole)) (p := hole) (by rw [hM.len]; exact hM.lt)
        have hM' := hM.move (j := above hole) (by omega) (by omega)
        obtain ⟨r1, r2, r3, r4⟩ := ih _ (above hole) (by omega) hM' (by rw [e]; exact hB.up O h0 hn) (by rw [e]; exact up_under O hB h0 hx)
        exact ⟨r1, r2, by omega, fun hp hx => r4 (PlB.move hM hp (by omega) (by omega)) (by simpa [Sp.put] using hx)⟩
    · rw [dif_neg h0]
      exact ⟨hM.fin, by rw [at_put _ (by rw [hM.len]; exact hM.lt)]; exact ok_fill hB (fun e => absurd e h0) hd, Nat.le_refl _, fun hp hx => PlB.fin hM hp hx⟩
theorem above_two {c p : Nat} (hc : 0 < c) (h : above c = p) : c = 2 * p + 1 ∨ c = 2 * p + 2 := by unfold above at h; omega
theorem above_l (p : Nat) : above (2 * p + 1) = p := by unfold above; omega
theorem above_r (p : Nat) : above (2 * p + 2) = p := by unfold above; omega
/-- The one that goes ahead is no more than either. -/
theorem next_min (O : Ord lt) (hl : s.l.length = n) (_h : (next lt s hole).2 = true) : above (next lt s hole).1 = hole ∧ ∀ c, 0 < c → c < n → above c = hole → lt (s.at_ c) (s.at_ (next lt s hole).1) = false := by
  unfold next
  by_cases h1 : 2 * hole + 2 < s.l.length ∧ lt (s.at_ (2 * hole + 2)) (s.at_ (2 * hole + 1)) = true
  · rw [if_pos h1]
    refine ⟨above_r _, fun c hc hcn hac => ?_⟩
    rcases above_two hc hac with rfl | rfl
    · exact O.asym _ _ h1.2
    · exact O.irr _
  · rw [if_neg h1]
    refine ⟨above_l _, fun c hc hcn hac => ?_⟩
    rcases above_two hc hac with rfl | rfl
    · exact O.irr _
    · cases e : lt (s.at_ (2 * hole + 2)) (s.at_ (2 * hole + 1)) with
      | false => rfl
      | true => exact absurd ⟨by omega, e⟩ h1
theorem next_no (hl : s.l.length = n) (h : (next lt s hole).2 = false) : ∀ c, 0 < c → c < n → above c = hole → False := by
  unfold next at h
  split at h
  · cases h
  · rename_i h1
    simp only [decide_eq_false_iff_not] at h
    intro c hc hcn hac
    rcases above_two hc hac with rfl | rfl <;> omega
theorem sink_ok (O : Ord lt) : ∀ (k : Nat) (s : Sp) (hole : Nat), n - hole ≤ k → Mid n S s0 s x hole → But lt n s.at_ hole → (0 < hole → lt x (s.at_ (above hole)) = false) →
    Fin n S s0 (sink lt s x hole) ∧ Ok lt n (sink lt s x hole).at_ ∧ (PlB n s hole → x < s.pl.length → Pl n (sink lt s x hole)) := by
  intro k
  induction k with
  | zero => intro s hole hk hM; exact absurd hM.lt (by omega)
  | succ k ih =>
    intro s hole hk hM hB hu
    rw [sink]
    by_cases h : (next lt s hole).2 = true ∧ lt (s.at_ (next lt s hole).1) x = true
    · rw [dif_pos h]
      obtain ⟨g1, g2⟩ := next_lt lt h.1
      rw [hM.len] at g2
      obtain ⟨m1, m2⟩ := next_min O hM.len h.1
      generalize (next lt s hole).1 = m at *
      have e := at_put s (x := s.at_ m) (p := hole) (by rw [hM.len]; exact hM.lt)
      have hM' := hM.move (j := m) g2 (by omega)
      have hB' : But lt n (upd s.at_ hole (s.at_ m)) m := by
        constructor
        · intro p hp hpn hne hab
          by_cases e1 : p = hole
          · subst e1
            rw [upd_self, upd_ne _ _ (above_ne hp)]
            exact hB.far m (by omega) g2 m1 hp
          · rw [upd_ne _ _ e1]
            by_cases e2 : above p = hole
            · rw [e2, upd_self]; exact m2 p hp hpn e2
            · rw [upd_ne _ _ e2]; exact hB.off p hp hpn e1 e2
        · intro c hc hcn hac hm0
          have hcm := above_lt hc
          rw [m1, upd_self, upd_ne _ _ (show c ≠ hole by omega)]
          have := hB.off c hc hcn (by omega) (by omega)
          rw [hac] at this
          exact this
      obtain ⟨r1, r2, r4⟩ := ih _ m (by omega) hM' (by rw [e]; exact hB') (by rw [e, m1, upd_self]; exact fun _ => O.asym _ _ h.2)
      exact ⟨r1, r2, fun hp hx => r4 (PlB.move hM hp g2 (by omega)) (by simpa [Sp.put] using hx)⟩
    · rw [dif_neg h]
      refine ⟨hM.fin, ?_, fun hp hx => PlB.fin hM hp hx⟩
      rw [at_put _ (by rw [hM.len]; exact hM.lt)]
      refine ok_fill hB hu fun c hc hcn hac => ?_
      cases e : (next lt s hole).2 with
      | false => exact (next_no hM.len e c hc hcn hac).elim
      | true =>
        have h2 : lt (s.at_ (next lt s hole).1) x = false := by
          cases e2 : lt (s.at_ (next lt s hole).1) x with
          | false => rfl
          | true => exact absurd ⟨e, e2⟩ h
        exact O.neg _ _ _ ((next_min O hM.len e).2 c hc hcn hac) h2
/-- A heap of the things of S. -/
structure Is (lt : Nat → Nat → Bool) (S : Nat → Prop) (s : Sp) : Prop where
  inj : Inj s.l.length s.at_
  rng : Rng s.l.length s.at_ S
  ok : Ok lt s.l.length s.at_
theorem at_app (s : Sp) (x : Nat) {q : Nat} (h : q < s.l.length) : (⟨s.l ++ [x], s.pl⟩ : Sp).at_ q = s.at_ q := by
  simp [Sp.at_, List.getElem?_append_left h]
theorem at_end (s : Sp) (x : Nat) : (⟨s.l ++ [x], s.pl⟩ : Sp).at_ s.l.length = x := by simp [Sp.at_]
theorem at_take (s : Sp) {e q : Nat} (h : q < e) : (⟨s.l.take e, s.pl⟩ : Sp).at_ q = s.at_ q := by
  simp [Sp.at_, h]
theorem Is.le (O : Ord lt) (h : Is lt S s) : ∀ p, p < s.l.length → lt (s.at_ p) (s.at_ 0) = false := by
  intro p
  induction p using Nat.strongRecOn with
  | _ p ih =>
    intro hp
    by_cases h0 : p = 0
    · subst h0; exact O.irr _
    · exact O.neg _ _ _ (h.ok p (by omega) hp) (ih _ (above_lt (by omega)) (by have := above_lt (p := p) (by omega); omega))
theorem push_ok (O : Ord lt) (h : Is lt S s) (hx : ¬ S x) : Is lt (fun v => S v ∨ v = x) (push lt s x) ∧ (push lt s x).l.length = s.l.length + 1 ∧ (push lt s x).pl.length = s.pl.length ∧ (∀ v, ¬ S v → v ≠ x → (push lt s x).pl[v]? = s.pl[v]?) ∧
    (Pl s.l.length s → x < s.pl.length → Pl (s.l.length + 1) (push lt s x)) := by
  unfold push
  have hM : Mid (s.l.length + 1) (fun v => S v ∨ v = x) s ⟨s.l ++ [x], s.pl⟩ x s.l.length := by
    have hv : ∀ q, q < s.l.length + 1 → upd (⟨s.l ++ [x], s.pl⟩ : Sp).at_ s.l.length x q = if q = s.l.length then x else s.at_ q := by
      intro q hq
      unfold upd
      split
      · rfl
      · exact at_app s x (by omega)
    have hS : ∀ q, q < s.l.length → S (s.at_ q) := fun q hq => (h.rng _).1 ⟨q, hq, rfl⟩
    refine ⟨by simp, by omega, ?_, ?_, rfl, fun v _ => rfl⟩
    · intro p q hp hq e
      rw [hv p hp, hv q hq] at e
      by_cases p1 : p = s.l.length <;> by_cases q1 : q = s.l.length <;> simp only [p1, q1, if_true, if_false] at e
      · omega
      · exact absurd (e ▸ hS q (by omega)) hx
      · exact absurd (e ▸ hS p (by omega)) hx
      · exact h.inj p q (by omega) (by omega) e
    · intro v
      constructor
      · rintro ⟨p, hp, rfl⟩
        rw [hv p hp]
        by_cases p1 : p = s.l.length
        · rw [if_pos p1]; exact .inr rfl
        · rw [if_neg p1]; exact .inl (hS p (by omega))
      · rintro (hv1 | rfl)
        · obtain ⟨p, hp, e⟩ := (h.rng v).2 hv1
          exact ⟨p, by omega, by rw [hv p (by omega), if_neg (by omega), e]⟩
        · exact ⟨s.l.length, by omega, by rw [hv _ (by omega), if_pos rfl]⟩
  have hB : But lt (s.l.length + 1) (⟨s.l ++ [x], s.pl⟩ : Sp).at_ s.l.length := by
    constructor
    · intro p hp hpn hne hab
      have := above_lt hp
      rw [at_app s x (by omega), at_app s x (by omega)]
      exact h.ok p hp (by omega)
    · intro c hc hcn hac
      have := above_lt hc
      omega
  obtain ⟨r1, r2, _, r4⟩ := rise_ok O s.l.length _ s.l.length (Nat.le_refl _) hM hB (fun c hc hcn hac => by have := above_lt hc; omega)
  refine ⟨⟨by rw [r1.len]; exact r1.inj, by rw [r1.len]; exact r1.rng, by rw [r1.len]; exact r2⟩, r1.len, r1.plen, fun v h1 h2 => r1.place v (fun e => e.elim h1 h2), fun hp hx => r4 (fun p hpn hne => ?_) hx⟩
  show s.pl[_]? = _
  rw [at_app s x (by omega)]
  exact hp p (by omega)
theorem take_ok (O : Ord lt) (h : Is lt S s) {p : Nat} (hp : p < s.l.length) : (take lt s p).1 = s.at_ p ∧ Is lt (fun v => S v ∧ v ≠ s.at_ p) (take lt s p).2 ∧ (take lt s p).2.l.length = s.l.length - 1 ∧ (take lt s p).2.pl.length = s.pl.length ∧
    (∀ v, ¬ (S v ∧ v ≠ s.at_ p) → (take lt s p).2.pl[v]? = s.pl[v]?) ∧ (Pl s.l.length s → Pl (s.l.length - 1) (take lt s p).2) := by
  obtain ⟨e, he⟩ : ∃ e, e = s.l.length - 1 := ⟨_, rfl⟩
  obtain ⟨y, hy⟩ : ∃ y, y = s.at_ e := ⟨_, rfl⟩
  have hat : ∀ q, q < e → (⟨s.l.take e, s.pl⟩ : Sp).at_ q = s.at_ q := fun q hq => at_take s hq
  have hlen : (⟨s.l.take e, s.pl⟩ : Sp).l.length = e := by simp; omega
  have hS : ∀ q, q < s.l.length → S (s.at_ q) := fun q hq => (h.rng _).1 ⟨q, hq, rfl⟩
  unfold take
  rw [← he, ← hy]
  refine ⟨rfl, ?_⟩
  show Is lt _ (refill lt _ _ _ _) ∧ (refill lt _ _ _ _).l.length = _ ∧ (refill lt _ _ _ _).pl.length = _ ∧ (∀ v, _ → (refill lt _ _ _ _).pl[v]? = _) ∧ (_ → Pl _ (refill lt _ _ _ _))
  unfold refill
  generalize hs1 : (⟨s.l.take e, s.pl⟩ : Sp) = s1 at *
  have hpl : s1.pl = s.pl := by rw [← hs1]
  by_cases hpe : p < e
  · rw [if_pos hpe]
    have hM : Mid e (fun v => S v ∧ v ≠ s.at_ p) s s1 y p := by
      have hv : ∀ q, q < e → upd s1.at_ p y q = if q = p then y else s.at_ q := by
        intro q hq
        unfold upd
        split
        · rfl
        · exact hat q hq
      refine ⟨hlen, hpe, ?_, ?_, by rw [hpl], fun v _ => by rw [hpl]⟩
      · intro a b ha hb eq
        rw [hv a ha, hv b hb] at eq
        by_cases p1 : a = p <;> by_cases q1 : b = p <;> simp only [p1, q1, if_true, if_false] at eq
        · omega
        · rw [hy] at eq
          have := h.inj e b (by omega) (by omega) eq
          omega
        · rw [hy] at eq
          have := h.inj a e (by omega) (by omega) eq
          omega
        · exact h.inj a b (by omega) (by omega) eq
      · intro v
        constructor
        · rintro ⟨q, hq, rfl⟩
          rw [hv q hq]
          by_cases p1 : q = p
          · rw [if_pos p1, hy]
            exact ⟨hS e (by omega), fun e1 => by have := h.inj e p (by omega) hp e1; omega⟩
          · rw [if_neg p1]
            exact ⟨hS q (by omega), fun e1 => p1 (h.inj q p (by omega) hp e1)⟩
        · rintro ⟨h1, h2⟩
          obtain ⟨q, hq, e1⟩ := (h.rng v).2 h1
          by_cases q1 : q = e
          · exact ⟨p, hpe, by rw [hv p hpe, if_pos rfl, hy, ← e1, q1]⟩
          · have q2 : q ≠ p := fun e2 => h2 (by rw [← e1, e2])
            exact ⟨q, by omega, by rw [hv q (by omega), if_neg q2, e1]⟩
    have hB : But lt e s1.at_ p := by
      constructor
      · intro c hc hcn hne hab
        have := above_lt hc
        rw [hat c hcn, hat _ (by omega)]
        exact h.ok c hc (by omega)
      · intro c hc hcn hac h0
        have := above_lt h0
        rw [hat c hcn, hat _ (by omega)]
        have h1 := h.ok c hc (by omega)
        rw [hac] at h1
        exact O.neg _ _ _ h1 (h.ok p h0 hp)
    have fin : ∀ s2, Fin e (fun v => S v ∧ v ≠ s.at_ p) s s2 → Ok lt e s2.at_ → Is lt (fun v => S v ∧ v ≠ s.at_ p) s2 ∧ s2.l.length = e ∧ s2.pl.length = s.pl.length ∧ (∀ v, ¬ (S v ∧ v ≠ s.at_ p) → s2.pl[v]? = s.pl[v]?) := fun s2 r1 r2 =>
      ⟨⟨by rw [r1.len]; exact r1.inj, by rw [r1.len]; exact r1.rng, by rw [r1.len]; exact r2⟩, r1.len, r1.plen, r1.place⟩
    have hPB : Pl s.l.length s → PlB e s1 p := fun hP q hq _ => by rw [hpl, hat q hq]; exact hP q (by omega)
    have hyl : Pl s.l.length s → y < s1.pl.length := fun hP => by
      rw [hpl, hy]
      exact (List.getElem?_eq_some_iff.1 (hP e (by omega))).1
    by_cases hmv : 0 < p ∧ lt y (s1.at_ (above p)) = true
    · have hlt := above_lt hmv.1
      have er : rise lt s1 y p = rise lt (s1.put (s1.at_ (above p)) p) y (above p) := by
        rw [rise, dif_pos hmv.1, if_pos hmv.2]
      have e2 := at_put s1 (x := s1.at_ (above p)) (p := p) (by omega)
      have hM' := hM.move (j := above p) (by omega) (by omega)
      obtain ⟨r1, r2, r3, r4⟩ := rise_ok O p _ (above p) (by omega) hM' (by rw [e2]; exact hB.up O hmv.1 hpe) (by rw [e2]; exact up_under O hB hmv.1 hmv.2)
      rw [er, if_neg (by omega)]
      obtain ⟨f1, f2, f3, f4⟩ := fin _ r1 r2
      exact ⟨f1, f2, f3, f4, fun hP => r4 (PlB.move hM (hPB hP) (by omega) (by omega)) (by simpa [Sp.put] using hyl hP)⟩
    · have er : rise lt s1 y p = (s1.put y p, p) := by
        rw [rise]
        by_cases h0 : 0 < p
        · rw [dif_pos h0, if_neg (fun e => hmv ⟨h0, e⟩)]
        · rw [dif_neg h0]
      rw [er, if_pos rfl]
      have e2 := at_put s1 (x := y) (p := p) (by omega)
      have hM2 : Mid e (fun v => S v ∧ v ≠ s.at_ p) s (s1.put y p) y p :=
        ⟨by rw [put_len, hlen], hpe, by rw [e2, upd_upd]; exact hM.inj, by rw [e2, upd_upd]; exact hM.rng, hM.fin.plen, hM.fin.place⟩
      have hB2 : But lt e (s1.put y p).at_ p := by
        rw [e2]
        constructor
        · intro c hc hcn hne hab
          rw [upd_ne _ _ hne, upd_ne _ _ hab]
          exact hB.off c hc hcn hne hab
        · intro c hc hcn hac h0
          have h1 := above_lt h0
          have h2 := above_lt hc
          rw [upd_ne _ _ (by omega), upd_ne _ _ (by omega)]
          exact hB.far c hc hcn hac h0
      have hu : 0 < p → lt y ((s1.put y p).at_ (above p)) = false := fun h0 => by
        have h1 := above_lt h0
        rw [e2, upd_ne _ _ (by omega)]
        cases e3 : lt y (s1.at_ (above p)) with
        | false => rfl
        | true => exact absurd ⟨h0, e3⟩ hmv
      obtain ⟨r1, r2, r4⟩ := sink_ok O e _ p (by omega) hM2 hB2 hu
      obtain ⟨f1, f2, f3, f4⟩ := fin _ r1 r2
      refine ⟨f1, f2, f3, f4, fun hP => r4 (fun q hq hne => ?_) (by simpa [Sp.put] using hyl hP)⟩
      have := PlB.fin hM (hPB hP) (hyl hP) q hq
      exact this
  · rw [if_neg hpe]
    have hpe : p = e := by omega
    refine ⟨⟨?_, ?_, ?_⟩, hlen, by rw [hpl], fun v _ => by rw [hpl], fun hP q hq => by rw [hpl, hat q hq]; exact hP q (by omega)⟩
    · rw [hlen]
      intro a b ha hb eq
      rw [hat a ha, hat b hb] at eq
      exact h.inj a b (by omega) (by omega) eq
    · rw [hlen]
      intro v
      constructor
      · rintro ⟨q, hq, rfl⟩
        rw [hat q hq]
        exact ⟨hS q (by omega), fun e1 => by have := h.inj q p (by omega) hp e1; omega⟩
      · rintro ⟨h1, h2⟩
        obtain ⟨q, hq, e1⟩ := (h.rng v).2 h1
        have q2 : q ≠ p := fun e2 => h2 (by rw [← e1, e2])
        exact ⟨q, by omega, by rw [hat q (by omega), e1]⟩
    · rw [hlen]
      intro c hc hcn
      have := above_lt hc
      rw [hat c hcn, hat _ (by omega)]
      exact h.ok c hc (by omega)
end Hp
end Go.Proofs.Ytchlemajppnehaa
