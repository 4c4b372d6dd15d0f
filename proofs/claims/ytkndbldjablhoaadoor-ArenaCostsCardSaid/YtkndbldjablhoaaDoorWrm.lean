/- The bytes of a block: what Read and Write do to what holds of an arena. -/
import Derived.Test.YtkndbldjablhoaaDoorAfre
import Derived.Test.YtkndbldjablhoaaDoorArdwr
import Derived.Test.YtkndbldjablhoaaDoorSlidei
set_option maxRecDepth 100000
namespace Go.Proofs.YtkndbldjablhoaaDoor
namespace Ar
theorem mid_bytes (X D Y : List UInt8) (k n : Nat) (hk : k + n ≤ D.length) : ((X ++ (D ++ Y)).drop (X.length + k)).take n = (D.drop k).take n := by
  rw [List.drop_length_add_append, List.drop_append_of_le_length (by omega), List.take_append_of_le_length (by simp; omega)]
theorem put_in (X D Y l : List UInt8) (k : Nat) (hk : k + l.length ≤ D.length) : put (X ++ (D ++ Y)) (X.length + k) l = X ++ (put D k l ++ Y) := by
  unfold put
  rw [List.take_length_add_append, show X.length + k + l.length = X.length + (k + l.length) by omega, List.drop_length_add_append, List.take_append_of_le_length (by omega), List.drop_append_of_le_length (by omega)]
  simp [List.append_assoc]
theorem at_swap {p p' : Pc} (ht : p'.takes = p.takes) : ∀ {xs ys : List Pc} {v : Nat} {q : Pc}, At (xs ++ p :: ys) v q → At (xs ++ p' :: ys) v q ∨ (q = p ∧ At (xs ++ p' :: ys) v p')
  | [], ys, v, q, h => by
    rcases h with ⟨h1, h2⟩ | ⟨v', h1, h2⟩
    · exact .inr ⟨h2, .inl ⟨h1, rfl⟩⟩
    · exact .inl (.inr ⟨v', by rw [ht]; exact h1, h2⟩)
  | x :: xs, ys, v, q, h => by
    rcases h with ⟨h1, h2⟩ | ⟨v', h1, h2⟩
    · exact .inl (.inl ⟨h1, h2⟩)
    · rcases at_swap ht h2 with h3 | ⟨h3, h4⟩
      · exact .inl (.inr ⟨v', h1, h3⟩)
      · exact .inr ⟨h3, .inr ⟨v', h1, h4⟩⟩
theorem lastT_swap {p p' : Pc} (ht : p'.takes = p.takes) (a : Nat) (xs ys : List Pc) : lastT a (xs ++ p' :: ys) = lastT a (xs ++ p :: ys) := by
  rw [lastT_app, lastT_app]; simp only [lastT]; rw [ht]
theorem total_swap {p p' : Pc} (ht : p'.takes = p.takes) (xs ys : List Pc) : total (xs ++ p' :: ys) = total (xs ++ p :: ys) := by
  rw [total_app, total_app]; simp only [total]; rw [ht]
/-- Other bytes within one block. -/
theorem Inv.data {S : St} {xs ys : List Pc} {p : Pc} (I : Inv S (xs ++ p :: ys)) (hf : p.free = false) (d : List UInt8) (hd : d.length = p.data.length) :
    Inv { S with mem := put S.mem (total xs + 8) d } (xs ++ { p with data := d } :: ys) := by
  have ht : ({ p with data := d } : Pc).takes = p.takes := by show d.length + 8 = p.data.length + 8; rw [hd]
  obtain ⟨rest, hm, hr⟩ := I.mem
  have hmem : put S.mem (total xs + 8) d = lay 0 (xs ++ { p with data := d } :: ys) ++ rest := by
    rw [hm, lay_app, lay_app]
    simp only [lay, ht]
    have e : lay 0 xs ++ (p.bytes (lastT 0 xs) ++ lay p.takes ys) ++ rest = (lay 0 xs ++ byte8 (p.hd (lastT 0 xs)).word) ++ (p.data ++ (lay p.takes ys ++ rest)) := by
      unfold Pc.bytes; simp only [List.append_assoc]
    have e2 : lay 0 xs ++ (({ p with data := d } : Pc).bytes (lastT 0 xs) ++ lay p.takes ys) ++ rest = (lay 0 xs ++ byte8 (p.hd (lastT 0 xs)).word) ++ (d ++ (lay p.takes ys ++ rest)) := by
      unfold Pc.bytes Pc.hd; simp only [List.append_assoc]
    rw [e, e2]
    refine put_mid _ _ _ _ _ ?_ hd.symm
    rw [List.length_append, lay_len]
    unfold byte8
    rw [lastB_len]
  have hml : (put S.mem (total xs + 8) d).length = S.mem.length := by
    rw [hmem, hm, List.length_append, List.length_append, lay_len, lay_len, total_swap ht]
  have hat : ∀ v q, At (xs ++ { p with data := d } :: ys) v q → ∃ q', At (xs ++ p :: ys) v q' ∧ q'.free = q.free ∧ q'.owner = q.owner ∧ q'.size = q.size := fun v q h => by
    rcases at_swap (p := { p with data := d }) (p' := p) ht.symm h with h | ⟨rfl, h2⟩
    · exact ⟨q, h, rfl, rfl, rfl⟩
    · exact ⟨p, h2, rfl, rfl, rfl⟩
  have hat2 : ∀ v q, At (xs ++ p :: ys) v q → ∃ q', At (xs ++ { p with data := d } :: ys) v q' ∧ q'.free = q.free ∧ q'.owner = q.owner ∧ q'.size = q.size := fun v q h => by
    rcases at_swap (p := p) (p' := { p with data := d }) ht h with h | ⟨rfl, h2⟩
    · exact ⟨q, h, rfl, rfl, rfl⟩
    · exact ⟨_, h2, rfl, rfl, rfl⟩
  obtain ⟨E, sp, hc, hfr⟩ := I.fr
  refine ⟨⟨rest, hmem, hr⟩, by show (put _ _ _).length ≤ _; rw [hml]; exact I.lim, fun q hq => ?_, ⟨E, sp, hc, fun i c v => ?_⟩, I.nd, I.tab.congr rfl rfl rfl, by show (put _ _ _).length / 16 ≤ _; rw [hml]; exact I.cap, fun h v => ?_, ?_⟩
  · rcases List.mem_append.1 hq with h | h
    · exact I.ok q (List.mem_append_left _ h)
    · rcases List.mem_cons.1 h with rfl | h
      · have k := I.ok p (by simp)
        exact ⟨by rw [ht]; exact k.m16, by rw [ht]; exact k.ge, k.own, fun e => by rw [ht]; exact k.fr e, fun e => by rw [ht]; exact k.bl e⟩
      · exact I.ok q (List.mem_append_right _ (List.mem_cons_of_mem _ h))
  · rw [hfr i c v]
    constructor
    · rintro ⟨q, h1, h2, h3, h4⟩
      have h1 := (atG_zero _ _ _ _).1 h1
      rw [List.append_nil] at h1
      obtain ⟨q', k1, k2, k3, k4⟩ := hat2 v q h1
      exact ⟨q', (atG_zero _ _ _ _).2 (by rw [List.append_nil]; exact k1), by rw [k2]; exact h2, by rw [k3]; exact h3, by rw [k4]; exact h4⟩
    · rintro ⟨q, h1, h2, h3, h4⟩
      have h1 := (atG_zero _ _ _ _).1 h1
      rw [List.append_nil] at h1
      obtain ⟨q', k1, k2, k3, k4⟩ := hat v q h1
      exact ⟨q', (atG_zero _ _ _ _).2 (by rw [List.append_nil]; exact k1), by rw [k2]; exact h2, by rw [k3]; exact h3, by rw [k4]; exact h4⟩
  · show PlaceOf S (h : Int) = some v ↔ _
    rw [I.hn]
    constructor
    · rintro ⟨q, h1, h2, h3⟩
      obtain ⟨q', k1, k2, k3, _⟩ := hat2 v q h1
      exact ⟨q', k1, by rw [k2]; exact h2, by rw [k3]; exact h3⟩
    · rintro ⟨q, h1, h2, h3⟩
      obtain ⟨q', k1, k2, k3, _⟩ := hat v q h1
      exact ⟨q', k1, by rw [k2]; exact h2, by rw [k3]; exact h3⟩
  · show S.used = _
    rw [I.used, blocks_app, blocks_app, blocks_block ys hf, blocks_block (p := { p with data := d }) ys hf, sumT_app, sumT_app, sumT_cons, sumT_cons, ht]
/-- Where the bytes of a block lie. -/
theorem Inv.bytes {S : St} {xs ys : List Pc} {p : Pc} (I : Inv S (xs ++ p :: ys)) (k n : Nat) (hk : k + n ≤ p.data.length) : (S.mem.drop (total xs + 8 + k)).take n = (p.data.drop k).take n := by
  obtain ⟨rest, hm, _⟩ := I.mem
  have e : S.mem = (lay 0 xs ++ byte8 (p.hd (lastT 0 xs)).word) ++ (p.data ++ (lay p.takes ys ++ rest)) := by
    rw [hm, lay_app]; simp only [lay]; unfold Pc.bytes; simp only [List.append_assoc]
  have hl : (lay 0 xs ++ byte8 (p.hd (lastT 0 xs)).word).length = total xs + 8 := by
    rw [List.length_append, lay_len]; unfold byte8; rw [lastB_len]
  rw [e, ← hl]
  exact mid_bytes _ _ _ _ _ hk
/-- Bytes put within a block. -/
theorem Inv.put_ {S : St} {xs ys : List Pc} {p : Pc} (I : Inv S (xs ++ p :: ys)) (k : Nat) (l : List UInt8) (hk : k + l.length ≤ p.data.length) : put S.mem (total xs + 8 + k) l = put S.mem (total xs + 8) (put p.data k l) := by
  obtain ⟨rest, hm, _⟩ := I.mem
  have e : S.mem = (lay 0 xs ++ byte8 (p.hd (lastT 0 xs)).word) ++ (p.data ++ (lay p.takes ys ++ rest)) := by
    rw [hm, lay_app]; simp only [lay]; unfold Pc.bytes; simp only [List.append_assoc]
  have hl : (lay 0 xs ++ byte8 (p.hd (lastT 0 xs)).word).length = total xs + 8 := by
    rw [List.length_append, lay_len]; unfold byte8; rw [lastB_len]
  rw [e]
  generalize lay 0 xs ++ byte8 (p.hd (lastT 0 xs)).word = X at *
  generalize lay p.takes ys ++ rest = Y
  rw [put_mid X p.data Y (put p.data k l) _ hl.symm (by rw [put_len _ _ _ hk]), ← hl]
  exact put_in _ _ _ _ _ hk
end Ar
end Go.Proofs.YtkndbldjablhoaaDoor
