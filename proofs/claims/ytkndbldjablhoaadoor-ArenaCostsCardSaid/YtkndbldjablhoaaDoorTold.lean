/- What Handles tells of an arena: its blocks in the order of their handles. -/
import Derived.Test.YtkndbldjablhoaaDoorWrm
import Derived.Test.YtkndbldjablhoaaDoorHall
set_option maxRecDepth 100000
namespace Go.Proofs.YtkndbldjablhoaaDoor
namespace Ar
theorem tabl_mem {S : St} {n : Nat} {x : Nat × Nat} : x ∈ tabl S n ↔ ∃ i, i < n ∧ x.1 = i + 1 ∧ PlaceOf S ((i + 1 : Nat) : Int) = some x.2 := by
  unfold tabl
  rw [List.mem_filterMap]
  constructor
  · rintro ⟨i, hi, h⟩
    obtain ⟨v, hv, rfl⟩ := Option.map_eq_some_iff.1 h
    exact ⟨i, List.mem_range.1 hi, rfl, hv⟩
  · rintro ⟨i, hi, h1, h2⟩
    exact ⟨i, List.mem_range.2 hi, Option.map_eq_some_iff.2 ⟨x.2, h2, by rw [← h1]⟩⟩
theorem tabl_lt (S : St) : ∀ n, (tabl S n).Pairwise (fun x y => x.1 < y.1)
  | 0 => by simp [tabl]
  | n + 1 => by
    cases h : PlaceOf S ((n + 1 : Nat) : Int) with
    | none => rw [tabl_none h]; exact tabl_lt S n
    | some v =>
      rw [tabl_some h, List.pairwise_append]
      refine ⟨tabl_lt S n, List.pairwise_singleton _ _, fun x hx y hy => ?_⟩
      obtain ⟨i, hi, e, _⟩ := tabl_mem.1 hx
      rw [List.mem_singleton] at hy
      subst hy
      show x.1 < n + 1
      omega
theorem told_lt (S : St) (g : Nat × Nat → Nat × Nat) (hg : ∀ x, (g x).1 = x.1) (n : Nat) : ((tabl S n).map g).Pairwise (fun x y => x.1 < y.1) := by
  rw [List.pairwise_map]
  exact (tabl_lt S n).imp fun h => by rw [hg, hg]; exact h
/-- The places that are told are those of blocks. -/
theorem Inv.tabl {S : St} {pcs : List Pc} (I : Inv S pcs) {x : Nat × Nat} : x ∈ tabl S S.pl.length ↔ ∃ p, At pcs x.2 p ∧ p.free = false ∧ p.owner = x.1 := by
  rw [tabl_mem]
  constructor
  · rintro ⟨i, hi, h1, h2⟩
    rw [h1]
    exact (I.hn _ _).1 h2
  · rintro ⟨p, h1, h2, h3⟩
    have h := (I.hn x.1 x.2).2 ⟨p, h1, h2, h3⟩
    obtain ⟨k, e, hk, _, _⟩ := placeOf_some h
    exact ⟨k, hk, by omega, by rw [show ((k + 1 : Nat) : Int) = (x.1 : Int) by omega]; exact h⟩
/-- The head of a piece. -/
theorem Inv.head {S : St} {pcs : List Pc} (I : Inv S pcs) {v : Nat} {p : Pc} (h : At pcs v p) : (∃ a, headAt S.mem v = p.hd a) ∧ v + p.takes ≤ S.mem.length := by
  obtain ⟨rest, hm, hr⟩ := I.mem
  have hlen := I.len
  have hlim := I.lim
  have hok := I.ok p (at_mem h)
  obtain ⟨us, bs, rfl, rfl⟩ := at_split h
  rw [total_app] at hlen
  simp only [total] at hlen
  refine ⟨⟨lastT 0 us, ?_⟩, by omega⟩
  have e : S.mem = lay 0 us ++ (byte8 (p.hd (lastT 0 us)).word ++ p.data) ++ (lay p.takes bs ++ rest) := by
    rw [hm, lay_app]; simp only [lay]; unfold Pc.bytes; simp only [List.append_assoc]
  rw [e, ← lay_len 0 us]
  exact headAt_app _ _ _ _ (hd_fits (m := 0) hok (by omega) (lastT_le (by omega) (by omega)) rfl)
theorem Inv.told_place {S : St} {pcs : List Pc} (I : Inv S pcs) : ∀ x ∈ Ar.tabl S S.pl.length, x.2 + 8 ≤ S.mem.length := fun x hx => by
  obtain ⟨p, h1, _, _⟩ := I.tabl.1 hx
  have := (I.head h1).2
  have := (I.ok p (at_mem h1)).ge
  omega
/-- What Handles tells are the blocks. -/
theorem Inv.told {S : St} {pcs : List Pc} (I : Inv S pcs) {h n : Nat} : (h, n) ∈ (Ar.tabl S S.pl.length).map (fun x => (x.1, (headAt S.mem x.2).size)) ↔ ∃ q ∈ blocks pcs, q.owner = h ∧ q.size = n := by
  rw [List.mem_map]
  constructor
  · rintro ⟨x, hx, e⟩
    obtain ⟨p, h1, h2, h3⟩ := I.tabl.1 hx
    obtain ⟨⟨a, ha⟩, _⟩ := I.head h1
    simp only [Prod.mk.injEq] at e
    rw [ha] at e
    exact ⟨p, mem_blocks.2 ⟨at_mem h1, h2⟩, by omega, e.2⟩
  · rintro ⟨q, hq, h1, h2⟩
    obtain ⟨q1, q2⟩ := mem_blocks.1 hq
    obtain ⟨v, hv⟩ := at_of_mem q1
    obtain ⟨⟨a, ha⟩, _⟩ := I.head hv
    exact ⟨(h, v), I.tabl.2 ⟨q, hv, q2, h1⟩, by simp only; rw [ha]; show (h, q.size) = (h, n); rw [h2]⟩
end Ar
end Go.Proofs.YtkndbldjablhoaaDoor
