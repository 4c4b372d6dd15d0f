/- What holds of an arena between calls; release keeps it. -/
import Derived.Test.YtkndbldjablhoaaDoorHnm
set_option maxRecDepth 100000
namespace Go.Proofs.YtkndbldjablhoaaDoor
namespace Ar
def sumT (xs : List Pc) : Nat := (xs.map Pc.takes).sum
structure Inv (S : St) (pcs : List Pc) : Prop where
  mem : ∃ rest, S.mem = lay 0 pcs ++ rest ∧ rest.length < 16
  lim : S.mem.length ≤ 1048576
  ok : ∀ p ∈ pcs, p.Ok
  fr : ∃ E sp, Ch S.nd S.spare E sp ∧ Frees E pcs 0 []
  nd : S.nd.length ≤ 70000
  tab : Tab S
  cap : S.mem.length / 16 ≤ S.pl.length
  hn : ∀ (h v : Nat), PlaceOf S (h : Int) = some v ↔ ∃ p, At pcs v p ∧ p.free = false ∧ p.owner = h
  used : S.used = sumT (blocks pcs)
theorem sumT_app (xs ys : List Pc) : sumT (xs ++ ys) = sumT xs + sumT ys := by simp [sumT]
theorem sumT_cons (p : Pc) (ys : List Pc) : sumT (p :: ys) = p.takes + sumT ys := by simp [sumT]
theorem sumT_le : ∀ xs : List Pc, sumT (blocks xs) ≤ total xs
  | [] => Nat.le_refl _
  | p :: r => by
    have := sumT_le r
    cases hf : p.free
    · rw [blocks_block r hf, sumT_cons]; simp only [total]; omega
    · rw [blocks_free r hf]; simp only [total]; omega
theorem Inv.len {S : St} {pcs : List Pc} (h : Inv S pcs) : total pcs = fin S ∧ fin S ≤ S.mem.length := by
  obtain ⟨rest, hm, hr⟩ := h.mem
  have : S.mem.length = total pcs + rest.length := by rw [hm]; simp [lay_len]
  have := total_mod h.ok
  unfold fin; omega
theorem Inv.sane {S : St} {pcs : List Pc} (h : Inv S pcs) : Sane S := by
  have t := h.tab
  refine ⟨h.lim, by have := t.lim; omega, t.plus, t.us, t.place, ?_, by have := t.low; have := t.plus; have := t.lim; omega⟩
  rw [h.used]
  have := sumT_le pcs
  have := h.len
  omega
/-- At a piece: the gap of nothing ahead of it. -/
theorem Inv.at_ {S : St} {xs ys : List Pc} {p : Pc} (h : Inv S (xs ++ p :: ys)) : ∃ rest E sp, Gap S xs [] (lastT 0 xs) (p :: ys) rest E sp := by
  obtain ⟨rest, hm, hr⟩ := h.mem
  obtain ⟨E, sp, hc, hf⟩ := h.fr
  have hl := h.len
  have hlim := h.lim
  rw [total_app] at hl
  refine ⟨rest, E, sp, ⟨by rw [hm, lay_app]; simp, hr, h.lim, fun q hq => h.ok q (by simp [hq]), fun q hq => h.ok q (List.mem_append_right _ hq), lastT_le (by omega) (by omega), hc, fun i c v => ?_, by have := h.nd; omega⟩⟩
  rw [hf i c v]
  simp only [List.length_nil]
  constructor
  · rintro ⟨p, h1, h2⟩
    refine ⟨p, (atG_zero _ _ _ _).2 ?_, h2⟩
    have := (atG_zero _ _ _ _).1 h1
    simpa using this
  · rintro ⟨p, h1, h2⟩
    refine ⟨p, (atG_zero _ _ _ _).2 ?_, h2⟩
    have := (atG_zero _ _ _ _).1 h1
    simpa using this
theorem at_of_atG {xs ys : List Pc} {g v : Nat} {p : Pc} (h : AtG xs g ys v p) : p ∈ xs ++ ys := by
  rcases h with h | ⟨_, _, h⟩
  · exact List.mem_append_left _ (at_mem h)
  · exact List.mem_append_right _ (at_mem h)
/-- How many nodes there may be. -/
theorem Gap.count {S : St} {xs ys : List Pc} {raw rest : List UInt8} {a' : Nat} {E : Nat → Option (Nat × Nat)} {sp : List Nat} (h : Gap S xs raw a' ys rest E sp) (h0 : S.spare = 0) : S.nd.length ≤ 17 + 65536 := by
  have hsp : sp = [] := by
    rcases h.ch.spare0 with ⟨_, h2⟩ | ⟨_, _, h2, _⟩
    · exact h2
    · omega
  have hlen := h.len
  have hlim := h.lim
  have t1 := total_ge h.oxs
  have t2 := total_ge h.oys
  have key := nodup_le (l := List.range' 17 (S.nd.length - 17)) (m := (xs ++ ys).map Pc.owner) List.nodup_range' (fun i hi => by
    rw [List.mem_range'_1] at hi
    rcases h.ch.all i (by omega) (by omega) with h3 | h3
    · cases hx : E i with
      | none => exact absurd hx h3
      | some x =>
        obtain ⟨c, v⟩ := x
        obtain ⟨p, h4, _, h5, _⟩ := (h.fr i c v).1 hx
        exact List.mem_map.2 ⟨p, at_of_atG h4, h5⟩
    · rw [hsp] at h3; cases h3)
  simp only [List.length_range', List.length_map, List.length_append] at key
  omega
theorem Gap.fill_nd {S : St} {xs ys : List Pc} {raw rest : List UInt8} {a' : Nat} {E : Nat → Option (Nat × Nat)} {sp : List Nat} (h : Gap S xs raw a' ys rest E sp) (hn : S.nd.length ≤ 70000) (v size ahead : Nat) : (putFree S v size ahead).nd.length ≤ 70000 := by
  show (push S.nd S.spare (cls size) v).nd.length ≤ _
  by_cases h0 : S.spare = 0
  · have := h.count h0
    simp only [push, h0, if_true, link_len, setV_len, List.length_append, List.length_singleton]; omega
  · simp only [push, if_neg h0, link_len, setV_len]; exact hn
theorem frees_nil {E : Nat → Option (Nat × Nat)} {xs ys : List Pc} (h : Frees E xs 0 ys) : Frees E (xs ++ ys) 0 [] := fun i c v => by
  rw [h i c v]
  constructor
  · rintro ⟨p, h1, h2⟩
    exact ⟨p, (atG_zero _ _ _ _).2 (by simpa using (atG_zero _ _ _ _).1 h1), h2⟩
  · rintro ⟨p, h1, h2⟩
    exact ⟨p, (atG_zero _ _ _ _).2 (by simpa using (atG_zero _ _ _ _).1 h1), h2⟩
/-- A gap that is filled by a free piece, with the table as it is. -/
theorem Gap.inv {S : St} {xs ys : List Pc} {raw rest : List UInt8} {a' : Nat} {E : Nat → Option (Nat × Nat)} {sp : List Nat} (h : Gap S xs raw a' ys rest E sp) (h16 : 16 ≤ raw.length) (hr16 : raw.length % 16 = 0) (hn : S.nd.length ≤ 70000) (ht : Tab S) (hcap : S.mem.length / 16 ≤ S.pl.length)
    (hh : ∀ (h v : Nat), PlaceOf S (h : Int) = some v ↔ ∃ p, AtG xs raw.length ys v p ∧ p.free = false ∧ p.owner = h) (hu : S.used = sumT (blocks xs) + sumT (blocks ys)) :
    ∃ k, k < 2097152 ∧ Inv (putFree S (total xs) raw.length (lastT 0 xs)) (xs ++ mkFree k raw :: ys) ∧ blocks (xs ++ mkFree k raw :: ys) = blocks xs ++ blocks ys := by
  obtain ⟨_, k, E', sp', hk, hm, hc, hf⟩ := h.fill h16 hr16
  have hb : blocks (xs ++ mkFree k raw :: ys) = blocks xs ++ blocks ys := by rw [blocks_app, blocks_free ys (p := mkFree k raw) rfl]
  have hml : (putFree S (total xs) raw.length (lastT 0 xs)).mem.length = S.mem.length := by
    rw [hm, List.length_append, lay_len, total_app, h.len]
    simp only [total, mkFree_takes (k := k) (raw := raw) (by omega)]
    omega
  refine ⟨k, hk, ⟨⟨rest, hm, h.rest⟩, by rw [hml]; exact h.lim, ?_, ⟨E', sp', hc, frees_nil hf⟩, h.fill_nd hn _ _ _, ⟨ht.plus, ht.lim, ht.us, ht.place, ht.low, ht.full⟩, by rw [hml]; exact hcap, ?_, ?_⟩, hb⟩
  · intro p hp
    rcases List.mem_append.1 hp with h1 | h1
    · exact h.oxs p h1
    · rcases List.mem_cons.1 h1 with rfl | h1
      · exact mkFree_ok h16 hr16 hk
      · exact h.oys p h1
  · intro hd v
    show PlaceOf S hd = some v ↔ _
    rw [hh hd v]
    constructor
    · rintro ⟨p, h1, h2⟩
      exact ⟨p, (atG_fill xs ys (mkFree k raw) v p).2 (.inl (by rw [mkFree_takes (by omega)]; exact h1)), h2⟩
    · rintro ⟨p, h1, h2, h3⟩
      rcases (atG_fill xs ys (mkFree k raw) v p).1 h1 with h4 | ⟨_, rfl⟩
      · exact ⟨p, by rw [mkFree_takes (by omega)] at h4; exact h4, h2, h3⟩
      · cases h2
  · show S.used = _
    rw [hb, sumT_app]; exact hu
end Ar
end Go.Proofs.YtkndbldjablhoaaDoor
