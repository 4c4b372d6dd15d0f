/- slide keeps what holds of an arena. -/
import Derived.Test.YtkndbldjablhoaaDoorSlidem
set_option maxRecDepth 100000
namespace Go.Proofs.YtkndbldjablhoaaDoor
namespace Ar
theorem at_of_mem : ∀ {xs : List Pc} {p : Pc}, p ∈ xs → ∃ v, At xs v p
  | q :: xs, p, h => by
    rcases List.mem_cons.1 h with rfl | h
    · exact ⟨0, .inl ⟨rfl, rfl⟩⟩
    · obtain ⟨v, hv⟩ := at_of_mem h
      exact ⟨_, .inr ⟨v, rfl, hv⟩⟩
theorem mem_blocks {xs : List Pc} {p : Pc} : p ∈ blocks xs ↔ p ∈ xs ∧ p.free = false := by unfold blocks; rw [List.mem_filter]; simp
theorem Inv.nodup {S : St} {pcs : List Pc} (I : Inv S pcs) : ∀ (ys xs : List Pc), pcs = xs ++ ys → ((blocks ys).map Pc.owner).Nodup
  | [], _, _ => List.nodup_nil
  | p :: ys, xs, e => by
    have ih := I.nodup ys (xs ++ [p]) (by rw [e]; simp)
    cases hf : p.free with
    | true => rw [blocks_free ys hf]; exact ih
    | false =>
      rw [blocks_block ys hf, List.map_cons, List.nodup_cons]
      refine ⟨fun hm => ?_, ih⟩
      obtain ⟨q, hq, ho⟩ := List.mem_map.1 hm
      obtain ⟨hq1, hq2⟩ := mem_blocks.1 hq
      obtain ⟨v, hv⟩ := at_of_mem hq1
      have h1 := (I.hn p.owner (total xs)).2 ⟨p, by rw [e]; exact at_mid xs ys p, hf, rfl⟩
      have h2 := (I.hn p.owner (total xs + (p.takes + v))).2 ⟨q, by rw [e]; exact (at_app _ _ _ _).2 (.inr ⟨_, rfl, .inr ⟨v, rfl, hv⟩⟩), hq2, ho⟩
      rw [h1] at h2
      have := Option.some.inj h2
      have := takes_pos p
      omega
theorem Inv.owner {S : St} {pcs : List Pc} (I : Inv S pcs) {p : Pc} (hp : p ∈ pcs) (hf : p.free = false) : 1 ≤ p.owner ∧ p.owner ≤ S.pl.length := by
  obtain ⟨v, hv⟩ := at_of_mem hp
  obtain ⟨k, e, hk, _, _⟩ := placeOf_some ((I.hn p.owner v).2 ⟨p, hv, hf, rfl⟩)
  omega
def slideEnd (R : St) (rt rh : Nat) : St := if rt < fin R then putFree { R with nd := ring0, spare := 0 } rt (fin R - rt) rh else { R with nd := ring0, spare := 0 }
theorem slide_inv {S : St} {pcs : List Pc} (I : Inv S pcs) : ∃ R, SlideOk S 0 0 0 R (total (blocks pcs)) (lastT 0 (blocks pcs)) ∧ (total (blocks pcs) % 16 = 0 ∧ total (blocks pcs) ≤ fin R ∧ lastT 0 (blocks pcs) ≤ 1048576) ∧
    ∃ pcs2, Inv (slideEnd R (total (blocks pcs)) (lastT 0 (blocks pcs))) pcs2 ∧ blocks pcs2 = blocks pcs ∧ (slideEnd R (total (blocks pcs)) (lastT 0 (blocks pcs))).mem.length = S.mem.length ∧
      ∀ n, n ≤ 4096 → cost n ≤ S.mem.length - S.used → ∃ c, cls (cost n) ≤ c ∧ c < 17 ∧ (nodeAt (slideEnd R (total (blocks pcs)) (lastT 0 (blocks pcs))).nd c).n ≠ c := by
  obtain ⟨rest, hm, hr⟩ := I.mem
  have hlen := I.len
  have hlim := I.lim
  have htm := total_mod I.ok
  have hmid : Mid S [] [] 0 pcs rest := ⟨by rw [hm]; simp [lay], hr, I.lim, (fun p hp => by cases hp), I.ok, Nat.zero_le _, rfl⟩
  obtain ⟨R, junk, k1, k2, k3, k4, k5⟩ := slide_go pcs [] S [] rest 0 hmid (fun p hp hf => I.owner hp hf) (I.nodup pcs [] rfl)
  simp only [List.nil_append, total, List.length_nil, lastT, Nat.add_zero, Nat.zero_add] at k1 k2 k3 k5
  have hK := k1.kept
  obtain ⟨q1, q2, q3, q4, q5, q6, q7⟩ := hK
  have hRl := k2.len
  simp only [total, Nat.add_zero] at hRl
  have hbl := total_mod k2.od
  have hus : total (blocks pcs) = S.used := by rw [total_blocks, I.used]
  refine ⟨R, k1, ⟨hbl, by omega, lastT_le (by omega) (by omega)⟩, ?_⟩
  -- the table behind it
  have hpl : ∀ (h v : Nat), PlaceOf R (h : Int) = some v ↔ ∃ p, At (blocks pcs) v p ∧ p.free = false ∧ p.owner = h := fun h v => by
    constructor
    · intro hx
      obtain ⟨k, e, hk, hb, hv⟩ := placeOf_some hx
      have hpS : PlaceOf S (h : Int) = some (S.pl.getD k 0) := by
        rw [e, placeOf_nat, if_pos ⟨by rw [← q2]; exact hk, by rw [← q4]; exact hb⟩]
      obtain ⟨p, p1, p2, p3⟩ := (I.hn _ _).1 hpS
      obtain ⟨v', hv'⟩ := at_of_mem (mem_blocks.2 ⟨at_mem p1, p2⟩)
      have := k5 v' p hv'
      rw [show p.owner - 1 = k by omega, hv] at this
      exact ⟨p, this ▸ hv', p2, p3⟩
    · rintro ⟨p, p1, p2, p3⟩
      obtain ⟨v0, hv0⟩ := at_of_mem (mem_blocks.1 (at_mem p1)).1
      obtain ⟨k, e, hk, hb, _⟩ := placeOf_some ((I.hn h v0).2 ⟨p, hv0, p2, p3⟩)
      have := k5 v p p1
      rw [e, placeOf_nat, if_pos ⟨by rw [q2]; exact hk, by rw [q4]; exact hb⟩]
      rw [show p.owner - 1 = k by omega] at this
      rw [this]
  have htab : Tab R := by
    have t := I.tab
    refine ⟨by rw [q2, q4]; exact t.plus, by rw [q2]; exact t.lim, by rw [q4]; exact t.us, ?_, by rw [q4, q6]; exact t.low, by rw [q4, q6]; exact t.full⟩
    intro x hx
    obtain ⟨i, hi, rfl⟩ := List.getElem_of_mem hx
    have e : R.pl[i] = R.pl.getD i 0 := by simp [hi]
    rw [e]
    by_cases hex : ∃ p, p ∈ pcs ∧ p.free = false ∧ p.owner = i + 1
    · obtain ⟨p, p1, p2, p3⟩ := hex
      obtain ⟨v, hv⟩ := at_of_mem (mem_blocks.2 ⟨p1, p2⟩)
      have := k5 v p hv
      rw [show p.owner - 1 = i by omega] at this
      rw [this]
      have := at_le hv
      omega
    · rw [k4 i (fun p p1 p2 p3 => hex ⟨p, p1, p2, p3⟩)]
      have hi2 : i < S.pl.length := by omega
      have e2 : S.pl.getD i 0 = S.pl[i] := by simp [hi2]
      rw [e2]
      exact t.place _ (List.getElem_mem hi2)
  have hbb : blocks (blocks pcs) = blocks pcs := by unfold blocks; rw [List.filter_filter]; simp
  have hfr : Frees (fun _ => none) (blocks pcs) junk.length [] := fun i c v => by
    constructor
    · intro h; cases h
    · rintro ⟨p, h1, h2, _⟩
      have := at_of_atG h1
      rw [List.append_nil] at this
      rw [(mem_blocks.1 this).2] at h2; cases h2
  have g : Gap { R with nd := ring0, spare := 0 } (blocks pcs) junk 0 [] rest (fun _ => none) [] :=
    ⟨k2.mem, k2.rest, k2.lim, k2.od, (fun p hp => by cases hp), Nat.zero_le _, Ch.ring0, hfr, by show ring0.length < _; unfold ring0; rw [ring_len]; omega⟩
  have hfinR : fin R = total (blocks pcs) + junk.length := hRl.2
  have hcap : R.mem.length / 16 ≤ R.pl.length := by rw [q1, q2]; exact I.cap
  have huR : R.used = sumT (blocks (blocks pcs)) + sumT (blocks []) := by rw [q7, I.used, hbb]; simp [blocks, sumT]
  have hhn : ∀ (h v : Nat), PlaceOf { R with nd := ring0, spare := 0 } (h : Int) = some v ↔ ∃ p, AtG (blocks pcs) junk.length [] v p ∧ p.free = false ∧ p.owner = h := fun h v => by
    show PlaceOf R (h : Int) = some v ↔ _
    rw [hpl]
    constructor
    · rintro ⟨p, h1, h2⟩; exact ⟨p, .inl h1, h2⟩
    · rintro ⟨p, h1 | ⟨_, _, h1⟩, h2⟩
      · exact ⟨p, h1, h2⟩
      · exact h1.elim
  by_cases hj : 0 < junk.length
  · have hj16 : 16 ≤ junk.length := by have := k2.m16; omega
    have hse : slideEnd R (total (blocks pcs)) (lastT 0 (blocks pcs)) = putFree { R with nd := ring0, spare := 0 } (total (blocks pcs)) junk.length (lastT 0 (blocks pcs)) := by
      unfold slideEnd
      rw [if_pos (by omega), hfinR, Nat.add_sub_cancel_left]
    rw [hse]
    obtain ⟨k, hk, hinv, hb⟩ := g.inv hj16 k2.m16 (by show ring0.length ≤ _; unfold ring0; rw [ring_len]; omega) (htab.congr rfl rfl rfl) hcap hhn huR
    have hput := (g.fill hj16 k2.m16).1
    refine ⟨_, hinv, by rw [hb, hbb]; simp [blocks], ?_, fun n hn hcn => ?_⟩
    · rw [putFree_len _ _ _ _ hput.1 hput.2.1 hput.2.2.1]; exact q1
    · have hg := cost_ge n hn
      have hcl := cls_spec (s := junk.length) hj16 (by omega)
      have hle : cost n ≤ junk.length := by omega
      refine ⟨cls junk.length, cls_mono hg.2.1 hle (by omega), by omega, ?_⟩
      show (nodeAt (push ring0 0 (cls junk.length) (total (blocks pcs))).nd (cls junk.length)).n ≠ _
      rw [Ch.ring0.push_at _ (by omega)]
      simp only [if_true]
      have := (Ch.ring0.fresh (cls junk.length) (total (blocks pcs))).1
      omega
  · have hj0 : junk = [] := List.length_eq_zero_iff.1 (by omega)
    have hse : slideEnd R (total (blocks pcs)) (lastT 0 (blocks pcs)) = { R with nd := ring0, spare := 0 } := by
      unfold slideEnd
      rw [if_neg (by rw [hfinR, hj0]; simp)]
    rw [hse]
    refine ⟨blocks pcs, ⟨⟨rest, by show R.mem = _; rw [k2.mem, hj0]; simp [lay], k2.rest⟩, k2.lim, k2.od, ⟨_, _, Ch.ring0, by have := hfr; rw [hj0] at this; exact this⟩, by show ring0.length ≤ _; unfold ring0; rw [ring_len]; omega, htab.congr rfl rfl rfl, hcap, ?_, by rw [huR]; simp [blocks, sumT]⟩, hbb, q1, fun n hn hcn => ?_⟩
    · intro h v
      show PlaceOf R (h : Int) = some v ↔ _
      exact hpl h v
    · have hg := cost_ge n hn
      rw [hj0] at hRl
      simp only [List.length_nil] at hRl
      omega
end Ar
end Go.Proofs.YtkndbldjablhoaaDoor
