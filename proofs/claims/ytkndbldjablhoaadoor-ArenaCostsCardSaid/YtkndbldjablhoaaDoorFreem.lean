/- Free, on pieces and in memory. -/
import Derived.Test.YtkndbldjablhoaaDoorInvm
set_option maxRecDepth 100000
namespace Go.Proofs.YtkndbldjablhoaaDoor
open Go.RowKit Go.Shelf
namespace Ar
def freed (S : St) (tk k : Nat) : St := dropHd { S with used := S.used - tk } k
theorem Inv.block_pos {S : St} {pcs : List Pc} (I : Inv S pcs) {h : Int} {v : Nat} (hp : PlaceOf S h = some v) : ∃ xs p ys k, pcs = xs ++ p :: ys ∧ total xs = v ∧ p.free = false ∧ p.owner = k + 1 ∧ h = ((k + 1 : Nat) : Int) ∧ k < S.pl.length := by
  obtain ⟨k, rfl, hk, _, _⟩ := placeOf_some hp
  obtain ⟨p, h1, h2, h3⟩ := (I.hn _ _).1 hp
  obtain ⟨xs, ys, rfl, rfl⟩ := at_split h1
  exact ⟨xs, p, ys, k, rfl, rfl, h2, h3, rfl, hk⟩
theorem putFree_len (S : St) (a size ahead : Nat) (h1 : 16 ≤ size) (h2 : a + size ≤ S.mem.length) (h16 : (a + size) % 16 = 0) : (putFree S a size ahead).mem.length = S.mem.length := by
  unfold putFree
  simp only
  have e := putHd_len S.mem a ⟨true, (push S.nd S.spare (cls size) a).k, size, ahead⟩ (by omega)
  split
  · rw [putHd_len _ _ _ (by rw [e]; omega), e]
  · exact e
theorem placeOf_congr {S S' : St} (h1 : S'.pl = S.pl) (h2 : S'.us = S.us) (z : Int) : PlaceOf S' z = PlaceOf S z := by unfold PlaceOf; rw [h1, h2]
theorem Tab.congr {S S' : St} (h : Tab S) (h1 : S'.pl = S.pl) (h2 : S'.us = S.us) (h3 : S'.low = S.low) : Tab S' :=
  ⟨by rw [h1, h2]; exact h.plus, by rw [h1]; exact h.lim, by rw [h2]; exact h.us, by rw [h1]; exact h.place, by rw [h2, h3]; exact h.low, by rw [h2, h3]; exact h.full⟩
theorem Gap.congr {S S' : St} {xs ys : List Pc} {raw rest : List UInt8} {a' : Nat} {E : Nat → Option (Nat × Nat)} {sp : List Nat} (h : Gap S xs raw a' ys rest E sp) (h1 : S'.mem = S.mem) (h2 : S'.nd = S.nd) (h3 : S'.spare = S.spare) : Gap S' xs raw a' ys rest E sp :=
  ⟨by rw [h1]; exact h.mem, h.rest, by rw [h1]; exact h.lim, h.oxs, h.oys, h.a', by rw [h2, h3]; exact h.ch, h.fr, by rw [h2]; exact h.nd⟩
theorem LStep.nd {S1 : St} {xs : List Pc} {p : Pc} {raw1 : List UInt8} {a1 : Nat} {ys1 : List Pc} {rest : List UInt8} {r : Head} {br : Bool} {S2 : St} {xs2 : List Pc} {raw2 : List UInt8} {E2 : Nat → Option (Nat × Nat)} {sp2 : List Nat} (h : LStep S1 xs p raw1 a1 ys1 rest r br S2 xs2 raw2 E2 sp2) : S2.nd.length = S1.nd.length ∧ S2.mem = S1.mem := by
  rw [← h.take]
  refine ⟨?_, takeFree_mem _ _⟩
  unfold takeFree
  split
  · rfl
  · split
    · exact dropN_len _ _ _
    · rfl
theorem free_math {S : St} {xs ys : List Pc} {p : Pc} {k : Nat} (I : Inv S (xs ++ p :: ys)) (hf : p.free = false) (hk : p.owner = k + 1) :
    ∃ rest q bq S1 ys1 raw1 a1 E1 sp1 r br S2 xs2 raw2 E2 sp2, RStep (freed S p.takes k) xs p (lastT 0 xs) ys rest q bq S1 ys1 raw1 a1 E1 sp1 ∧ LStep S1 xs p raw1 a1 ys1 rest r br S2 xs2 raw2 E2 sp2 ∧ RelOk S2 (total xs) (p.hd (lastT 0 xs)) (relSize p.takes q bq) r br ∧
      headAt S.mem (total xs) = p.hd (lastT 0 xs) ∧ k < S.pl.length ∧ ∃ pcs', Inv (relEnd S2 (total xs) (p.hd (lastT 0 xs)) (relSize p.takes q bq) r br) pcs' ∧ blocks pcs' = blocks xs ++ blocks ys := by
  obtain ⟨rest, E, sp, g⟩ := I.at_
  have gd : Gap (freed S p.takes k) xs [] (lastT 0 xs) (p :: ys) rest E sp := g.congr rfl rfl rfl
  obtain ⟨q, bq, S1, ys1, raw1, a1, E1, sp1, R⟩ := right_step gd hf
  have hp := g.oys p (List.mem_cons_self ..)
  obtain ⟨r, br, S2, xs2, raw2, E2, sp2, Lr⟩ := left_step R.gap hp hf g.a' R.m16 R.pre
  have hh := g.headR
  simp only [List.length_nil, Nat.add_zero] at hh
  have hpl : PlaceOf S ((k + 1 : Nat) : Int) = some (total xs) := (I.hn _ _).2 ⟨p, at_mid xs ys p, hf, hk⟩
  obtain ⟨k', e1, hkl, _, _⟩ := placeOf_some hpl
  obtain rfl : k = k' := by omega
  have hkl' : k < S.pl.length := hkl
  obtain ⟨t, ht⟩ := R.pre
  have hr1 : 16 ≤ raw1.length := by rw [ht, List.length_append, bytes_len]; have := hp.ge; omega
  have hr2 : 16 ≤ raw2.length := by
    cases hb : br
    · rw [(Lr.pos.2 hb).2]; exact hr1
    · rw [(Lr.pos.1 hb).2.2]; omega
  have hend : ∀ (F : Nat → Nat → Nat → Prop), F (total xs2) raw2.length (lastT 0 xs2) → (br = true → F (total xs - lastT 0 xs) (relSize p.takes q bq + r.size) r.ahead) ∧ (br = false → F (total xs) (relSize p.takes q bq) (lastT 0 xs)) := fun F hF => by
    refine ⟨fun hb => ?_, fun hb => ?_⟩
    · obtain ⟨p1, p2, p3⟩ := Lr.pos.1 hb
      rw [← p1, ← p2, ← R.size, ← p3]; exact hF
    · obtain ⟨p1, p2⟩ := Lr.pos.2 hb
      rw [p2, p1] at hF
      rw [← R.size]
      exact hF
  obtain ⟨hput, _⟩ := Lr.gap.fill hr2 Lr.m16
  have hnd := I.nd
  have hmem1 := R.mem
  obtain ⟨ln, lm⟩ := Lr.nd
  have hnd1 : S1.nd.length = S.nd.length := by
    rw [← R.take]
    unfold takeFree
    split
    · rfl
    · split
      · exact dropN_len _ _ _
      · rfl
  obtain ⟨u1, u2, u3, u4⟩ := R.rem
  obtain ⟨w1, w2, w3, w4⟩ := Lr.rem
  have ht0 : Tab { S with used := S.used - p.takes } := I.tab.congr rfl rfl rfl
  have htab : Tab S2 := (ht0.drop hkl').congr (by rw [w2, u2]; rfl) (by rw [w3, u3]; rfl) (by rw [w4, u4]; rfl)
  have hplace : ∀ z, PlaceOf S2 z = if z = ((k + 1 : Nat) : Int) then none else PlaceOf S z := fun z => by
    rw [placeOf_congr (S := freed S p.takes k) (S' := S2) (by rw [w2, u2]) (by rw [w3, u3]) z]
    exact placeOf_drop ht0 hkl' z
  have hat : ∀ v b, b.free = false → (AtG xs2 raw2.length ys1 v b ↔ AtG xs p.takes ys v b) := fun v b hb => (Lr.at_ v b hb).trans (R.at_ v b hb)
  obtain ⟨kk, hkk, hinv, hbl⟩ := Lr.gap.inv hr2 Lr.m16 (by omega) htab (by rw [lm, hmem1, w2, u2]; exact I.cap) (fun h v => by
    rw [hplace]
    constructor
    · intro hx
      split at hx
      · cases hx
      · rename_i hne
        obtain ⟨b, h1, h2, h3⟩ := (I.hn h v).1 hx
        rcases (atG_fill xs ys p v b).1 h1 with h4 | ⟨_, rfl⟩
        · exact ⟨b, (hat v b h2).2 h4, h2, h3⟩
        · exact absurd (show (h : Int) = ((k + 1 : Nat) : Int) by omega) hne
    · rintro ⟨b, h1, h2, h3⟩
      have h4 := (hat v b h2).1 h1
      have hx := (I.hn h v).2 ⟨b, (atG_fill xs ys p v b).2 (.inl h4), h2, h3⟩
      rw [if_neg]
      · exact hx
      · intro e
        rw [e, hpl] at hx
        cases hx
        exact atG_gap h4 (Nat.le_refl _) (by have := takes_pos p; omega)) (by
    rw [w1, u1]
    show S.used - p.takes = _
    rw [I.used, blocks_app, blocks_block ys hf, sumT_app, sumT_cons, Lr.bl, R.bl]
    omega)
  refine ⟨rest, q, bq, S1, ys1, raw1, a1, E1, sp1, r, br, S2, xs2, raw2, E2, sp2, R, Lr, ?_, hh, hkl', xs2 ++ mkFree kk raw2 :: ys1, ?_, by rw [hbl, Lr.bl, R.bl]⟩
  · have := hend (PutOk S2) hput
    cases hb : br
    · exact this.2 hb
    · exact this.1 hb
  · have := hend (fun a s d => Inv (putFree S2 a s d) (xs2 ++ mkFree kk raw2 :: ys1)) hinv
    cases hb : br
    · exact this.2 hb
    · exact this.1 hb
end Ar
end Go.Proofs.YtkndbldjablhoaaDoor
