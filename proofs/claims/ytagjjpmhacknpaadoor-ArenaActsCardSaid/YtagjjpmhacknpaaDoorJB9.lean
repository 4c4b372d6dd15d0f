/- 4 texts put together: Invm, Freem, Setm, Slidem. -/
import Derived.Test.YtagjjpmhacknpaaDoorJB5
import Derived.Test.YtagjjpmhacknpaaDoorJB7
import Derived.Test.YtagjjpmhacknpaaDoorJB8
/- What holds of an arena between calls; release keeps it. -/
set_option maxRecDepth 100000
namespace Go.Proofs.YtagjjpmhacknpaaDoor
namespace Ar
def sumT (xs : List Pc) : Nat := (xs.map Pc.takes).sum
structure Inv (S : St) (pcs : List Pc) : Prop where
  mem : ∃ rest, S.mem = lay 0 pcs ++ rest ∧ rest.length < 16
  lim : S.mem.length ≤ 1048576
  ok : ∀ p ∈ pcs, p.Ok
  fr : ∃ E sp, Ch S.nd S.spare E sp ∧ Frees E pcs 0 []
  nd : S.nd.length ≤ 70000
  tab : Tab S
  cap : S.mem.length / 16 ≤ S.pl.length
  hn : ∀ (h v : Nat), PlaceOf S (h : Int) = some v ↔ ∃ p, At pcs v p ∧ p.free = false ∧ p.owner = h
  used : S.used = sumT (blocks pcs)
theorem sumT_app (xs ys : List Pc) : sumT (xs ++ ys) = sumT xs + sumT ys := by simp [sumT]
theorem sumT_cons (p : Pc) (ys : List Pc) : sumT (p :: ys) = p.takes + sumT ys := by simp [sumT]
theorem sumT_le : ∀ xs : List Pc, sumT (blocks xs) ≤ total xs
  | [] => Nat.le_refl _
  | p :: r => by
    have := sumT_le r
    cases hf : p.free
    · rw [blocks_block r hf, sumT_cons]; simp only [total]; omega
    · rw [blocks_free r hf]; simp only [total]; omega
theorem Inv.len {S : St} {pcs : List Pc} (h : Inv S pcs) : total pcs = fin S ∧ fin S ≤ S.mem.length := by
  obtain ⟨rest, hm, hr⟩ := h.mem
  have : S.mem.length = total pcs + rest.length := by rw [hm]; simp [lay_len]
  have := total_mod h.ok
  unfold fin; omega
theorem Inv.sane {S : St} {pcs : List Pc} (h : Inv S pcs) : Sane S := by
  have t := h.tab
  refine ⟨h.lim, by have := t.lim; omega, t.plus, t.us, t.place, ?_, by have := t.low; have := t.plus; have := t.lim; omega⟩
  rw [h.used]
  have := sumT_le pcs
  have := h.len
  omega
/-- At a piece: the gap of nothing ahead of it. -/
theorem Inv.at_ {S : St} {xs ys : List Pc} {p : Pc} (h : Inv S (xs ++ p :: ys)) : ∃ rest E sp, Gap S xs [] (lastT 0 xs) (p :: ys) rest E sp := by
  obtain ⟨rest, hm, hr⟩ := h.mem
  obtain ⟨E, sp, hc, hf⟩ := h.fr
  have hl := h.len
  have hlim := h.lim
  rw [total_app] at hl
  refine ⟨rest, E, sp, ⟨by rw [hm, lay_app]; simp, hr, h.lim, fun q hq => h.ok q (by simp [hq]), fun q hq => h.ok q (List.mem_append_right _ hq), lastT_le (by omega) (by omega), hc, fun i c v => ?_, by have := h.nd; omega⟩⟩
  rw [hf i c v]
  simp only [List.length_nil]
  constructor
  · rintro ⟨p, h1, h2⟩
    refine ⟨p, (atG_zero _ _ _ _).2 ?_, h2⟩
    have := (atG_zero _ _ _ _).1 h1
    simpa using this
  · rintro ⟨p, h1, h2⟩
    refine ⟨p, (atG_zero _ _ _ _).2 ?_, h2⟩
    have := (atG_zero _ _ _ _).1 h1
    simpa using this
theorem at_of_atG {xs ys : List Pc} {g v : Nat} {p : Pc} (h : AtG xs g ys v p) : p ∈ xs ++ ys := by
  rcases h with h | ⟨_, _, h⟩
  · exact List.mem_append_left _ (at_mem h)
  · exact List.mem_append_right _ (at_mem h)
/-- How many nodes there may be. -/
theorem Gap.count {S : St} {xs ys : List Pc} {raw rest : List UInt8} {a' : Nat} {E : Nat → Option (Nat × Nat)} {sp : List Nat} (h : Gap S xs raw a' ys rest E sp) (h0 : S.spare = 0) : S.nd.length ≤ 17 + 65536 := by
  have hsp : sp = [] := by
    rcases h.ch.spare0 with ⟨_, h2⟩ | ⟨_, _, h2, _⟩
    · exact h2
    · omega
  have hlen := h.len
  have hlim := h.lim
  have t1 := total_ge h.oxs
  have t2 := total_ge h.oys
  have key := nodup_le (l := List.range' 17 (S.nd.length - 17)) (m := (xs ++ ys).map Pc.owner) List.nodup_range' (fun i hi => by
    rw [List.mem_range'_1] at hi
    rcases h.ch.all i (by omega) (by omega) with h3 | h3
    · cases hx : E i with
      | none => exact absurd hx h3
      | some x =>
        obtain ⟨c, v⟩ := x
        obtain ⟨p, h4, _, h5, _⟩ := (h.fr i c v).1 hx
        exact List.mem_map.2 ⟨p, at_of_atG h4, h5⟩
    · rw [hsp] at h3; cases h3)
  simp only [List.length_range', List.length_map, List.length_append] at key
  omega
theorem Gap.fill_nd {S : St} {xs ys : List Pc} {raw rest : List UInt8} {a' : Nat} {E : Nat → Option (Nat × Nat)} {sp : List Nat} (h : Gap S xs raw a' ys rest E sp) (hn : S.nd.length ≤ 70000) (v size ahead : Nat) : (putFree S v size ahead).nd.length ≤ 70000 := by
  show (push S.nd S.spare (cls size) v).nd.length ≤ _
  by_cases h0 : S.spare = 0
  · have := h.count h0
    simp only [push, h0, if_true, link_len, setV_len, List.length_append, List.length_singleton]; omega
  · simp only [push, if_neg h0, link_len, setV_len]; exact hn
theorem frees_nil {E : Nat → Option (Nat × Nat)} {xs ys : List Pc} (h : Frees E xs 0 ys) : Frees E (xs ++ ys) 0 [] := fun i c v => by
  rw [h i c v]
  constructor
  · rintro ⟨p, h1, h2⟩
    exact ⟨p, (atG_zero _ _ _ _).2 (by simpa using (atG_zero _ _ _ _).1 h1), h2⟩
  · rintro ⟨p, h1, h2⟩
    exact ⟨p, (atG_zero _ _ _ _).2 (by simpa using (atG_zero _ _ _ _).1 h1), h2⟩
/-- A gap that is filled by a free piece, with the table as it is. -/
theorem Gap.inv {S : St} {xs ys : List Pc} {raw rest : List UInt8} {a' : Nat} {E : Nat → Option (Nat × Nat)} {sp : List Nat} (h : Gap S xs raw a' ys rest E sp) (h16 : 16 ≤ raw.length) (hr16 : raw.length % 16 = 0) (hn : S.nd.length ≤ 70000) (ht : Tab S) (hcap : S.mem.length / 16 ≤ S.pl.length)
    (hh : ∀ (h v : Nat), PlaceOf S (h : Int) = some v ↔ ∃ p, AtG xs raw.length ys v p ∧ p.free = false ∧ p.owner = h) (hu : S.used = sumT (blocks xs) + sumT (blocks ys)) :
    ∃ k, k < 1048576 ∧ Inv (putFree S (total xs) raw.length (lastT 0 xs)) (xs ++ mkFree k raw :: ys) ∧ blocks (xs ++ mkFree k raw :: ys) = blocks xs ++ blocks ys := by
  obtain ⟨_, k, E', sp', hk, hm, hc, hf⟩ := h.fill h16 hr16
  have hb : blocks (xs ++ mkFree k raw :: ys) = blocks xs ++ blocks ys := by rw [blocks_app, blocks_free ys (p := mkFree k raw) rfl]
  have hml : (putFree S (total xs) raw.length (lastT 0 xs)).mem.length = S.mem.length := by
    rw [hm, List.length_append, lay_len, total_app, h.len]
    simp only [total, mkFree_takes (k := k) (raw := raw) (by omega)]
    omega
  refine ⟨k, hk, ⟨⟨rest, hm, h.rest⟩, by rw [hml]; exact h.lim, ?_, ⟨E', sp', hc, frees_nil hf⟩, h.fill_nd hn _ _ _, ⟨ht.plus, ht.lim, ht.us, ht.place, ht.low, ht.full⟩, by rw [hml]; exact hcap, ?_, ?_⟩, hb⟩
  · intro p hp
    rcases List.mem_append.1 hp with h1 | h1
    · exact h.oxs p h1
    · rcases List.mem_cons.1 h1 with rfl | h1
      · exact mkFree_ok h16 hr16 hk
      · exact h.oys p h1
  · intro hd v
    show PlaceOf S hd = some v ↔ _
    rw [hh hd v]
    constructor
    · rintro ⟨p, h1, h2⟩
      exact ⟨p, (atG_fill xs ys (mkFree k raw) v p).2 (.inl (by rw [mkFree_takes (by omega)]; exact h1)), h2⟩
    · rintro ⟨p, h1, h2, h3⟩
      rcases (atG_fill xs ys (mkFree k raw) v p).1 h1 with h4 | ⟨_, rfl⟩
      · exact ⟨p, by rw [mkFree_takes (by omega)] at h4; exact h4, h2, h3⟩
      · cases h2
  · show S.used = _
    rw [hb, sumT_app]; exact hu
end Ar
end Go.Proofs.YtagjjpmhacknpaaDoor

/- Free, on pieces and in memory. -/
set_option maxRecDepth 100000
namespace Go.Proofs.YtagjjpmhacknpaaDoor
open Go.RowKit Go.Shelf
namespace Ar
def freed (S : St) (tk k : Nat) : St := dropHd { S with used := S.used - tk } k
theorem Inv.block_pos {S : St} {pcs : List Pc} (I : Inv S pcs) {h : Int} {v : Nat} (hp : PlaceOf S h = some v) : ∃ xs p ys k, pcs = xs ++ p :: ys ∧ total xs = v ∧ p.free = false ∧ p.owner = k + 1 ∧ h = ((k + 1 : Nat) : Int) ∧ k < S.pl.length := by
  obtain ⟨k, rfl, hk, _, _⟩ := placeOf_some hp
  obtain ⟨p, h1, h2, h3⟩ := (I.hn _ _).1 hp
  obtain ⟨xs, ys, rfl, rfl⟩ := at_split h1
  exact ⟨xs, p, ys, k, rfl, rfl, h2, h3, rfl, hk⟩
theorem putFree_len (S : St) (a size ahead : Nat) (h1 : 16 ≤ size) (h2 : a + size ≤ S.mem.length) (h16 : (a + size) % 16 = 0) : (putFree S a size ahead).mem.length = S.mem.length := by
  unfold putFree
  simp only
  have e := putHd_len S.mem a ⟨true, false, (push S.nd S.spare (cls size) a).k, size, ahead⟩ (by omega)
  split
  · rw [putHd_len _ _ _ (by rw [e]; omega), e]
  · exact e
theorem placeOf_congr {S S' : St} (h1 : S'.pl = S.pl) (h2 : S'.us = S.us) (z : Int) : PlaceOf S' z = PlaceOf S z := by unfold PlaceOf; rw [h1, h2]
theorem Tab.congr {S S' : St} (h : Tab S) (h1 : S'.pl = S.pl) (h2 : S'.us = S.us) (h3 : S'.low = S.low) : Tab S' :=
  ⟨by rw [h1, h2]; exact h.plus, by rw [h1]; exact h.lim, by rw [h2]; exact h.us, by rw [h1]; exact h.place, by rw [h2, h3]; exact h.low, by rw [h2, h3]; exact h.full⟩
theorem Gap.congr {S S' : St} {xs ys : List Pc} {raw rest : List UInt8} {a' : Nat} {E : Nat → Option (Nat × Nat)} {sp : List Nat} (h : Gap S xs raw a' ys rest E sp) (h1 : S'.mem = S.mem) (h2 : S'.nd = S.nd) (h3 : S'.spare = S.spare) : Gap S' xs raw a' ys rest E sp :=
  ⟨by rw [h1]; exact h.mem, h.rest, by rw [h1]; exact h.lim, h.oxs, h.oys, h.a', by rw [h2, h3]; exact h.ch, h.fr, by rw [h2]; exact h.nd⟩
theorem LStep.nd {S1 : St} {xs : List Pc} {p : Pc} {raw1 : List UInt8} {a1 : Nat} {ys1 : List Pc} {rest : List UInt8} {r : Head} {br : Bool} {S2 : St} {xs2 : List Pc} {raw2 : List UInt8} {E2 : Nat → Option (Nat × Nat)} {sp2 : List Nat} (h : LStep S1 xs p raw1 a1 ys1 rest r br S2 xs2 raw2 E2 sp2) : S2.nd.length = S1.nd.length ∧ S2.mem = S1.mem := by
  rw [← h.take]
  refine ⟨?_, takeFree_mem _ _⟩
  unfold takeFree
  split
  · rfl
  · split
    · exact dropN_len _ _ _
    · rfl
theorem free_math {S : St} {xs ys : List Pc} {p : Pc} {k : Nat} (I : Inv S (xs ++ p :: ys)) (hf : p.free = false) (hk : p.owner = k + 1) :
    ∃ rest q bq S1 ys1 raw1 a1 E1 sp1 r br S2 xs2 raw2 E2 sp2, RStep (freed S p.takes k) xs p (lastT 0 xs) ys rest q bq S1 ys1 raw1 a1 E1 sp1 ∧ LStep S1 xs p raw1 a1 ys1 rest r br S2 xs2 raw2 E2 sp2 ∧ RelOk S2 (total xs) (p.hd (lastT 0 xs)) (relSize p.takes q bq) r br ∧
      headAt S.mem (total xs) = p.hd (lastT 0 xs) ∧ k < S.pl.length ∧ ∃ pcs', Inv (relEnd S2 (total xs) (p.hd (lastT 0 xs)) (relSize p.takes q bq) r br) pcs' ∧ blocks pcs' = blocks xs ++ blocks ys := by
  obtain ⟨rest, E, sp, g⟩ := I.at_
  have gd : Gap (freed S p.takes k) xs [] (lastT 0 xs) (p :: ys) rest E sp := g.congr rfl rfl rfl
  obtain ⟨q, bq, S1, ys1, raw1, a1, E1, sp1, R⟩ := right_step gd hf
  have hp := g.oys p (List.mem_cons_self ..)
  obtain ⟨r, br, S2, xs2, raw2, E2, sp2, Lr⟩ := left_step R.gap hp hf g.a' R.m16 R.pre
  have hh := g.headR
  simp only [List.length_nil, Nat.add_zero] at hh
  have hpl : PlaceOf S ((k + 1 : Nat) : Int) = some (total xs) := (I.hn _ _).2 ⟨p, at_mid xs ys p, hf, hk⟩
  obtain ⟨k', e1, hkl, _, _⟩ := placeOf_some hpl
  obtain rfl : k = k' := by omega
  have hkl' : k < S.pl.length := hkl
  obtain ⟨t, ht⟩ := R.pre
  have hr1 : 16 ≤ raw1.length := by rw [ht, List.length_append, bytes_len]; have := hp.ge; omega
  have hr2 : 16 ≤ raw2.length := by
    cases hb : br
    · rw [(Lr.pos.2 hb).2]; exact hr1
    · rw [(Lr.pos.1 hb).2.2]; omega
  have hend : ∀ (F : Nat → Nat → Nat → Prop), F (total xs2) raw2.length (lastT 0 xs2) → (br = true → F (total xs - lastT 0 xs) (relSize p.takes q bq + r.size) r.ahead) ∧ (br = false → F (total xs) (relSize p.takes q bq) (lastT 0 xs)) := fun F hF => by
    refine ⟨fun hb => ?_, fun hb => ?_⟩
    · obtain ⟨p1, p2, p3⟩ := Lr.pos.1 hb
      rw [← p1, ← p2, ← R.size, ← p3]; exact hF
    · obtain ⟨p1, p2⟩ := Lr.pos.2 hb
      rw [p2, p1] at hF
      rw [← R.size]
      exact hF
  obtain ⟨hput, _⟩ := Lr.gap.fill hr2 Lr.m16
  have hnd := I.nd
  have hmem1 := R.mem
  obtain ⟨ln, lm⟩ := Lr.nd
  have hnd1 : S1.nd.length = S.nd.length := by
    rw [← R.take]
    unfold takeFree
    split
    · rfl
    · split
      · exact dropN_len _ _ _
      · rfl
  obtain ⟨u1, u2, u3, u4⟩ := R.rem
  obtain ⟨w1, w2, w3, w4⟩ := Lr.rem
  have ht0 : Tab { S with used := S.used - p.takes } := I.tab.congr rfl rfl rfl
  have htab : Tab S2 := (ht0.drop hkl').congr (by rw [w2, u2]; rfl) (by rw [w3, u3]; rfl) (by rw [w4, u4]; rfl)
  have hplace : ∀ z, PlaceOf S2 z = if z = ((k + 1 : Nat) : Int) then none else PlaceOf S z := fun z => by
    rw [placeOf_congr (S := freed S p.takes k) (S' := S2) (by rw [w2, u2]) (by rw [w3, u3]) z]
    exact placeOf_drop ht0 hkl' z
  have hat : ∀ v b, b.free = false → (AtG xs2 raw2.length ys1 v b ↔ AtG xs p.takes ys v b) := fun v b hb => (Lr.at_ v b hb).trans (R.at_ v b hb)
  obtain ⟨kk, hkk, hinv, hbl⟩ := Lr.gap.inv hr2 Lr.m16 (by omega) htab (by rw [lm, hmem1, w2, u2]; exact I.cap) (fun h v => by
    rw [hplace]
    constructor
    · intro hx
      split at hx
      · cases hx
      · rename_i hne
        obtain ⟨b, h1, h2, h3⟩ := (I.hn h v).1 hx
        rcases (atG_fill xs ys p v b).1 h1 with h4 | ⟨_, rfl⟩
        · exact ⟨b, (hat v b h2).2 h4, h2, h3⟩
        · exact absurd (show (h : Int) = ((k + 1 : Nat) : Int) by omega) hne
    · rintro ⟨b, h1, h2, h3⟩
      have h4 := (hat v b h2).1 h1
      have hx := (I.hn h v).2 ⟨b, (atG_fill xs ys p v b).2 (.inl h4), h2, h3⟩
      rw [if_neg]
      · exact hx
      · intro e
        rw [e, hpl] at hx
        cases hx
        exact atG_gap h4 (Nat.le_refl _) (by have := takes_pos p; omega)) (by
    rw [w1, u1]
    show S.used - p.takes = _
    rw [I.used, blocks_app, blocks_block ys hf, sumT_app, sumT_cons, Lr.bl, R.bl]
    omega)
  refine ⟨rest, q, bq, S1, ys1, raw1, a1, E1, sp1, r, br, S2, xs2, raw2, E2, sp2, R, Lr, ?_, hh, hkl', xs2 ++ mkFree kk raw2 :: ys1, ?_, by rw [hbl, Lr.bl, R.bl]⟩
  · have := hend (PutOk S2) hput
    cases hb : br
    · exact this.2 hb
    · exact this.1 hb
  · have := hend (fun a s d => Inv (putFree S2 a s d) (xs2 ++ mkFree kk raw2 :: ys1)) hinv
    cases hb : br
    · exact this.2 hb
    · exact this.1 hb
end Ar
end Go.Proofs.YtagjjpmhacknpaaDoor

/- settle, on pieces. -/
set_option maxRecDepth 100000
namespace Go.Proofs.YtagjjpmhacknpaaDoor
namespace Ar
/-- The new block. -/
def mkBlock (p : Pc) (h n : Nat) : Pc := ⟨false, false, h, n, zeros n ++ (p.data.drop n).take (cost n - 8 - n)⟩
theorem mkBlock_takes {p : Pc} {h n : Nat} (hn : n ≤ 4096) (hp : cost n ≤ p.takes) : (mkBlock p h n).takes = cost n := by
  have := cost_ge n hn
  unfold Pc.takes at hp
  unfold mkBlock Pc.takes zeros
  simp
  omega
theorem mkBlock_ok {p : Pc} {h n : Nat} (hn : n ≤ 4096) (hp : cost n ≤ p.takes) (hh : h < 1048576) : (mkBlock p h n).Ok := by
  have e := mkBlock_takes (h := h) hn hp
  have c := cost_ge n hn
  exact ⟨by rw [e]; exact c.2.2.2, by rw [e]; exact c.2.1, hh, (fun h => by cases h), fun _ => ⟨hn, e.symm⟩⟩
theorem put_mid (X B Y l : List UInt8) (k : Nat) (hk : k = X.length) (h : B.length = l.length) : put (X ++ (B ++ Y)) k l = X ++ (l ++ Y) := by
  subst hk
  have := put_app X B Y l h
  simpa [List.append_assoc] using this
/-- What is written: the head, and zeros. -/
theorem settle_mem {S : St} {xs ys : List Pc} {p : Pc} {a0 : Nat} {rest : List UInt8} {E : Nat → Option (Nat × Nat)} {sp : List Nat} {h n : Nat} (g : Gap S xs [] a0 (p :: ys) rest E sp) (hn : n ≤ 4096) (hp : cost n ≤ p.takes) :
    put (putHd S.mem (total xs) ⟨false, false, h, n, a0⟩) (total xs + 8) (zeros n) = lay 0 xs ++ (mkBlock p h n).bytes a0 ++ p.data.drop (cost n - 8) ++ lay p.takes ys ++ rest := by
  have c := cost_ge n hn
  unfold Pc.takes at hp
  have e1 : S.mem = lay 0 xs ++ (byte8 (p.hd a0).word ++ (p.data ++ (lay p.takes ys ++ rest))) := by
    rw [g.mem]; simp only [lay, Pc.bytes, List.append_assoc, List.nil_append]
  have e2 : putHd S.mem (total xs) ⟨false, false, h, n, a0⟩ = lay 0 xs ++ (byte8 (Head.word ⟨false, false, h, n, a0⟩) ++ (p.data ++ (lay p.takes ys ++ rest))) := by
    rw [e1]
    exact put_mid _ _ _ _ _ (lay_len 0 xs).symm (by unfold byte8; rw [lastB_len, lastB_len])
  rw [e2]
  have e3 : lay 0 xs ++ (byte8 (Head.word ⟨false, false, h, n, a0⟩) ++ (p.data ++ (lay p.takes ys ++ rest))) = (lay 0 xs ++ byte8 (Head.word ⟨false, false, h, n, a0⟩)) ++ (p.data.take n ++ ((p.data.drop n) ++ (lay p.takes ys ++ rest))) := by
    rw [← List.append_assoc (p.data.take n), List.take_append_drop]
    simp only [List.append_assoc]
  rw [e3, put_mid _ _ _ _ _ (by rw [List.length_append, lay_len, show (byte8 (Head.word ⟨false, false, h, n, a0⟩)).length = 8 from lastB_len 8 _]) (by simp [zeros]; omega)]
  unfold mkBlock Pc.bytes Pc.hd
  simp only [List.append_assoc]
  have e4 : p.data.drop n = (p.data.drop n).take (cost n - 8 - n) ++ p.data.drop (cost n - 8) := by
    have : p.data.drop (cost n - 8) = (p.data.drop n).drop (cost n - 8 - n) := by rw [List.drop_drop]; congr 1; omega
    rw [this, List.take_append_drop]
  conv => lhs; rw [e4]
  simp only [List.append_assoc]
theorem Tab.congr' {S S' : St} (h : Tab S) (h1 : S'.pl = S.pl) (h2 : S'.us = S.us) (h3 : S'.low = S.low) : Tab S' := h.congr h1 h2 h3
/-- What settle asks, and what it leaves; the table and what is used are told apart. -/
theorem settle_math {S T : St} {xs ys : List Pc} {p : Pc} {h n : Nat} (I : Inv S (xs ++ p :: ys)) (hf : p.free = true) (hn : n ≤ 4096) (hp : cost n ≤ p.takes) (hh : h < 1048576)
    (t1 : T.mem = S.mem) (t2 : T.nd = S.nd) (t3 : T.spare = S.spare) (hT : Tab T) (tp : T.pl.length = S.pl.length) (hT2 : ∀ z : Int, PlaceOf T z = if z = (h : Int) then some (total xs) else PlaceOf S z) (hnew : PlaceOf S (h : Int) = none) (_hT3 : T.used = S.used) :
    (total xs ≠ fin T ∧ headAt T.mem (total xs) = p.hd (lastT 0 xs) ∧ total xs + p.takes ≤ T.mem.length ∧ p.size = p.takes ∧ (total xs + p.takes) % 16 = 0 ∧ (p.owner < T.nd.length ∧ (nodeAt T.nd p.owner).n < T.nd.length ∧ (nodeAt T.nd p.owner).l < T.nd.length) ∧ (∀ c, c < 17 → c < (takeFree T (total xs)).nd.length ∧ (nodeAt (takeFree T (total xs)).nd c).n < (takeFree T (total xs)).nd.length) ∧ (takeFree T (total xs)).spare < (takeFree T (total xs)).nd.length ∧ (takeFree T (total xs)).nd.length ≤ 70000) ∧
    ∃ pcs', Inv { settle T (total xs) h n with used := S.used + cost n } pcs' ∧ blocks pcs' = blocks xs ++ mkBlock p h n :: blocks ys := by
  obtain ⟨rest, E, sp, g0⟩ := I.at_
  have g : Gap T xs [] (lastT 0 xs) (p :: ys) rest E sp := g0.congr t1 t2 t3
  have hpo := g.oys p (List.mem_cons_self ..)
  have hpg := hpo.ge
  have hlen := g.len
  have hlim := g.lim
  have hfin := g.fin (by rfl)
  simp only [total, List.length_nil, Nat.add_zero] at hlen hfin
  have hhd := g.headR
  simp only [List.length_nil, Nat.add_zero] at hhd
  obtain ⟨gr, n1, n2, n3⟩ := g.right hf
  simp only [List.nil_append] at gr
  have hne : total xs ≠ fin T := by omega
  have htk : takeFree T (total xs) = { T with nd := dropN T.nd p.owner T.spare, spare := p.owner } := by
    unfold takeFree; rw [if_neg hne, hhd, if_pos (show (p.hd (lastT 0 xs)).free = true from hf)]; rfl
  have hsz := hpo.fr hf
  have tx := total_mod g.oxs
  have hnd : T.nd.length ≤ 70000 := by rw [t2]; exact I.nd
  have hnd2 : (takeFree T (total xs)).nd.length ≤ 70000 := by rw [htk]; show (dropN _ _ _).length ≤ _; rw [dropN_len]; exact hnd
  refine ⟨⟨hne, hhd, by omega, hsz, by have := hpo.m16; omega, ⟨n1, n2, n3⟩, fun c hc => by rw [htk]; exact gr.ch.class hc, by rw [htk]; exact gr.ch.spare_lt, hnd2⟩, ?_⟩
  have hm := settle_mem (h := h) g hn hp
  have hbt := mkBlock_takes (h := h) hn hp
  have hbo := mkBlock_ok hn hp hh
  have hrl : (p.data.drop (cost n - 8)).length = p.takes - cost n := by have := cost_ge n hn; unfold Pc.takes; simp; omega
  -- the state behind the zeros
  obtain ⟨S3, hS3⟩ : ∃ S3 : St, S3 = { takeFree T (total xs) with mem := put (putHd T.mem (total xs) ⟨false, false, h, n, lastT 0 xs⟩) (total xs + 8) (zeros n), used := S.used + cost n } := ⟨_, rfl⟩
  have hmem3 : S3.mem = lay 0 (xs ++ [mkBlock p h n]) ++ p.data.drop (cost n - 8) ++ lay p.takes ys ++ rest := by
    rw [hS3]
    show put _ _ _ = _
    rw [hm, lay_app]
    simp only [lay, List.append_assoc, List.append_nil]
  have g3 : Gap S3 (xs ++ [mkBlock p h n]) (p.data.drop (cost n - 8)) p.takes ys rest (off E p.owner) (p.owner :: sp) := by
    refine ⟨hmem3, g.rest, ?_, ?_, gr.oys, by omega, ?_, ?_, ?_⟩
    · rw [hmem3]
      simp only [List.length_append, lay_len, total_app, total, hbt, hrl]
      have := cost_ge n hn
      omega
    · intro q hq
      rcases List.mem_append.1 hq with h1 | h1
      · exact g.oxs q h1
      · rw [List.mem_singleton] at h1; rw [h1]; exact hbo
    · have := gr.ch
      rw [hS3]
      show Ch (takeFree T (total xs)).nd (takeFree T (total xs)).spare _ _
      rw [htk]; exact this
    · have hF := gr.fr
      rw [bytes_len] at hF
      intro i c v
      rw [hF i c v, hrl]
      constructor
      · rintro ⟨b, h1, h2⟩
        refine ⟨b, (atG_snoc xs ys _ (mkBlock p h n) v b).2 (.inl ?_), h2⟩
        rw [hbt, show cost n + (p.takes - cost n) = p.takes by omega]; exact h1
      · rintro ⟨b, h1, h2, h3⟩
        rcases (atG_snoc xs ys _ (mkBlock p h n) v b).1 h1 with h4 | ⟨_, rfl⟩
        · rw [hbt, show cost n + (p.takes - cost n) = p.takes by omega] at h4
          exact ⟨b, h4, h2, h3⟩
        · cases h2
    · rw [hS3]; show (takeFree T (total xs)).nd.length < _; omega
  have hcn := cost_ge n hn
  have hS3pl : ∀ z, PlaceOf S3 z = PlaceOf T z := fun z => placeOf_congr (by rw [hS3]; show (takeFree T (total xs)).pl = _; rw [htk]) (by rw [hS3]; show (takeFree T (total xs)).us = _; rw [htk]) z
  have hTab3 : Tab S3 := hT.congr (by rw [hS3]; show (takeFree T (total xs)).pl = _; rw [htk]) (by rw [hS3]; show (takeFree T (total xs)).us = _; rw [htk]) (by rw [hS3]; show (takeFree T (total xs)).low = _; rw [htk])
  have hblk : ∀ (hd v : Nat) (G : Nat → Pc → Prop), (∀ v b, b.free = false → (G v b ↔ AtG xs p.takes ys v b ∨ (v = total xs ∧ b = mkBlock p h n))) → (PlaceOf S3 (hd : Int) = some v ↔ ∃ b, G v b ∧ b.free = false ∧ b.owner = hd) := fun hd v G hG => by
    rw [hS3pl, hT2]
    constructor
    · intro hx
      split at hx
      · rename_i e
        cases hx
        exact ⟨mkBlock p h n, (hG _ _ rfl).2 (.inr ⟨rfl, rfl⟩), rfl, by show h = hd; omega⟩
      · obtain ⟨b, h1, h2, h3⟩ := (I.hn hd v).1 hx
        rcases (atG_fill xs ys p v b).1 h1 with h4 | ⟨_, rfl⟩
        · exact ⟨b, (hG _ _ h2).2 (.inl h4), h2, h3⟩
        · rw [hf] at h2; cases h2
    · rintro ⟨b, h1, h2, h3⟩
      rcases (hG _ _ h2).1 h1 with h4 | ⟨rfl, rfl⟩
      · have hx := (I.hn hd v).2 ⟨b, (atG_fill xs ys p v b).2 (.inl h4), h2, h3⟩
        rw [if_neg (fun e => by rw [e, hnew] at hx; cases hx)]
        exact hx
      · have e : h = hd := h3
        rw [if_pos (by rw [e])]
  have hcap3 : S3.mem.length / 16 ≤ S3.pl.length := by
    have e1 : S3.mem.length = T.mem.length := by
      rw [g3.len, total_app, hrl]; simp only [total, hbt]; omega
    rw [e1, t1]
    have : S3.pl.length = S.pl.length := by rw [hS3]; show (takeFree T (total xs)).pl.length = _; rw [htk]; exact tp
    rw [this]; exact I.cap
  have hused3 : S3.used = sumT (blocks (xs ++ [mkBlock p h n])) + sumT (blocks ys) := by
    rw [hS3]
    show S.used + cost n = _
    rw [I.used, blocks_app, blocks_free ys hf, blocks_app, blocks_block [] (p := mkBlock p h n) rfl, sumT_app, sumT_app, sumT_cons, hbt]
    simp [blocks, sumT]; omega
  by_cases hlt : cost n < p.takes
  · have h16 : 16 ≤ (p.data.drop (cost n - 8)).length ∧ (p.data.drop (cost n - 8)).length % 16 = 0 := by rw [hrl]; have := hpo.m16; omega
    obtain ⟨k, hk, hinv, hbl⟩ := g3.inv h16.1 h16.2 (by rw [hS3]; exact hnd2) hTab3 hcap3 (fun hd v => by
      refine hblk hd v (fun v b => AtG (xs ++ [mkBlock p h n]) (p.data.drop (cost n - 8)).length ys v b) (fun v b _ => ?_)
      rw [hrl]
      have := atG_snoc xs ys (p.takes - cost n) (mkBlock p h n) v b
      rw [hbt, show cost n + (p.takes - cost n) = p.takes by omega] at this
      exact this) hused3
    refine ⟨_, ?_, by rw [hbl, blocks_app, blocks_block [] (p := mkBlock p h n) rfl]; simp [blocks]⟩
    have e : ({ settle T (total xs) h n with used := S.used + cost n } : St) = putFree S3 (total (xs ++ [mkBlock p h n])) (p.data.drop (cost n - 8)).length (lastT 0 (xs ++ [mkBlock p h n])) := by
      unfold settle
      simp only
      rw [hhd]
      have hs' : (p.hd (lastT 0 xs)).size = p.takes := hsz
      have ha' : (p.hd (lastT 0 xs)).ahead = lastT 0 xs := rfl
      rw [hs', ha', if_pos hlt, hS3, hrl, total_app, lastT_snoc, hbt]
      simp only [total, hbt, Nat.add_zero]
      rfl
    rw [e]; exact hinv
  · have e0 : p.takes = cost n := by omega
    have hr0 : p.data.drop (cost n - 8) = [] := List.length_eq_zero_iff.1 (by rw [hrl]; omega)
    have hb : blocks (xs ++ mkBlock p h n :: ys) = blocks xs ++ mkBlock p h n :: blocks ys := by rw [blocks_app, blocks_block ys (p := mkBlock p h n) rfl]
    refine ⟨xs ++ mkBlock p h n :: ys, ?_, hb⟩
    have e : ({ settle T (total xs) h n with used := S.used + cost n } : St) = S3 := by
      unfold settle
      simp only
      rw [hhd]
      have hs' : (p.hd (lastT 0 xs)).size = p.takes := hsz
      have ha' : (p.hd (lastT 0 xs)).ahead = lastT 0 xs := rfl
      rw [hs', ha', if_neg hlt, hS3]
    rw [e]
    refine ⟨⟨rest, ?_, g.rest⟩, g3.lim, ?_, ⟨_, _, g3.ch, ?_⟩, by rw [hS3]; exact hnd2, hTab3, hcap3, fun hd v => ?_, ?_⟩
    · rw [hmem3, hr0, e0, ← hbt]
      simp only [lay_app, lay, List.append_assoc, List.append_nil]
    · intro q hq
      rcases List.mem_append.1 hq with h1 | h1
      · exact g.oxs q h1
      · rcases List.mem_cons.1 h1 with rfl | h1
        · exact hbo
        · exact gr.oys q h1
    · have := g3.fr
      rw [hr0] at this
      have := frees_nil this
      simpa using this
    · refine hblk hd v (fun v b => At (xs ++ mkBlock p h n :: ys) v b) (fun v b _ => ?_)
      have := atG_fill xs ys (mkBlock p h n) v b
      rw [hbt, ← e0] at this
      exact this
    · rw [hb, sumT_app, sumT_cons]
      rw [hused3, blocks_app, blocks_block [] (p := mkBlock p h n) rfl, sumT_app, sumT_cons]
      simp [blocks, sumT]; omega
end Ar
end Go.Proofs.YtagjjpmhacknpaaDoor

/- slide, on pieces. -/
set_option maxRecDepth 100000
namespace Go.Proofs.YtagjjpmhacknpaaDoor
namespace Ar
theorem blocks_ok {xs : List Pc} (h : ∀ p ∈ xs, p.Ok) : ∀ p ∈ blocks xs, p.Ok := fun p hp => h p (List.mem_filter.1 hp).1
theorem total_blocks : ∀ xs : List Pc, total (blocks xs) = sumT (blocks xs) := fun xs => by
  generalize blocks xs = l
  induction l with
  | nil => rfl
  | cons p r ih => simp only [total, sumT_cons, ih]
/-- Half-way: the blocks that were moved, what lies between, and what is still to come. -/
structure Mid (S : St) (done : List Pc) (junk : List UInt8) (a' : Nat) (todo : List Pc) (rest : List UInt8) : Prop where
  mem : S.mem = lay 0 done ++ junk ++ lay a' todo ++ rest
  rest : rest.length < 16
  lim : S.mem.length ≤ 1048576
  od : ∀ p ∈ done, p.Ok
  ot : ∀ p ∈ todo, p.Ok
  a' : a' ≤ 1048576
  m16 : junk.length % 16 = 0
theorem Mid.len {S : St} {done todo : List Pc} {junk rest : List UInt8} {a' : Nat} (h : Mid S done junk a' todo rest) : S.mem.length = total done + junk.length + total todo + rest.length ∧ fin S = total done + junk.length + total todo := by
  have h1 : S.mem.length = total done + junk.length + total todo + rest.length := by rw [h.mem]; simp [lay_len]; omega
  refine ⟨h1, ?_⟩
  have := total_mod h.od
  have := total_mod h.ot
  have := h.rest
  have := h.m16
  unfold fin; omega
theorem slide_go : ∀ (todo done : List Pc) (S : St) (junk rest : List UInt8) (a' : Nat), Mid S done junk a' todo rest → (∀ p ∈ todo, p.free = false → 1 ≤ p.owner ∧ p.owner ≤ S.pl.length) → ((blocks todo).map Pc.owner).Nodup →
    ∃ R junk', SlideOk S (total done + junk.length) (total done) (lastT 0 done) R (total (done ++ blocks todo)) (lastT 0 (done ++ blocks todo)) ∧ Mid R (done ++ blocks todo) junk' 0 [] rest ∧ junk'.length = junk.length + total todo - total (blocks todo) ∧
      (∀ i, (∀ p ∈ todo, p.free = false → p.owner ≠ i + 1) → R.pl.getD i 0 = S.pl.getD i 0) ∧
      (∀ v p, At (blocks todo) v p → R.pl.getD (p.owner - 1) 0 = total done + v)
  | [], done, S, junk, rest, a', h, _, _ => by
    have hl := h.len
    simp only [total, Nat.add_zero] at hl
    refine ⟨S, junk, ?_, ?_, by simp [blocks, total], fun _ _ => rfl, fun v p hp => hp.elim⟩
    · simp only [blocks, List.filter_nil, List.append_nil]
      exact SlideOk.done S _ _ _ hl.2.symm
    · simp only [blocks, List.filter_nil, List.append_nil]
      exact ⟨by rw [h.mem]; simp [lay], h.rest, h.lim, h.od, fun p hp => (by cases hp), Nat.zero_le _, h.m16⟩
  | p :: todo, done, S, junk, rest, a', h, ho, hnd => by
    have hl := h.len
    have hlim := h.lim
    simp only [total] at hl
    have hp := h.ot p (List.mem_cons_self ..)
    have hpg := hp.ge
    have hfit := hd_fits (p := p) (a := a') (m := 0) hp (by omega) h.a' rfl
    have hhead : headAt S.mem (total done + junk.length) = p.hd a' := by
      have h3 := headAt_app (lay 0 done ++ junk) p.data (lay p.takes todo ++ rest) (p.hd a') hfit
      rw [List.length_append, lay_len] at h3
      rw [h.mem]
      have e : lay 0 done ++ junk ++ lay a' (p :: todo) ++ rest = (lay 0 done ++ junk) ++ (byte8 (p.hd a').word ++ p.data) ++ (lay p.takes todo ++ rest) := by simp only [lay, Pc.bytes, List.append_assoc]
      rw [e]; exact h3
    cases hf : p.free with
    | true =>
      have hm : Mid S done (junk ++ p.bytes a') p.takes todo rest := ⟨by rw [h.mem]; simp only [lay, List.append_assoc], h.rest, h.lim, h.od, fun q hq => h.ot q (List.mem_cons_of_mem _ hq), by omega, by rw [List.length_append, bytes_len]; have := h.m16; have := hp.m16; omega⟩
      have hb : blocks (p :: todo) = blocks todo := blocks_free todo hf
      obtain ⟨R, junk', k1, k2, k3, k4, k5⟩ := slide_go todo done S (junk ++ p.bytes a') rest p.takes hm (fun q hq => ho q (List.mem_cons_of_mem _ hq)) (by rw [hb] at hnd; exact hnd)
      rw [List.length_append, bytes_len] at k1 k3
      rw [hb]
      refine ⟨R, junk', ?_, k2, by rw [k3]; simp only [total]; omega, fun i hi => k4 i (fun q hq => hi q (List.mem_cons_of_mem _ hq)), k5⟩
      have hsz := hp.fr hf
      refine SlideOk.free S _ _ _ (p.hd a') R _ _ hhead hf (by show 16 ≤ p.size; omega) (by show _ + p.size ≤ _; omega) ?_
      show SlideOk S (total done + junk.length + p.size) _ _ _ _ _
      rw [hsz, Nat.add_assoc]; exact k1
    | false =>
      obtain ⟨hsz, hcs⟩ := hp.bl hf
      obtain ⟨ow1, ow2⟩ := ho p (List.mem_cons_self ..) hf
      have hci : costI ((p.hd a').size : Int) = p.takes := by rw [show (p.hd a').size = p.size from rfl, costI_nat hsz, hcs]
      have hb : blocks (p :: todo) = p :: blocks todo := blocks_block todo hf
      rw [hb] at hnd
      simp only [List.map_cons, List.nodup_cons] at hnd
      -- the state behind the move
      have hS1m : (slid S (total done + junk.length) (total done) (lastT 0 done) (p.hd a')).mem = lay 0 (done ++ [p]) ++ (junk ++ p.bytes a').drop p.takes ++ lay p.takes todo ++ rest := by
        unfold slid
        simp only [hci]
        have e1 : (S.mem.drop (total done + junk.length)).take p.takes = p.bytes a' := by
          have e : S.mem = (lay 0 done ++ junk) ++ (p.bytes a' ++ (lay p.takes todo ++ rest)) := by rw [h.mem]; simp only [lay, List.append_assoc]
          rw [e, List.drop_left' (by rw [List.length_append, lay_len]), List.take_left' (bytes_len p a')]
        rw [e1]
        have e2 : S.mem = lay 0 done ++ ((junk ++ p.bytes a').take p.takes ++ ((junk ++ p.bytes a').drop p.takes ++ (lay p.takes todo ++ rest))) := by
          rw [h.mem, ← List.append_assoc ((junk ++ p.bytes a').take p.takes), List.take_append_drop]
          simp only [lay, List.append_assoc]
        have e3 : put S.mem (total done) (p.bytes a') = lay 0 done ++ (p.bytes a' ++ ((junk ++ p.bytes a').drop p.takes ++ (lay p.takes todo ++ rest))) := by
          rw [e2]
          exact put_mid _ _ _ _ _ (lay_len 0 done).symm (by rw [List.length_take, List.length_append, bytes_len]; omega)
        rw [e3]
        have e4 : lay 0 done ++ (p.bytes a' ++ ((junk ++ p.bytes a').drop p.takes ++ (lay p.takes todo ++ rest))) = lay 0 done ++ (byte8 (p.hd a').word ++ (p.data ++ ((junk ++ p.bytes a').drop p.takes ++ (lay p.takes todo ++ rest)))) := by
          simp only [Pc.bytes, List.append_assoc]
        rw [e4]
        show put _ (total done) (byte8 _) = _
        rw [put_mid _ _ _ _ _ (lay_len 0 done).symm (by rw [show (byte8 (p.hd a').word).length = 8 from lastB_len 8 _]; exact (lastB_len 8 _).symm), lay_app]
        have e5 : (⟨false, (p.hd a').marked, (p.hd a').owner, (p.hd a').size, lastT 0 done⟩ : Head) = p.hd (lastT 0 done) := by unfold Pc.hd; rw [hf]
        rw [e5]
        simp only [lay, Pc.bytes, List.append_assoc, List.append_nil]
      have hjl : ((junk ++ p.bytes a').drop p.takes).length = junk.length := by simp [bytes_len]
      have hm1 : Mid (slid S (total done + junk.length) (total done) (lastT 0 done) (p.hd a')) (done ++ [p]) ((junk ++ p.bytes a').drop p.takes) p.takes todo rest := by
        refine ⟨hS1m, h.rest, ?_, ?_, fun q hq => h.ot q (List.mem_cons_of_mem _ hq), by omega, by rw [hjl]; exact h.m16⟩
        · rw [hS1m]; simp only [List.length_append, lay_len, hjl, total_app, total]; omega
        · intro q hq
          rcases List.mem_append.1 hq with h1 | h1
          · exact h.od q h1
          · rw [List.mem_singleton] at h1; rw [h1]; exact hp
      have hpl1 : (slid S (total done + junk.length) (total done) (lastT 0 done) (p.hd a')).pl = S.pl.set (p.owner - 1) (total done) := rfl
      obtain ⟨R, junk', k1, k2, k3, k4, k5⟩ := slide_go todo (done ++ [p]) _ _ rest p.takes hm1 (fun q hq hqf => by rw [hpl1, List.length_set]; exact ho q (List.mem_cons_of_mem _ hq) hqf) hnd.2
      rw [hjl] at k1 k3
      rw [hb]
      have ed : done ++ [p] ++ blocks todo = done ++ p :: blocks todo := by simp
      rw [ed] at k1 k2
      refine ⟨R, junk', ?_, k2, by rw [k3]; simp only [total]; omega, fun i hi => ?_, fun v b hvb => ?_⟩
      · refine SlideOk.block S _ _ _ (p.hd a') R _ _ hhead hf hsz ow1 ow2 (by omega) (lastT_le (by omega) (by omega)) (by rw [hci]; omega) ?_
        rw [hci]
        rw [lastT_snoc, total_app] at k1
        simp only [total, Nat.add_zero] at k1
        rw [show total done + junk.length + p.takes = total done + p.takes + junk.length by omega]
        exact k1
      · rw [k4 i (fun q hq hqf => hi q (List.mem_cons_of_mem _ hq) hqf), hpl1, getD_set _ _ _ _ _ (by omega), if_neg (by have := hi p (List.mem_cons_self ..) hf; omega)]
      · rcases hvb with ⟨rfl, rfl⟩ | ⟨v', rfl, hvb⟩
        · rw [k4 (b.owner - 1) (fun q hq hqf e => hnd.1 (List.mem_map.2 ⟨q, List.mem_filter.2 ⟨hq, by simp [hqf]⟩, by omega⟩)), hpl1, getD_set _ _ _ _ _ (by omega), if_pos rfl]; rfl
        · rw [k5 v' b hvb, total_app]; simp only [total]; omega
end Ar
end Go.Proofs.YtagjjpmhacknpaaDoor
