/- settle, on pieces. -/
import Derived.Test.YtkndbldjablhoaaDoorFreem
import Derived.Test.YtkndbldjablhoaaDoorAset
set_option maxRecDepth 100000
namespace Go.Proofs.YtkndbldjablhoaaDoor
namespace Ar
/-- The new block. -/
def mkBlock (p : Pc) (h n : Nat) : Pc := ⟨false, h, n, zeros n ++ (p.data.drop n).take (cost n - 8 - n)⟩
theorem mkBlock_takes {p : Pc} {h n : Nat} (hn : n ≤ 4096) (hp : cost n ≤ p.takes) : (mkBlock p h n).takes = cost n := by
  have := cost_ge n hn
  unfold Pc.takes at hp
  unfold mkBlock Pc.takes zeros
  simp
  omega
theorem mkBlock_ok {p : Pc} {h n : Nat} (hn : n ≤ 4096) (hp : cost n ≤ p.takes) (hh : h < 2097152) : (mkBlock p h n).Ok := by
  have e := mkBlock_takes (h := h) hn hp
  have c := cost_ge n hn
  exact ⟨by rw [e]; exact c.2.2.2, by rw [e]; exact c.2.1, hh, (fun h => by cases h), fun _ => ⟨hn, e.symm⟩⟩
theorem put_mid (X B Y l : List UInt8) (k : Nat) (hk : k = X.length) (h : B.length = l.length) : put (X ++ (B ++ Y)) k l = X ++ (l ++ Y) := by
  subst hk
  have := put_app X B Y l h
  simpa [List.append_assoc] using this
/-- What is written: the head, and zeros. -/
theorem settle_mem {S : St} {xs ys : List Pc} {p : Pc} {a0 : Nat} {rest : List UInt8} {E : Nat → Option (Nat × Nat)} {sp : List Nat} {h n : Nat} (g : Gap S xs [] a0 (p :: ys) rest E sp) (hn : n ≤ 4096) (hp : cost n ≤ p.takes) :
    put (putHd S.mem (total xs) ⟨false, h, n, a0⟩) (total xs + 8) (zeros n) = lay 0 xs ++ (mkBlock p h n).bytes a0 ++ p.data.drop (cost n - 8) ++ lay p.takes ys ++ rest := by
  have c := cost_ge n hn
  unfold Pc.takes at hp
  have e1 : S.mem = lay 0 xs ++ (byte8 (p.hd a0).word ++ (p.data ++ (lay p.takes ys ++ rest))) := by
    rw [g.mem]; simp only [lay, Pc.bytes, List.append_assoc, List.nil_append]
  have e2 : putHd S.mem (total xs) ⟨false, h, n, a0⟩ = lay 0 xs ++ (byte8 (Head.word ⟨false, h, n, a0⟩) ++ (p.data ++ (lay p.takes ys ++ rest))) := by
    rw [e1]
    exact put_mid _ _ _ _ _ (lay_len 0 xs).symm (by unfold byte8; rw [lastB_len, lastB_len])
  rw [e2]
  have e3 : lay 0 xs ++ (byte8 (Head.word ⟨false, h, n, a0⟩) ++ (p.data ++ (lay p.takes ys ++ rest))) = (lay 0 xs ++ byte8 (Head.word ⟨false, h, n, a0⟩)) ++ (p.data.take n ++ ((p.data.drop n) ++ (lay p.takes ys ++ rest))) := by
    rw [← List.append_assoc (p.data.take n), List.take_append_drop]
    simp only [List.append_assoc]
  rw [e3, put_mid _ _ _ _ _ (by rw [List.length_append, lay_len, show (byte8 (Head.word ⟨false, h, n, a0⟩)).length = 8 from lastB_len 8 _]) (by simp [zeros]; omega)]
  unfold mkBlock Pc.bytes Pc.hd
  simp only [List.append_assoc]
  have e4 : p.data.drop n = (p.data.drop n).take (cost n - 8 - n) ++ p.data.drop (cost n - 8) := by
    have : p.data.drop (cost n - 8) = (p.data.drop n).drop (cost n - 8 - n) := by rw [List.drop_drop]; congr 1; omega
    rw [this, List.take_append_drop]
  conv => lhs; rw [e4]
  simp only [List.append_assoc]
theorem Tab.congr' {S S' : St} (h : Tab S) (h1 : S'.pl = S.pl) (h2 : S'.us = S.us) (h3 : S'.low = S.low) : Tab S' := h.congr h1 h2 h3
/-- What settle asks, and what it leaves; the table and what is used are told apart. -/
theorem settle_math {S T : St} {xs ys : List Pc} {p : Pc} {h n : Nat} (I : Inv S (xs ++ p :: ys)) (hf : p.free = true) (hn : n ≤ 4096) (hp : cost n ≤ p.takes) (hh : h < 2097152)
    (t1 : T.mem = S.mem) (t2 : T.nd = S.nd) (t3 : T.spare = S.spare) (hT : Tab T) (tp : T.pl.length = S.pl.length) (hT2 : ∀ z : Int, PlaceOf T z = if z = (h : Int) then some (total xs) else PlaceOf S z) (hnew : PlaceOf S (h : Int) = none) (hT3 : T.used = S.used) :
    (total xs ≠ fin T ∧ headAt T.mem (total xs) = p.hd (lastT 0 xs) ∧ total xs + p.takes ≤ T.mem.length ∧ p.size = p.takes ∧ (total xs + p.takes) % 16 = 0 ∧ (p.owner < T.nd.length ∧ (nodeAt T.nd p.owner).n < T.nd.length ∧ (nodeAt T.nd p.owner).l < T.nd.length) ∧ (∀ c, c < 17 → c < (takeFree T (total xs)).nd.length ∧ (nodeAt (takeFree T (total xs)).nd c).n < (takeFree T (total xs)).nd.length) ∧ (takeFree T (total xs)).spare < (takeFree T (total xs)).nd.length ∧ (takeFree T (total xs)).nd.length ≤ 70000) ∧
    ∃ pcs', Inv { settle T (total xs) h n with used := S.used + cost n } pcs' ∧ blocks pcs' = blocks xs ++ mkBlock p h n :: blocks ys := by
  obtain ⟨rest, E, sp, g0⟩ := I.at_
  have g : Gap T xs [] (lastT 0 xs) (p :: ys) rest E sp := g0.congr t1 t2 t3
  have hpo := g.oys p (List.mem_cons_self ..)
  have hpg := hpo.ge
  have hlen := g.len
  have hlim := g.lim
  have hfin := g.fin (by rfl)
  simp only [total, List.length_nil, Nat.add_zero] at hlen hfin
  have hhd := g.headR
  simp only [List.length_nil, Nat.add_zero] at hhd
  obtain ⟨gr, n1, n2, n3⟩ := g.right hf
  simp only [List.nil_append] at gr
  have hne : total xs ≠ fin T := by omega
  have htk : takeFree T (total xs) = { T with nd := dropN T.nd p.owner T.spare, spare := p.owner } := by
    unfold takeFree; rw [if_neg hne, hhd, if_pos (show (p.hd (lastT 0 xs)).free = true from hf)]; rfl
  have hsz := hpo.fr hf
  have tx := total_mod g.oxs
  have hnd : T.nd.length ≤ 70000 := by rw [t2]; exact I.nd
  have hnd2 : (takeFree T (total xs)).nd.length ≤ 70000 := by rw [htk]; show (dropN _ _ _).length ≤ _; rw [dropN_len]; exact hnd
  refine ⟨⟨hne, hhd, by omega, hsz, by have := hpo.m16; omega, ⟨n1, n2, n3⟩, fun c hc => by rw [htk]; exact gr.ch.class hc, by rw [htk]; exact gr.ch.spare_lt, hnd2⟩, ?_⟩
  have hm := settle_mem (h := h) g hn hp
  have hbt := mkBlock_takes (h := h) hn hp
  have hbo := mkBlock_ok hn hp hh
  have hrl : (p.data.drop (cost n - 8)).length = p.takes - cost n := by have := cost_ge n hn; unfold Pc.takes; simp; omega
  -- the state behind the zeros
  obtain ⟨S3, hS3⟩ : ∃ S3 : St, S3 = { takeFree T (total xs) with mem := put (putHd T.mem (total xs) ⟨false, h, n, lastT 0 xs⟩) (total xs + 8) (zeros n), used := S.used + cost n } := ⟨_, rfl⟩
  have hmem3 : S3.mem = lay 0 (xs ++ [mkBlock p h n]) ++ p.data.drop (cost n - 8) ++ lay p.takes ys ++ rest := by
    rw [hS3]
    show put _ _ _ = _
    rw [hm, lay_app]
    simp only [lay, List.append_assoc, List.append_nil]
  have g3 : Gap S3 (xs ++ [mkBlock p h n]) (p.data.drop (cost n - 8)) p.takes ys rest (off E p.owner) (p.owner :: sp) := by
    refine ⟨hmem3, g.rest, ?_, ?_, gr.oys, by omega, ?_, ?_, ?_⟩
    · rw [hmem3]
      simp only [List.length_append, lay_len, total_app, total, hbt, hrl]
      have := cost_ge n hn
      omega
    · intro q hq
      rcases List.mem_append.1 hq with h1 | h1
      · exact g.oxs q h1
      · rw [List.mem_singleton] at h1; rw [h1]; exact hbo
    · have := gr.ch
      rw [hS3]
      show Ch (takeFree T (total xs)).nd (takeFree T (total xs)).spare _ _
      rw [htk]; exact this
    · have hF := gr.fr
      rw [bytes_len] at hF
      intro i c v
      rw [hF i c v, hrl]
      constructor
      · rintro ⟨b, h1, h2⟩
        refine ⟨b, (atG_snoc xs ys _ (mkBlock p h n) v b).2 (.inl ?_), h2⟩
        rw [hbt, show cost n + (p.takes - cost n) = p.takes by omega]; exact h1
      · rintro ⟨b, h1, h2, h3⟩
        rcases (atG_snoc xs ys _ (mkBlock p h n) v b).1 h1 with h4 | ⟨_, rfl⟩
        · rw [hbt, show cost n + (p.takes - cost n) = p.takes by omega] at h4
          exact ⟨b, h4, h2, h3⟩
        · cases h2
    · rw [hS3]; show (takeFree T (total xs)).nd.length < _; omega
  have hcn := cost_ge n hn
  have hS3pl : ∀ z, PlaceOf S3 z = PlaceOf T z := fun z => placeOf_congr (by rw [hS3]; show (takeFree T (total xs)).pl = _; rw [htk]) (by rw [hS3]; show (takeFree T (total xs)).us = _; rw [htk]) z
  have hTab3 : Tab S3 := hT.congr (by rw [hS3]; show (takeFree T (total xs)).pl = _; rw [htk]) (by rw [hS3]; show (takeFree T (total xs)).us = _; rw [htk]) (by rw [hS3]; show (takeFree T (total xs)).low = _; rw [htk])
  have hblk : ∀ (hd v : Nat) (G : Nat → Pc → Prop), (∀ v b, b.free = false → (G v b ↔ AtG xs p.takes ys v b ∨ (v = total xs ∧ b = mkBlock p h n))) → (PlaceOf S3 (hd : Int) = some v ↔ ∃ b, G v b ∧ b.free = false ∧ b.owner = hd) := fun hd v G hG => by
    rw [hS3pl, hT2]
    constructor
    · intro hx
      split at hx
      · rename_i e
        cases hx
        exact ⟨mkBlock p h n, (hG _ _ rfl).2 (.inr ⟨rfl, rfl⟩), rfl, by show h = hd; omega⟩
      · obtain ⟨b, h1, h2, h3⟩ := (I.hn hd v).1 hx
        rcases (atG_fill xs ys p v b).1 h1 with h4 | ⟨_, rfl⟩
        · exact ⟨b, (hG _ _ h2).2 (.inl h4), h2, h3⟩
        · rw [hf] at h2; cases h2
    · rintro ⟨b, h1, h2, h3⟩
      rcases (hG _ _ h2).1 h1 with h4 | ⟨rfl, rfl⟩
      · have hx := (I.hn hd v).2 ⟨b, (atG_fill xs ys p v b).2 (.inl h4), h2, h3⟩
        rw [if_neg (fun e => by rw [e, hnew] at hx; cases hx)]
        exact hx
      · have e : h = hd := h3
        rw [if_pos (by rw [e])]
  have hcap3 : S3.mem.length / 16 ≤ S3.pl.length := by
    have e1 : S3.mem.length = T.mem.length := by
      rw [g3.len, total_app, hrl]; simp only [total, hbt]; omega
    rw [e1, t1]
    have : S3.pl.length = S.pl.length := by rw [hS3]; show (takeFree T (total xs)).pl.length = _; rw [htk]; exact tp
    rw [this]; exact I.cap
  have hused3 : S3.used = sumT (blocks (xs ++ [mkBlock p h n])) + sumT (blocks ys) := by
    rw [hS3]
    show S.used + cost n = _
    rw [I.used, blocks_app, blocks_free ys hf, blocks_app, blocks_block [] (p := mkBlock p h n) rfl, sumT_app, sumT_app, sumT_cons, hbt]
    simp [blocks, sumT]; omega
  by_cases hlt : cost n < p.takes
  · have h16 : 16 ≤ (p.data.drop (cost n - 8)).length ∧ (p.data.drop (cost n - 8)).length % 16 = 0 := by rw [hrl]; have := hpo.m16; omega
    obtain ⟨k, hk, hinv, hbl⟩ := g3.inv h16.1 h16.2 (by rw [hS3]; exact hnd2) hTab3 hcap3 (fun hd v => by
      refine hblk hd v (fun v b => AtG (xs ++ [mkBlock p h n]) (p.data.drop (cost n - 8)).length ys v b) (fun v b _ => ?_)
      rw [hrl]
      have := atG_snoc xs ys (p.takes - cost n) (mkBlock p h n) v b
      rw [hbt, show cost n + (p.takes - cost n) = p.takes by omega] at this
      exact this) hused3
    refine ⟨_, ?_, by rw [hbl, blocks_app, blocks_block [] (p := mkBlock p h n) rfl]; simp [blocks]⟩
    have e : ({ settle T (total xs) h n with used := S.used + cost n } : St) = putFree S3 (total (xs ++ [mkBlock p h n])) (p.data.drop (cost n - 8)).length (lastT 0 (xs ++ [mkBlock p h n])) := by
      unfold settle
      simp only
      rw [hhd]
      have hs' : (p.hd (lastT 0 xs)).size = p.takes := hsz
      have ha' : (p.hd (lastT 0 xs)).ahead = lastT 0 xs := rfl
      rw [hs', ha', if_pos hlt, hS3, hrl, total_app, lastT_snoc, hbt]
      simp only [total, hbt, Nat.add_zero]
      rfl
    rw [e]; exact hinv
  · have e0 : p.takes = cost n := by omega
    have hr0 : p.data.drop (cost n - 8) = [] := List.length_eq_zero_iff.1 (by rw [hrl]; omega)
    have hb : blocks (xs ++ mkBlock p h n :: ys) = blocks xs ++ mkBlock p h n :: blocks ys := by rw [blocks_app, blocks_block ys (p := mkBlock p h n) rfl]
    refine ⟨xs ++ mkBlock p h n :: ys, ?_, hb⟩
    have e : ({ settle T (total xs) h n with used := S.used + cost n } : St) = S3 := by
      unfold settle
      simp only
      rw [hhd]
      have hs' : (p.hd (lastT 0 xs)).size = p.takes := hsz
      have ha' : (p.hd (lastT 0 xs)).ahead = lastT 0 xs := rfl
      rw [hs', ha', if_neg hlt, hS3]
    rw [e]
    refine ⟨⟨rest, ?_, g.rest⟩, g3.lim, ?_, ⟨_, _, g3.ch, ?_⟩, by rw [hS3]; exact hnd2, hTab3, hcap3, fun hd v => ?_, ?_⟩
    · rw [hmem3, hr0, e0, ← hbt]
      simp only [lay_app, lay, List.append_assoc, List.append_nil, List.nil_append]
    · intro q hq
      rcases List.mem_append.1 hq with h1 | h1
      · exact g.oxs q h1
      · rcases List.mem_cons.1 h1 with rfl | h1
        · exact hbo
        · exact gr.oys q h1
    · have := g3.fr
      rw [hr0] at this
      have := frees_nil this
      simpa using this
    · refine hblk hd v (fun v b => At (xs ++ mkBlock p h n :: ys) v b) (fun v b _ => ?_)
      have := atG_fill xs ys (mkBlock p h n) v b
      rw [hbt, ← e0] at this
      exact this
    · rw [hb, sumT_app, sumT_cons]
      rw [hused3, blocks_app, blocks_block [] (p := mkBlock p h n) rfl, sumT_app, sumT_cons]
      simp [blocks, sumT]; omega
end Ar
end Go.Proofs.YtkndbldjablhoaaDoor
