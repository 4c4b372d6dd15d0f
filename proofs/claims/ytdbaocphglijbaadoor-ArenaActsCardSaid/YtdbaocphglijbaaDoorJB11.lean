/- 3 texts put together: Setm, Slidem, Slidei. -/
import Derived.Test.YtdbaocphglijbaaDoorJB6
import Derived.Test.YtdbaocphglijbaaDoorJB8
import Derived.Test.YtdbaocphglijbaaDoorJB10
/- settle, on pieces. -/
set_option maxRecDepth 100000
namespace Go.Proofs.YtdbaocphglijbaaDoor
namespace Ar
/-- The new block. -/
def mkBlock (p : Pc) (h n : Nat) : Pc := ⟨false, false, h, n, zeros n ++ (p.data.drop n).take (cost n - 8 - n)⟩
theorem mkBlock_takes {p : Pc} {h n : Nat} (hn : n ≤ 4096) (hp : cost n ≤ p.takes) : (mkBlock p h n).takes = cost n := by
  have := cost_ge n hn
  unfold Pc.takes at hp
  unfold mkBlock Pc.takes zeros
  simp
  omega
theorem mkBlock_ok {p : Pc} {h n : Nat} (hn : n ≤ 4096) (hp : cost n ≤ p.takes) (hh : h < 1048576) : (mkBlock p h n).Ok := by
  have e := mkBlock_takes (h := h) hn hp
  have c := cost_ge n hn
  exact ⟨by rw [e]; exact c.2.2.2, by rw [e]; exact c.2.1, hh, (fun h => by cases h), fun _ => ⟨hn, e.symm⟩⟩
theorem put_mid (X B Y l : List UInt8) (k : Nat) (hk : k = X.length) (h : B.length = l.length) : put (X ++ (B ++ Y)) k l = X ++ (l ++ Y) := by
  subst hk
  have := put_app X B Y l h
  simpa [List.append_assoc] using this
/-- What is written: the head, and zeros. -/
theorem settle_mem {S : St} {xs ys : List Pc} {p : Pc} {a0 : Nat} {rest : List UInt8} {E : Nat → Option (Nat × Nat)} {sp : List Nat} {h n : Nat} (g : Gap S xs [] a0 (p :: ys) rest E sp) (hn : n ≤ 4096) (hp : cost n ≤ p.takes) :
    put (putHd S.mem (total xs) ⟨false, false, h, n, a0⟩) (total xs + 8) (zeros n) = lay 0 xs ++ (mkBlock p h n).bytes a0 ++ p.data.drop (cost n - 8) ++ lay p.takes ys ++ rest := by
  have c := cost_ge n hn
  unfold Pc.takes at hp
  have e1 : S.mem = lay 0 xs ++ (byte8 (p.hd a0).word ++ (p.data ++ (lay p.takes ys ++ rest))) := by
    rw [g.mem]; simp only [lay, Pc.bytes, List.append_assoc, List.nil_append]
  have e2 : putHd S.mem (total xs) ⟨false, false, h, n, a0⟩ = lay 0 xs ++ (byte8 (Head.word ⟨false, false, h, n, a0⟩) ++ (p.data ++ (lay p.takes ys ++ rest))) := by
    rw [e1]
    exact put_mid _ _ _ _ _ (lay_len 0 xs).symm (by unfold byte8; rw [lastB_len, lastB_len])
  rw [e2]
  have e3 : lay 0 xs ++ (byte8 (Head.word ⟨false, false, h, n, a0⟩) ++ (p.data ++ (lay p.takes ys ++ rest))) = (lay 0 xs ++ byte8 (Head.word ⟨false, false, h, n, a0⟩)) ++ (p.data.take n ++ ((p.data.drop n) ++ (lay p.takes ys ++ rest))) := by
    rw [← List.append_assoc (p.data.take n), List.take_append_drop]
    simp only [List.append_assoc]
  rw [e3, put_mid _ _ _ _ _ (by rw [List.length_append, lay_len, show (byte8 (Head.word ⟨false, false, h, n, a0⟩)).length = 8 from lastB_len 8 _]) (by simp [zeros]; omega)]
  unfold mkBlock Pc.bytes Pc.hd
  simp only [List.append_assoc]
  have e4 : p.data.drop n = (p.data.drop n).take (cost n - 8 - n) ++ p.data.drop (cost n - 8) := by
    have : p.data.drop (cost n - 8) = (p.data.drop n).drop (cost n - 8 - n) := by rw [List.drop_drop]; congr 1; omega
    rw [this, List.take_append_drop]
  conv => lhs; rw [e4]
  simp only [List.append_assoc]
theorem Tab.congr' {S S' : St} (h : Tab S) (h1 : S'.pl = S.pl) (h2 : S'.us = S.us) (h3 : S'.low = S.low) : Tab S' := h.congr h1 h2 h3
/-- What settle asks, and what it leaves; the table and what is used are told apart. -/
theorem settle_math {S T : St} {xs ys : List Pc} {p : Pc} {h n : Nat} (I : Inv S (xs ++ p :: ys)) (hf : p.free = true) (hn : n ≤ 4096) (hp : cost n ≤ p.takes) (hh : h < 1048576)
    (t1 : T.mem = S.mem) (t2 : T.nd = S.nd) (t3 : T.spare = S.spare) (hT : Tab T) (tp : T.pl.length = S.pl.length) (hT2 : ∀ z : Int, PlaceOf T z = if z = (h : Int) then some (total xs) else PlaceOf S z) (hnew : PlaceOf S (h : Int) = none) (_hT3 : T.used = S.used) :
    (total xs ≠ fin T ∧ headAt T.mem (total xs) = p.hd (lastT 0 xs) ∧ total xs + p.takes ≤ T.mem.length ∧ p.size = p.takes ∧ (total xs + p.takes) % 16 = 0 ∧ (p.owner < T.nd.length ∧ (nodeAt T.nd p.owner).n < T.nd.length ∧ (nodeAt T.nd p.owner).l < T.nd.length) ∧ (∀ c, c < 17 → c < (takeFree T (total xs)).nd.length ∧ (nodeAt (takeFree T (total xs)).nd c).n < (takeFree T (total xs)).nd.length) ∧ (takeFree T (total xs)).spare < (takeFree T (total xs)).nd.length ∧ (takeFree T (total xs)).nd.length ≤ 70000) ∧
    ∃ pcs', Inv { settle T (total xs) h n with used := S.used + cost n } pcs' ∧ blocks pcs' = blocks xs ++ mkBlock p h n :: blocks ys := by
  obtain ⟨rest, E, sp, g0⟩ := I.at_
  have g : Gap T xs [] (lastT 0 xs) (p :: ys) rest E sp := g0.congr t1 t2 t3
  have hpo := g.oys p (List.mem_cons_self ..)
  have hpg := hpo.ge
  have hlen := g.len
  have hlim := g.lim
  have hfin := g.fin (by rfl)
  simp only [total, List.length_nil, Nat.add_zero] at hlen hfin
  have hhd := g.headR
  simp only [List.length_nil, Nat.add_zero] at hhd
  obtain ⟨gr, n1, n2, n3⟩ := g.right hf
  simp only [List.nil_append] at gr
  have hne : total xs ≠ fin T := by omega
  have htk : takeFree T (total xs) = { T with nd := dropN T.nd p.owner T.spare, spare := p.owner } := by
    unfold takeFree; rw [if_neg hne, hhd, if_pos (show (p.hd (lastT 0 xs)).free = true from hf)]; rfl
  have hsz := hpo.fr hf
  have tx := total_mod g.oxs
  have hnd : T.nd.length ≤ 70000 := by rw [t2]; exact I.nd
  have hnd2 : (takeFree T (total xs)).nd.length ≤ 70000 := by rw [htk]; show (dropN _ _ _).length ≤ _; rw [dropN_len]; exact hnd
  refine ⟨⟨hne, hhd, by omega, hsz, by have := hpo.m16; omega, ⟨n1, n2, n3⟩, fun c hc => by rw [htk]; exact gr.ch.class hc, by rw [htk]; exact gr.ch.spare_lt, hnd2⟩, ?_⟩
  have hm := settle_mem (h := h) g hn hp
  have hbt := mkBlock_takes (h := h) hn hp
  have hbo := mkBlock_ok hn hp hh
  have hrl : (p.data.drop (cost n - 8)).length = p.takes - cost n := by have := cost_ge n hn; unfold Pc.takes; simp; omega
  -- the state behind the zeros
  obtain ⟨S3, hS3⟩ : ∃ S3 : St, S3 = { takeFree T (total xs) with mem := put (putHd T.mem (total xs) ⟨false, false, h, n, lastT 0 xs⟩) (total xs + 8) (zeros n), used := S.used + cost n } := ⟨_, rfl⟩
  have hmem3 : S3.mem = lay 0 (xs ++ [mkBlock p h n]) ++ p.data.drop (cost n - 8) ++ lay p.takes ys ++ rest := by
    rw [hS3]
    show put _ _ _ = _
    rw [hm, lay_app]
    simp only [lay, List.append_assoc, List.append_nil]
  have g3 : Gap S3 (xs ++ [mkBlock p h n]) (p.data.drop (cost n - 8)) p.takes ys rest (off E p.owner) (p.owner :: sp) := by
    refine ⟨hmem3, g.rest, ?_, ?_, gr.oys, by omega, ?_, ?_, ?_⟩
    · rw [hmem3]
      simp only [List.length_append, lay_len, total_app, total, hbt, hrl]
      have := cost_ge n hn
      omega
    · intro q hq
      rcases List.mem_append.1 hq with h1 | h1
      · exact g.oxs q h1
      · rw [List.mem_singleton] at h1; rw [h1]; exact hbo
    · have := gr.ch
      rw [hS3]
      show Ch (takeFree T (total xs)).nd (takeFree T (total xs)).spare _ _
      rw [htk]; exact this
    · have hF := gr.fr
      rw [bytes_len] at hF
      intro i c v
      rw [hF i c v, hrl]
      constructor
      · rintro ⟨b, h1, h2⟩
        refine ⟨b, (atG_snoc xs ys _ (mkBlock p h n) v b).2 (.inl ?_), h2⟩
        rw [hbt, show cost n + (p.takes - cost n) = p.takes by omega]; exact h1
      · rintro ⟨b, h1, h2, h3⟩
        rcases (atG_snoc xs ys _ (mkBlock p h n) v b).1 h1 with h4 | ⟨_, rfl⟩
        · rw [hbt, show cost n + (p.takes - cost n) = p.takes by omega] at h4
          exact ⟨b, h4, h2, h3⟩
        · cases h2
    · rw [hS3]; show (takeFree T (total xs)).nd.length < _; omega
  have hcn := cost_ge n hn
  have hS3pl : ∀ z, PlaceOf S3 z = PlaceOf T z := fun z => placeOf_congr (by rw [hS3]; show (takeFree T (total xs)).pl = _; rw [htk]) (by rw [hS3]; show (takeFree T (total xs)).us = _; rw [htk]) z
  have hTab3 : Tab S3 := hT.congr (by rw [hS3]; show (takeFree T (total xs)).pl = _; rw [htk]) (by rw [hS3]; show (takeFree T (total xs)).us = _; rw [htk]) (by rw [hS3]; show (takeFree T (total xs)).low = _; rw [htk])
  have hblk : ∀ (hd v : Nat) (G : Nat → Pc → Prop), (∀ v b, b.free = false → (G v b ↔ AtG xs p.takes ys v b ∨ (v = total xs ∧ b = mkBlock p h n))) → (PlaceOf S3 (hd : Int) = some v ↔ ∃ b, G v b ∧ b.free = false ∧ b.owner = hd) := fun hd v G hG => by
    rw [hS3pl, hT2]
    constructor
    · intro hx
      split at hx
      · rename_i e
        cases hx
        exact ⟨mkBlock p h n, (hG _ _ rfl).2 (.inr ⟨rfl, rfl⟩), rfl, by show h = hd; omega⟩
      · obtain ⟨b, h1, h2, h3⟩ := (I.hn hd v).1 hx
        rcases (atG_fill xs ys p v b).1 h1 with h4 | ⟨_, rfl⟩
        · exact ⟨b, (hG _ _ h2).2 (.inl h4), h2, h3⟩
        · rw [hf] at h2; cases h2
    · rintro ⟨b, h1, h2, h3⟩
      rcases (hG _ _ h2).1 h1 with h4 | ⟨rfl, rfl⟩
      · have hx := (I.hn hd v).2 ⟨b, (atG_fill xs ys p v b).2 (.inl h4), h2, h3⟩
        rw [if_neg (fun e => by rw [e, hnew] at hx; cases hx)]
        exact hx
      · have e : h = hd := h3
        rw [if_pos (by rw [e])]
  have hcap3 : S3.mem.length / 16 ≤ S3.pl.length := by
    have e1 : S3.mem.length = T.mem.length := by
      rw [g3.len, total_app, hrl]; simp only [total, hbt]; omega
    rw [e1, t1]
    have : S3.pl.length = S.pl.length := by rw [hS3]; show (takeFree T (total xs)).pl.length = _; rw [htk]; exact tp
    rw [this]; exact I.cap
  have hused3 : S3.used = sumT (blocks (xs ++ [mkBlock p h n])) + sumT (blocks ys) := by
    rw [hS3]
    show S.used + cost n = _
    rw [I.used, blocks_app, blocks_free ys hf, blocks_app, blocks_block [] (p := mkBlock p h n) rfl, sumT_app, sumT_app, sumT_cons, hbt]
    simp [blocks, sumT]; omega
  by_cases hlt : cost n < p.takes
  · have h16 : 16 ≤ (p.data.drop (cost n - 8)).length ∧ (p.data.drop (cost n - 8)).length % 16 = 0 := by rw [hrl]; have := hpo.m16; omega
    obtain ⟨k, hk, hinv, hbl⟩ := g3.inv h16.1 h16.2 (by rw [hS3]; exact hnd2) hTab3 hcap3 (fun hd v => by
      refine hblk hd v (fun v b => AtG (xs ++ [mkBlock p h n]) (p.data.drop (cost n - 8)).length ys v b) (fun v b _ => ?_)
      rw [hrl]
      have := atG_snoc xs ys (p.takes - cost n) (mkBlock p h n) v b
      rw [hbt, show cost n + (p.takes - cost n) = p.takes by omega] at this
      exact this) hused3
    refine ⟨_, ?_, by rw [hbl, blocks_app, blocks_block [] (p := mkBlock p h n) rfl]; simp [blocks]⟩
    have e : ({ settle T (total xs) h n with used := S.used + cost n } : St) = putFree S3 (total (xs ++ [mkBlock p h n])) (p.data.drop (cost n - 8)).length (lastT 0 (xs ++ [mkBlock p h n])) := by
      unfold settle
      simp only
      rw [hhd]
      have hs' : (p.hd (lastT 0 xs)).size = p.takes := hsz
      have ha' : (p.hd (lastT 0 xs)).ahead = lastT 0 xs := rfl
      rw [hs', ha', if_pos hlt, hS3, hrl, total_app, lastT_snoc, hbt]
      simp only [total, hbt, Nat.add_zero]
      rfl
    rw [e]; exact hinv
  · have e0 : p.takes = cost n := by omega
    have hr0 : p.data.drop (cost n - 8) = [] := List.length_eq_zero_iff.1 (by rw [hrl]; omega)
    have hb : blocks (xs ++ mkBlock p h n :: ys) = blocks xs ++ mkBlock p h n :: blocks ys := by rw [blocks_app, blocks_block ys (p := mkBlock p h n) rfl]
    refine ⟨xs ++ mkBlock p h n :: ys, ?_, hb⟩
    have e : ({ settle T (total xs) h n with used := S.used + cost n } : St) = S3 := by
      unfold settle
      simp only
      rw [hhd]
      have hs' : (p.hd (lastT 0 xs)).size = p.takes := hsz
      have ha' : (p.hd (lastT 0 xs)).ahead = lastT 0 xs := rfl
      rw [hs', ha', if_neg hlt, hS3]
    rw [e]
    refine ⟨⟨rest, ?_, g.rest⟩, g3.lim, ?_, ⟨_, _, g3.ch, ?_⟩, by rw [hS3]; exact hnd2, hTab3, hcap3, fun hd v => ?_, ?_⟩
    · rw [hmem3, hr0, e0, ← hbt]
      simp only [lay_app, lay, List.append_assoc, List.append_nil]
    · intro q hq
      rcases List.mem_append.1 hq with h1 | h1
      · exact g.oxs q h1
      · rcases List.mem_cons.1 h1 with rfl | h1
        · exact hbo
        · exact gr.oys q h1
    · have := g3.fr
      rw [hr0] at this
      have := frees_nil this
      simpa using this
    · refine hblk hd v (fun v b => At (xs ++ mkBlock p h n :: ys) v b) (fun v b _ => ?_)
      have := atG_fill xs ys (mkBlock p h n) v b
      rw [hbt, ← e0] at this
      exact this
    · rw [hb, sumT_app, sumT_cons]
      rw [hused3, blocks_app, blocks_block [] (p := mkBlock p h n) rfl, sumT_app, sumT_cons]
      simp [blocks, sumT]; omega
end Ar
end Go.Proofs.YtdbaocphglijbaaDoor

/- slide, on pieces. -/
set_option maxRecDepth 100000
namespace Go.Proofs.YtdbaocphglijbaaDoor
namespace Ar
theorem blocks_ok {xs : List Pc} (h : ∀ p ∈ xs, p.Ok) : ∀ p ∈ blocks xs, p.Ok := fun p hp => h p (List.mem_filter.1 hp).1
theorem total_blocks : ∀ xs : List Pc, total (blocks xs) = sumT (blocks xs) := fun xs => by
  generalize blocks xs = l
  induction l with
  | nil => rfl
  | cons p r ih => simp only [total, sumT_cons, ih]
/-- Half-way: the blocks that were moved, what lies between, and what is still to come. -/
structure Mid (S : St) (done : List Pc) (junk : List UInt8) (a' : Nat) (todo : List Pc) (rest : List UInt8) : Prop where
  mem : S.mem = lay 0 done ++ junk ++ lay a' todo ++ rest
  rest : rest.length < 16
  lim : S.mem.length ≤ 1048576
  od : ∀ p ∈ done, p.Ok
  ot : ∀ p ∈ todo, p.Ok
  a' : a' ≤ 1048576
  m16 : junk.length % 16 = 0
theorem Mid.len {S : St} {done todo : List Pc} {junk rest : List UInt8} {a' : Nat} (h : Mid S done junk a' todo rest) : S.mem.length = total done + junk.length + total todo + rest.length ∧ fin S = total done + junk.length + total todo := by
  have h1 : S.mem.length = total done + junk.length + total todo + rest.length := by rw [h.mem]; simp [lay_len]; omega
  refine ⟨h1, ?_⟩
  have := total_mod h.od
  have := total_mod h.ot
  have := h.rest
  have := h.m16
  unfold fin; omega
theorem slide_go : ∀ (todo done : List Pc) (S : St) (junk rest : List UInt8) (a' : Nat), Mid S done junk a' todo rest → (∀ p ∈ todo, p.free = false → 1 ≤ p.owner ∧ p.owner ≤ S.pl.length) → ((blocks todo).map Pc.owner).Nodup →
    ∃ R junk', SlideOk S (total done + junk.length) (total done) (lastT 0 done) R (total (done ++ blocks todo)) (lastT 0 (done ++ blocks todo)) ∧ Mid R (done ++ blocks todo) junk' 0 [] rest ∧ junk'.length = junk.length + total todo - total (blocks todo) ∧
      (∀ i, (∀ p ∈ todo, p.free = false → p.owner ≠ i + 1) → R.pl.getD i 0 = S.pl.getD i 0) ∧
      (∀ v p, At (blocks todo) v p → R.pl.getD (p.owner - 1) 0 = total done + v)
  | [], done, S, junk, rest, a', h, _, _ => by
    have hl := h.len
    simp only [total, Nat.add_zero] at hl
    refine ⟨S, junk, ?_, ?_, by simp [blocks, total], fun _ _ => rfl, fun v p hp => hp.elim⟩
    · simp only [blocks, List.filter_nil, List.append_nil]
      exact SlideOk.done S _ _ _ hl.2.symm
    · simp only [blocks, List.filter_nil, List.append_nil]
      exact ⟨by rw [h.mem]; simp [lay], h.rest, h.lim, h.od, fun p hp => (by cases hp), Nat.zero_le _, h.m16⟩
  | p :: todo, done, S, junk, rest, a', h, ho, hnd => by
    have hl := h.len
    have hlim := h.lim
    simp only [total] at hl
    have hp := h.ot p (List.mem_cons_self ..)
    have hpg := hp.ge
    have hfit := hd_fits (p := p) (a := a') (m := 0) hp (by omega) h.a' rfl
    have hhead : headAt S.mem (total done + junk.length) = p.hd a' := by
      have h3 := headAt_app (lay 0 done ++ junk) p.data (lay p.takes todo ++ rest) (p.hd a') hfit
      rw [List.length_append, lay_len] at h3
      rw [h.mem]
      have e : lay 0 done ++ junk ++ lay a' (p :: todo) ++ rest = (lay 0 done ++ junk) ++ (byte8 (p.hd a').word ++ p.data) ++ (lay p.takes todo ++ rest) := by simp only [lay, Pc.bytes, List.append_assoc]
      rw [e]; exact h3
    cases hf : p.free with
    | true =>
      have hm : Mid S done (junk ++ p.bytes a') p.takes todo rest := ⟨by rw [h.mem]; simp only [lay, List.append_assoc], h.rest, h.lim, h.od, fun q hq => h.ot q (List.mem_cons_of_mem _ hq), by omega, by rw [List.length_append, bytes_len]; have := h.m16; have := hp.m16; omega⟩
      have hb : blocks (p :: todo) = blocks todo := blocks_free todo hf
      obtain ⟨R, junk', k1, k2, k3, k4, k5⟩ := slide_go todo done S (junk ++ p.bytes a') rest p.takes hm (fun q hq => ho q (List.mem_cons_of_mem _ hq)) (by rw [hb] at hnd; exact hnd)
      rw [List.length_append, bytes_len] at k1 k3
      rw [hb]
      refine ⟨R, junk', ?_, k2, by rw [k3]; simp only [total]; omega, fun i hi => k4 i (fun q hq => hi q (List.mem_cons_of_mem _ hq)), k5⟩
      have hsz := hp.fr hf
      refine SlideOk.free S _ _ _ (p.hd a') R _ _ hhead hf (by show 16 ≤ p.size; omega) (by show _ + p.size ≤ _; omega) ?_
      show SlideOk S (total done + junk.length + p.size) _ _ _ _ _
      rw [hsz, Nat.add_assoc]; exact k1
    | false =>
      obtain ⟨hsz, hcs⟩ := hp.bl hf
      obtain ⟨ow1, ow2⟩ := ho p (List.mem_cons_self ..) hf
      have hci : costI ((p.hd a').size : Int) = p.takes := by rw [show (p.hd a').size = p.size from rfl, costI_nat hsz, hcs]
      have hb : blocks (p :: todo) = p :: blocks todo := blocks_block todo hf
      rw [hb] at hnd
      simp only [List.map_cons, List.nodup_cons] at hnd
      -- the state behind the move
      have hS1m : (slid S (total done + junk.length) (total done) (lastT 0 done) (p.hd a')).mem = lay 0 (done ++ [p]) ++ (junk ++ p.bytes a').drop p.takes ++ lay p.takes todo ++ rest := by
        unfold slid
        simp only [hci]
        have e1 : (S.mem.drop (total done + junk.length)).take p.takes = p.bytes a' := by
          have e : S.mem = (lay 0 done ++ junk) ++ (p.bytes a' ++ (lay p.takes todo ++ rest)) := by rw [h.mem]; simp only [lay, List.append_assoc]
          rw [e, List.drop_left' (by rw [List.length_append, lay_len]), List.take_left' (bytes_len p a')]
        rw [e1]
        have e2 : S.mem = lay 0 done ++ ((junk ++ p.bytes a').take p.takes ++ ((junk ++ p.bytes a').drop p.takes ++ (lay p.takes todo ++ rest))) := by
          rw [h.mem, ← List.append_assoc ((junk ++ p.bytes a').take p.takes), List.take_append_drop]
          simp only [lay, List.append_assoc]
        have e3 : put S.mem (total done) (p.bytes a') = lay 0 done ++ (p.bytes a' ++ ((junk ++ p.bytes a').drop p.takes ++ (lay p.takes todo ++ rest))) := by
          rw [e2]
          exact put_mid _ _ _ _ _ (lay_len 0 done).symm (by rw [List.length_take, List.length_append, bytes_len]; omega)
        rw [e3]
        have e4 : lay 0 done ++ (p.bytes a' ++ ((junk ++ p.bytes a').drop p.takes ++ (lay p.takes todo ++ rest))) = lay 0 done ++ (byte8 (p.hd a').word ++ (p.data ++ ((junk ++ p.bytes a').drop p.takes ++ (lay p.takes todo ++ rest)))) := by
          simp only [Pc.bytes, List.append_assoc]
        rw [e4]
        show put _ (total done) (byte8 _) = _
        rw [put_mid _ _ _ _ _ (lay_len 0 done).symm (by rw [show (byte8 (p.hd a').word).length = 8 from lastB_len 8 _]; exact (lastB_len 8 _).symm), lay_app]
        have e5 : (⟨false, (p.hd a').marked, (p.hd a').owner, (p.hd a').size, lastT 0 done⟩ : Head) = p.hd (lastT 0 done) := by unfold Pc.hd; rw [hf]
        rw [e5]
        simp only [lay, Pc.bytes, List.append_assoc, List.append_nil]
      have hjl : ((junk ++ p.bytes a').drop p.takes).length = junk.length := by simp [bytes_len]
      have hm1 : Mid (slid S (total done + junk.length) (total done) (lastT 0 done) (p.hd a')) (done ++ [p]) ((junk ++ p.bytes a').drop p.takes) p.takes todo rest := by
        refine ⟨hS1m, h.rest, ?_, ?_, fun q hq => h.ot q (List.mem_cons_of_mem _ hq), by omega, by rw [hjl]; exact h.m16⟩
        · rw [hS1m]; simp only [List.length_append, lay_len, hjl, total_app, total]; omega
        · intro q hq
          rcases List.mem_append.1 hq with h1 | h1
          · exact h.od q h1
          · rw [List.mem_singleton] at h1; rw [h1]; exact hp
      have hpl1 : (slid S (total done + junk.length) (total done) (lastT 0 done) (p.hd a')).pl = S.pl.set (p.owner - 1) (total done) := rfl
      obtain ⟨R, junk', k1, k2, k3, k4, k5⟩ := slide_go todo (done ++ [p]) _ _ rest p.takes hm1 (fun q hq hqf => by rw [hpl1, List.length_set]; exact ho q (List.mem_cons_of_mem _ hq) hqf) hnd.2
      rw [hjl] at k1 k3
      rw [hb]
      have ed : done ++ [p] ++ blocks todo = done ++ p :: blocks todo := by simp
      rw [ed] at k1 k2
      refine ⟨R, junk', ?_, k2, by rw [k3]; simp only [total]; omega, fun i hi => ?_, fun v b hvb => ?_⟩
      · refine SlideOk.block S _ _ _ (p.hd a') R _ _ hhead hf hsz ow1 ow2 (by omega) (lastT_le (by omega) (by omega)) (by rw [hci]; omega) ?_
        rw [hci]
        rw [lastT_snoc, total_app] at k1
        simp only [total, Nat.add_zero] at k1
        rw [show total done + junk.length + p.takes = total done + p.takes + junk.length by omega]
        exact k1
      · rw [k4 i (fun q hq hqf => hi q (List.mem_cons_of_mem _ hq) hqf), hpl1, getD_set _ _ _ _ _ (by omega), if_neg (by have := hi p (List.mem_cons_self ..) hf; omega)]
      · rcases hvb with ⟨rfl, rfl⟩ | ⟨v', rfl, hvb⟩
        · rw [k4 (b.owner - 1) (fun q hq hqf e => hnd.1 (List.mem_map.2 ⟨q, List.mem_filter.2 ⟨hq, by simp [hqf]⟩, by omega⟩)), hpl1, getD_set _ _ _ _ _ (by omega), if_pos rfl]; rfl
        · rw [k5 v' b hvb, total_app]; simp only [total]; omega
end Ar
end Go.Proofs.YtdbaocphglijbaaDoor

/- slide keeps what holds of an arena. -/
set_option maxRecDepth 100000
namespace Go.Proofs.YtdbaocphglijbaaDoor
namespace Ar
theorem at_of_mem : ∀ {xs : List Pc} {p : Pc}, p ∈ xs → ∃ v, At xs v p
  | q :: xs, p, h => by
    rcases List.mem_cons.1 h with rfl | h
    · exact ⟨0, .inl ⟨rfl, rfl⟩⟩
    · obtain ⟨v, hv⟩ := at_of_mem h
      exact ⟨_, .inr ⟨v, rfl, hv⟩⟩
theorem mem_blocks {xs : List Pc} {p : Pc} : p ∈ blocks xs ↔ p ∈ xs ∧ p.free = false := by unfold blocks; rw [List.mem_filter]; simp
theorem Inv.nodup {S : St} {pcs : List Pc} (I : Inv S pcs) : ∀ (ys xs : List Pc), pcs = xs ++ ys → ((blocks ys).map Pc.owner).Nodup
  | [], _, _ => List.nodup_nil
  | p :: ys, xs, e => by
    have ih := I.nodup ys (xs ++ [p]) (by rw [e]; simp)
    cases hf : p.free with
    | true => rw [blocks_free ys hf]; exact ih
    | false =>
      rw [blocks_block ys hf, List.map_cons, List.nodup_cons]
      refine ⟨fun hm => ?_, ih⟩
      obtain ⟨q, hq, ho⟩ := List.mem_map.1 hm
      obtain ⟨hq1, hq2⟩ := mem_blocks.1 hq
      obtain ⟨v, hv⟩ := at_of_mem hq1
      have h1 := (I.hn p.owner (total xs)).2 ⟨p, by rw [e]; exact at_mid xs ys p, hf, rfl⟩
      have h2 := (I.hn p.owner (total xs + (p.takes + v))).2 ⟨q, by rw [e]; exact (at_app _ _ _ _).2 (.inr ⟨_, rfl, .inr ⟨v, rfl, hv⟩⟩), hq2, ho⟩
      rw [h1] at h2
      have := Option.some.inj h2
      have := takes_pos p
      omega
theorem Inv.owner {S : St} {pcs : List Pc} (I : Inv S pcs) {p : Pc} (hp : p ∈ pcs) (hf : p.free = false) : 1 ≤ p.owner ∧ p.owner ≤ S.pl.length := by
  obtain ⟨v, hv⟩ := at_of_mem hp
  obtain ⟨k, e, hk, _, _⟩ := placeOf_some ((I.hn p.owner v).2 ⟨p, hv, hf, rfl⟩)
  omega
def slideEnd (R : St) (rt rh : Nat) : St := if rt < fin R then putFree { R with nd := ring0, spare := 0 } rt (fin R - rt) rh else { R with nd := ring0, spare := 0 }
theorem slide_inv {S : St} {pcs : List Pc} (I : Inv S pcs) : ∃ R, SlideOk S 0 0 0 R (total (blocks pcs)) (lastT 0 (blocks pcs)) ∧ (total (blocks pcs) % 16 = 0 ∧ total (blocks pcs) ≤ fin R ∧ lastT 0 (blocks pcs) ≤ 1048576) ∧
    ∃ pcs2, Inv (slideEnd R (total (blocks pcs)) (lastT 0 (blocks pcs))) pcs2 ∧ blocks pcs2 = blocks pcs ∧ (slideEnd R (total (blocks pcs)) (lastT 0 (blocks pcs))).mem.length = S.mem.length ∧
      ∀ n, n ≤ 4096 → cost n ≤ S.mem.length - S.used → ∃ c, cls (cost n) ≤ c ∧ c < 17 ∧ (nodeAt (slideEnd R (total (blocks pcs)) (lastT 0 (blocks pcs))).nd c).n ≠ c := by
  obtain ⟨rest, hm, hr⟩ := I.mem
  have hlen := I.len
  have hlim := I.lim
  have htm := total_mod I.ok
  have hmid : Mid S [] [] 0 pcs rest := ⟨by rw [hm]; simp [lay], hr, I.lim, (fun p hp => by cases hp), I.ok, Nat.zero_le _, rfl⟩
  obtain ⟨R, junk, k1, k2, k3, k4, k5⟩ := slide_go pcs [] S [] rest 0 hmid (fun p hp hf => I.owner hp hf) (I.nodup pcs [] rfl)
  simp only [List.nil_append, total, List.length_nil, lastT, Nat.add_zero, Nat.zero_add] at k1 k2 k3 k5
  have hK := k1.kept
  obtain ⟨q1, q2, q3, q4, q5, q6, q7⟩ := hK
  have hRl := k2.len
  simp only [total, Nat.add_zero] at hRl
  have hbl := total_mod k2.od
  have hus : total (blocks pcs) = S.used := by rw [total_blocks, I.used]
  refine ⟨R, k1, ⟨hbl, by omega, lastT_le (by omega) (by omega)⟩, ?_⟩
  -- the table behind it
  have hpl : ∀ (h v : Nat), PlaceOf R (h : Int) = some v ↔ ∃ p, At (blocks pcs) v p ∧ p.free = false ∧ p.owner = h := fun h v => by
    constructor
    · intro hx
      obtain ⟨k, e, hk, hb, hv⟩ := placeOf_some hx
      have hpS : PlaceOf S (h : Int) = some (S.pl.getD k 0) := by
        rw [e, placeOf_nat, if_pos ⟨by rw [← q2]; exact hk, by rw [← q4]; exact hb⟩]
      obtain ⟨p, p1, p2, p3⟩ := (I.hn _ _).1 hpS
      obtain ⟨v', hv'⟩ := at_of_mem (mem_blocks.2 ⟨at_mem p1, p2⟩)
      have := k5 v' p hv'
      rw [show p.owner - 1 = k by omega, hv] at this
      exact ⟨p, this ▸ hv', p2, p3⟩
    · rintro ⟨p, p1, p2, p3⟩
      obtain ⟨v0, hv0⟩ := at_of_mem (mem_blocks.1 (at_mem p1)).1
      obtain ⟨k, e, hk, hb, _⟩ := placeOf_some ((I.hn h v0).2 ⟨p, hv0, p2, p3⟩)
      have := k5 v p p1
      rw [e, placeOf_nat, if_pos ⟨by rw [q2]; exact hk, by rw [q4]; exact hb⟩]
      rw [show p.owner - 1 = k by omega] at this
      rw [this]
  have htab : Tab R := by
    have t := I.tab
    refine ⟨by rw [q2, q4]; exact t.plus, by rw [q2]; exact t.lim, by rw [q4]; exact t.us, ?_, by rw [q4, q6]; exact t.low, by rw [q4, q6]; exact t.full⟩
    intro x hx
    obtain ⟨i, hi, rfl⟩ := List.getElem_of_mem hx
    have e : R.pl[i] = R.pl.getD i 0 := by simp [hi]
    rw [e]
    by_cases hex : ∃ p, p ∈ pcs ∧ p.free = false ∧ p.owner = i + 1
    · obtain ⟨p, p1, p2, p3⟩ := hex
      obtain ⟨v, hv⟩ := at_of_mem (mem_blocks.2 ⟨p1, p2⟩)
      have := k5 v p hv
      rw [show p.owner - 1 = i by omega] at this
      rw [this]
      have := at_le hv
      omega
    · rw [k4 i (fun p p1 p2 p3 => hex ⟨p, p1, p2, p3⟩)]
      have hi2 : i < S.pl.length := by omega
      have e2 : S.pl.getD i 0 = S.pl[i] := by simp [hi2]
      rw [e2]
      exact t.place _ (List.getElem_mem hi2)
  have hbb : blocks (blocks pcs) = blocks pcs := by unfold blocks; rw [List.filter_filter]; simp
  have hfr : Frees (fun _ => none) (blocks pcs) junk.length [] := fun i c v => by
    constructor
    · intro h; cases h
    · rintro ⟨p, h1, h2, _⟩
      have := at_of_atG h1
      rw [List.append_nil] at this
      rw [(mem_blocks.1 this).2] at h2; cases h2
  have g : Gap { R with nd := ring0, spare := 0 } (blocks pcs) junk 0 [] rest (fun _ => none) [] :=
    ⟨k2.mem, k2.rest, k2.lim, k2.od, (fun p hp => by cases hp), Nat.zero_le _, Ch.ring0, hfr, by show ring0.length < _; unfold ring0; rw [ring_len]; omega⟩
  have hfinR : fin R = total (blocks pcs) + junk.length := hRl.2
  have hcap : R.mem.length / 16 ≤ R.pl.length := by rw [q1, q2]; exact I.cap
  have huR : R.used = sumT (blocks (blocks pcs)) + sumT (blocks []) := by rw [q7, I.used, hbb]; simp [blocks, sumT]
  have hhn : ∀ (h v : Nat), PlaceOf { R with nd := ring0, spare := 0 } (h : Int) = some v ↔ ∃ p, AtG (blocks pcs) junk.length [] v p ∧ p.free = false ∧ p.owner = h := fun h v => by
    show PlaceOf R (h : Int) = some v ↔ _
    rw [hpl]
    constructor
    · rintro ⟨p, h1, h2⟩; exact ⟨p, .inl h1, h2⟩
    · rintro ⟨p, h1 | ⟨_, _, h1⟩, h2⟩
      · exact ⟨p, h1, h2⟩
      · exact h1.elim
  by_cases hj : 0 < junk.length
  · have hj16 : 16 ≤ junk.length := by have := k2.m16; omega
    have hse : slideEnd R (total (blocks pcs)) (lastT 0 (blocks pcs)) = putFree { R with nd := ring0, spare := 0 } (total (blocks pcs)) junk.length (lastT 0 (blocks pcs)) := by
      unfold slideEnd
      rw [if_pos (by omega), hfinR, Nat.add_sub_cancel_left]
    rw [hse]
    obtain ⟨k, hk, hinv, hb⟩ := g.inv hj16 k2.m16 (by show ring0.length ≤ _; unfold ring0; rw [ring_len]; omega) (htab.congr rfl rfl rfl) hcap hhn huR
    have hput := (g.fill hj16 k2.m16).1
    refine ⟨_, hinv, by rw [hb, hbb]; simp [blocks], ?_, fun n hn hcn => ?_⟩
    · rw [putFree_len _ _ _ _ hput.1 hput.2.1 hput.2.2.1]; exact q1
    · have hg := cost_ge n hn
      have hcl := cls_spec (s := junk.length) hj16 (by omega)
      have hle : cost n ≤ junk.length := by omega
      refine ⟨cls junk.length, cls_mono hg.2.1 hle (by omega), by omega, ?_⟩
      show (nodeAt (push ring0 0 (cls junk.length) (total (blocks pcs))).nd (cls junk.length)).n ≠ _
      rw [Ch.ring0.push_at _ (by omega)]
      simp only [if_true]
      have := (Ch.ring0.fresh (cls junk.length) (total (blocks pcs))).1
      omega
  · have hj0 : junk = [] := List.length_eq_zero_iff.1 (by omega)
    have hse : slideEnd R (total (blocks pcs)) (lastT 0 (blocks pcs)) = { R with nd := ring0, spare := 0 } := by
      unfold slideEnd
      rw [if_neg (by rw [hfinR, hj0]; simp)]
    rw [hse]
    refine ⟨blocks pcs, ⟨⟨rest, by show R.mem = _; rw [k2.mem, hj0]; simp [lay], k2.rest⟩, k2.lim, k2.od, ⟨_, _, Ch.ring0, by have := hfr; rw [hj0] at this; exact this⟩, by show ring0.length ≤ _; unfold ring0; rw [ring_len]; omega, htab.congr rfl rfl rfl, hcap, ?_, by rw [huR]; simp [blocks, sumT]⟩, hbb, q1, fun n hn hcn => ?_⟩
    · intro h v
      show PlaceOf R (h : Int) = some v ↔ _
      exact hpl h v
    · have hg := cost_ge n hn
      rw [hj0] at hRl
      simp only [List.length_nil] at hRl
      omega
end Ar
end Go.Proofs.YtdbaocphglijbaaDoor
