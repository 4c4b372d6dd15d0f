/- 4 texts put together: Slidei, Aroom, Aall, Afre. -/
import Derived.Test.YtagjjpmhacknpaaDoorJB9
/- slide keeps what holds of an arena. -/
set_option maxRecDepth 100000
namespace Go.Proofs.YtagjjpmhacknpaaDoor
namespace Ar
theorem at_of_mem : ∀ {xs : List Pc} {p : Pc}, p ∈ xs → ∃ v, At xs v p
  | q :: xs, p, h => by
    rcases List.mem_cons.1 h with rfl | h
    · exact ⟨0, .inl ⟨rfl, rfl⟩⟩
    · obtain ⟨v, hv⟩ := at_of_mem h
      exact ⟨_, .inr ⟨v, rfl, hv⟩⟩
theorem mem_blocks {xs : List Pc} {p : Pc} : p ∈ blocks xs ↔ p ∈ xs ∧ p.free = false := by unfold blocks; rw [List.mem_filter]; simp
theorem Inv.nodup {S : St} {pcs : List Pc} (I : Inv S pcs) : ∀ (ys xs : List Pc), pcs = xs ++ ys → ((blocks ys).map Pc.owner).Nodup
  | [], _, _ => List.nodup_nil
  | p :: ys, xs, e => by
    have ih := I.nodup ys (xs ++ [p]) (by rw [e]; simp)
    cases hf : p.free with
    | true => rw [blocks_free ys hf]; exact ih
    | false =>
      rw [blocks_block ys hf, List.map_cons, List.nodup_cons]
      refine ⟨fun hm => ?_, ih⟩
      obtain ⟨q, hq, ho⟩ := List.mem_map.1 hm
      obtain ⟨hq1, hq2⟩ := mem_blocks.1 hq
      obtain ⟨v, hv⟩ := at_of_mem hq1
      have h1 := (I.hn p.owner (total xs)).2 ⟨p, by rw [e]; exact at_mid xs ys p, hf, rfl⟩
      have h2 := (I.hn p.owner (total xs + (p.takes + v))).2 ⟨q, by rw [e]; exact (at_app _ _ _ _).2 (.inr ⟨_, rfl, .inr ⟨v, rfl, hv⟩⟩), hq2, ho⟩
      rw [h1] at h2
      have := Option.some.inj h2
      have := takes_pos p
      omega
theorem Inv.owner {S : St} {pcs : List Pc} (I : Inv S pcs) {p : Pc} (hp : p ∈ pcs) (hf : p.free = false) : 1 ≤ p.owner ∧ p.owner ≤ S.pl.length := by
  obtain ⟨v, hv⟩ := at_of_mem hp
  obtain ⟨k, e, hk, _, _⟩ := placeOf_some ((I.hn p.owner v).2 ⟨p, hv, hf, rfl⟩)
  omega
def slideEnd (R : St) (rt rh : Nat) : St := if rt < fin R then putFree { R with nd := ring0, spare := 0 } rt (fin R - rt) rh else { R with nd := ring0, spare := 0 }
theorem slide_inv {S : St} {pcs : List Pc} (I : Inv S pcs) : ∃ R, SlideOk S 0 0 0 R (total (blocks pcs)) (lastT 0 (blocks pcs)) ∧ (total (blocks pcs) % 16 = 0 ∧ total (blocks pcs) ≤ fin R ∧ lastT 0 (blocks pcs) ≤ 1048576) ∧
    ∃ pcs2, Inv (slideEnd R (total (blocks pcs)) (lastT 0 (blocks pcs))) pcs2 ∧ blocks pcs2 = blocks pcs ∧ (slideEnd R (total (blocks pcs)) (lastT 0 (blocks pcs))).mem.length = S.mem.length ∧
      ∀ n, n ≤ 4096 → cost n ≤ S.mem.length - S.used → ∃ c, cls (cost n) ≤ c ∧ c < 17 ∧ (nodeAt (slideEnd R (total (blocks pcs)) (lastT 0 (blocks pcs))).nd c).n ≠ c := by
  obtain ⟨rest, hm, hr⟩ := I.mem
  have hlen := I.len
  have hlim := I.lim
  have htm := total_mod I.ok
  have hmid : Mid S [] [] 0 pcs rest := ⟨by rw [hm]; simp [lay], hr, I.lim, (fun p hp => by cases hp), I.ok, Nat.zero_le _, rfl⟩
  obtain ⟨R, junk, k1, k2, k3, k4, k5⟩ := slide_go pcs [] S [] rest 0 hmid (fun p hp hf => I.owner hp hf) (I.nodup pcs [] rfl)
  simp only [List.nil_append, total, List.length_nil, lastT, Nat.add_zero, Nat.zero_add] at k1 k2 k3 k5
  have hK := k1.kept
  obtain ⟨q1, q2, q3, q4, q5, q6, q7⟩ := hK
  have hRl := k2.len
  simp only [total, Nat.add_zero] at hRl
  have hbl := total_mod k2.od
  have hus : total (blocks pcs) = S.used := by rw [total_blocks, I.used]
  refine ⟨R, k1, ⟨hbl, by omega, lastT_le (by omega) (by omega)⟩, ?_⟩
  -- the table behind it
  have hpl : ∀ (h v : Nat), PlaceOf R (h : Int) = some v ↔ ∃ p, At (blocks pcs) v p ∧ p.free = false ∧ p.owner = h := fun h v => by
    constructor
    · intro hx
      obtain ⟨k, e, hk, hb, hv⟩ := placeOf_some hx
      have hpS : PlaceOf S (h : Int) = some (S.pl.getD k 0) := by
        rw [e, placeOf_nat, if_pos ⟨by rw [← q2]; exact hk, by rw [← q4]; exact hb⟩]
      obtain ⟨p, p1, p2, p3⟩ := (I.hn _ _).1 hpS
      obtain ⟨v', hv'⟩ := at_of_mem (mem_blocks.2 ⟨at_mem p1, p2⟩)
      have := k5 v' p hv'
      rw [show p.owner - 1 = k by omega, hv] at this
      exact ⟨p, this ▸ hv', p2, p3⟩
    · rintro ⟨p, p1, p2, p3⟩
      obtain ⟨v0, hv0⟩ := at_of_mem (mem_blocks.1 (at_mem p1)).1
      obtain ⟨k, e, hk, hb, _⟩ := placeOf_some ((I.hn h v0).2 ⟨p, hv0, p2, p3⟩)
      have := k5 v p p1
      rw [e, placeOf_nat, if_pos ⟨by rw [q2]; exact hk, by rw [q4]; exact hb⟩]
      rw [show p.owner - 1 = k by omega] at this
      rw [this]
  have htab : Tab R := by
    have t := I.tab
    refine ⟨by rw [q2, q4]; exact t.plus, by rw [q2]; exact t.lim, by rw [q4]; exact t.us, ?_, by rw [q4, q6]; exact t.low, by rw [q4, q6]; exact t.full⟩
    intro x hx
    obtain ⟨i, hi, rfl⟩ := List.getElem_of_mem hx
    have e : R.pl[i] = R.pl.getD i 0 := by simp [hi]
    rw [e]
    by_cases hex : ∃ p, p ∈ pcs ∧ p.free = false ∧ p.owner = i + 1
    · obtain ⟨p, p1, p2, p3⟩ := hex
      obtain ⟨v, hv⟩ := at_of_mem (mem_blocks.2 ⟨p1, p2⟩)
      have := k5 v p hv
      rw [show p.owner - 1 = i by omega] at this
      rw [this]
      have := at_le hv
      omega
    · rw [k4 i (fun p p1 p2 p3 => hex ⟨p, p1, p2, p3⟩)]
      have hi2 : i < S.pl.length := by omega
      have e2 : S.pl.getD i 0 = S.pl[i] := by simp [hi2]
      rw [e2]
      exact t.place _ (List.getElem_mem hi2)
  have hbb : blocks (blocks pcs) = blocks pcs := by unfold blocks; rw [List.filter_filter]; simp
  have hfr : Frees (fun _ => none) (blocks pcs) junk.length [] := fun i c v => by
    constructor
    · intro h; cases h
    · rintro ⟨p, h1, h2, _⟩
      have := at_of_atG h1
      rw [List.append_nil] at this
      rw [(mem_blocks.1 this).2] at h2; cases h2
  have g : Gap { R with nd := ring0, spare := 0 } (blocks pcs) junk 0 [] rest (fun _ => none) [] :=
    ⟨k2.mem, k2.rest, k2.lim, k2.od, (fun p hp => by cases hp), Nat.zero_le _, Ch.ring0, hfr, by show ring0.length < _; unfold ring0; rw [ring_len]; omega⟩
  have hfinR : fin R = total (blocks pcs) + junk.length := hRl.2
  have hcap : R.mem.length / 16 ≤ R.pl.length := by rw [q1, q2]; exact I.cap
  have huR : R.used = sumT (blocks (blocks pcs)) + sumT (blocks []) := by rw [q7, I.used, hbb]; simp [blocks, sumT]
  have hhn : ∀ (h v : Nat), PlaceOf { R with nd := ring0, spare := 0 } (h : Int) = some v ↔ ∃ p, AtG (blocks pcs) junk.length [] v p ∧ p.free = false ∧ p.owner = h := fun h v => by
    show PlaceOf R (h : Int) = some v ↔ _
    rw [hpl]
    constructor
    · rintro ⟨p, h1, h2⟩; exact ⟨p, .inl h1, h2⟩
    · rintro ⟨p, h1 | ⟨_, _, h1⟩, h2⟩
      · exact ⟨p, h1, h2⟩
      · exact h1.elim
  by_cases hj : 0 < junk.length
  · have hj16 : 16 ≤ junk.length := by have := k2.m16; omega
    have hse : slideEnd R (total (blocks pcs)) (lastT 0 (blocks pcs)) = putFree { R with nd := ring0, spare := 0 } (total (blocks pcs)) junk.length (lastT 0 (blocks pcs)) := by
      unfold slideEnd
      rw [if_pos (by omega), hfinR, Nat.add_sub_cancel_left]
    rw [hse]
    obtain ⟨k, hk, hinv, hb⟩ := g.inv hj16 k2.m16 (by show ring0.length ≤ _; unfold ring0; rw [ring_len]; omega) (htab.congr rfl rfl rfl) hcap hhn huR
    have hput := (g.fill hj16 k2.m16).1
    refine ⟨_, hinv, by rw [hb, hbb]; simp [blocks], ?_, fun n hn hcn => ?_⟩
    · rw [putFree_len _ _ _ _ hput.1 hput.2.1 hput.2.2.1]; exact q1
    · have hg := cost_ge n hn
      have hcl := cls_spec (s := junk.length) hj16 (by omega)
      have hle : cost n ≤ junk.length := by omega
      refine ⟨cls junk.length, cls_mono hg.2.1 hle (by omega), by omega, ?_⟩
      show (nodeAt (push ring0 0 (cls junk.length) (total (blocks pcs))).nd (cls junk.length)).n ≠ _
      rw [Ch.ring0.push_at _ (by omega)]
      simp only [if_true]
      have := (Ch.ring0.fresh (cls junk.length) (total (blocks pcs))).1
      omega
  · have hj0 : junk = [] := List.length_eq_zero_iff.1 (by omega)
    have hse : slideEnd R (total (blocks pcs)) (lastT 0 (blocks pcs)) = { R with nd := ring0, spare := 0 } := by
      unfold slideEnd
      rw [if_neg (by rw [hfinR, hj0]; simp)]
    rw [hse]
    refine ⟨blocks pcs, ⟨⟨rest, by show R.mem = _; rw [k2.mem, hj0]; simp [lay], k2.rest⟩, k2.lim, k2.od, ⟨_, _, Ch.ring0, by have := hfr; rw [hj0] at this; exact this⟩, by show ring0.length ≤ _; unfold ring0; rw [ring_len]; omega, htab.congr rfl rfl rfl, hcap, ?_, by rw [huR]; simp [blocks, sumT]⟩, hbb, q1, fun n hn hcn => ?_⟩
    · intro h v
      show PlaceOf R (h : Int) = some v ↔ _
      exact hpl h v
    · have hg := cost_ge n hn
      rw [hj0] at hRl
      simp only [List.length_nil] at hRl
      omega
end Ar
end Go.Proofs.YtagjjpmhacknpaaDoor

/- room, Compact. -/
set_option maxRecDepth 100000
namespace Go.Proofs.YtagjjpmhacknpaaDoor
open Go.RowKit Go.Shelf
namespace Ar
theorem Inv.fit {S : St} {pcs : List Pc} (I : Inv S pcs) {n c : Nat} (hn : n ≤ 4096) (h1 : cls (cost n) ≤ c) (h2 : c < 17) (h3 : (nodeAt S.nd c).n ≠ c) : ∃ xs p ys, pcs = xs ++ p :: ys ∧ total xs = (nodeAt S.nd (nodeAt S.nd c).n).v ∧ p.free = true ∧ cost n ≤ p.takes := by
  obtain ⟨E, sp, hc, hf⟩ := I.fr
  obtain ⟨p, a1, a2, a3, a4⟩ := (hf _ _ _).1 (hc.first h2 h3)
  have a5 := (atG_zero _ _ _ _).1 a1
  rw [List.append_nil] at a5
  obtain ⟨xs, ys, rfl, e⟩ := at_split a5
  have hp := I.ok p (by simp)
  have hl := I.len
  have hlim := I.lim
  rw [total_app] at hl
  simp only [total] at hl
  have hsz := hp.fr a2
  refine ⟨xs, p, ys, rfl, e, a2, ?_⟩
  rw [← hsz]
  exact cls_fits hn (by have := hp.ge; omega) (by omega) (by rw [a4]; exact h1)
theorem Inv.rings {S : St} {pcs : List Pc} (I : Inv S pcs) : 17 ≤ S.nd.length ∧ (∀ c, c < 17 → (nodeAt S.nd c).n < S.nd.length) ∧ S.nd.length ≤ 200000 := by
  obtain ⟨E, sp, hc, _⟩ := I.fr
  exact ⟨hc.len, fun c h => (hc.class h).2, by have := I.nd; omega⟩
end Ar
theorem slide_at (A : Nat) (L : Loc) (S : Ar.St) (pcs : List Ar.Pc) (f : Nat → Prop) (w : World) (hA : ArE A L S f w) (I : Ar.Inv S pcs) :
    ∃ S2 pcs2, Ar.Inv S2 pcs2 ∧ Ar.blocks pcs2 = Ar.blocks pcs ∧ S2.mem.length = S.mem.length ∧ (∀ n, n ≤ 4096 → Ar.cost n ≤ S.mem.length - S.used → ∃ c, Ar.cls (Ar.cost n) ≤ c ∧ c < 17 ∧ (Ar.nodeAt S2.nd c).n ≠ c) ∧
      Calls Tryd.prog 39 #[.pointer (some ⟨A, 0, none⟩)] w fun e w' => e = .returned (.tuple #[]) ∧ ∃ L', Ars A L' S2 f w w' := by
  obtain ⟨R, h1, h2, pcs2, h3, h4, h5, h6⟩ := Ar.slide_inv I
  exact ⟨_, pcs2, h3, h4, h5, h6, slide_any A L S R _ _ f w hA I.lim (by have := I.tab.lim; omega) h1 h2⟩
/-- What room hands back. -/
def RoomRet (A : Nat) (S : Ar.St) (pcs : List Ar.Pc) (n : Nat) (f : Nat → Prop) (w : World) (e : Ending) (w' : World) : Prop :=
  ∃ L' S' xs p ys, e = .returned (.int .i64 (Ar.total xs : Int)) ∧ Ars A L' S' f w w' ∧ Ar.Inv S' (xs ++ p :: ys) ∧ Ar.blocks (xs ++ p :: ys) = Ar.blocks pcs ∧ S'.mem.length = S.mem.length ∧ p.free = true ∧ Ar.cost n ≤ p.takes
set_option maxHeartbeats 4000000 in
theorem room_any (A : Nat) (L : Loc) (S : Ar.St) (pcs : List Ar.Pc) (f : Nat → Prop) (n cn : Nat) (w : World) (hA : ArE A L S f w) (I : Ar.Inv S pcs) (hn : n ≤ 4096) (hcn : Ar.cost n = cn) (hl : Ar.cost n ≤ S.mem.length - S.used) :
    Calls Tryd.prog 27 #[.pointer (some ⟨A, 0, none⟩), .int .i64 (cn : Int)] w (RoomRet A S pcs n f w) := by
  have hg := Ar.cost_ge n hn
  obtain ⟨r1, r2, r3⟩ := I.rings
  have hfit := fitting_any A L S f cn w hA (by omega) (by omega) r1 r2 r3
  unfold FitRet at hfit
  have HF := Lib.hid hfit
  obtain ⟨S2, pcs2, I2, b2, m2, f2, hsl⟩ := slide_at A L S pcs f w hA I
  have HSL := Lib.hid hsl
  obtain ⟨r1', r2', r3'⟩ := I2.rings
  have HF2 : Hid (∀ L' g w2, ArE A L' S2 g w2 → Calls Tryd.prog 48 #[.pointer (some ⟨A, 0, none⟩), .int .i64 (cn : Int)] w2 (FitRet S2 (Ar.cls cn) w2)) := Lib.hid (fun L' g w2 hA2 => fitting_any A L' S2 g cn w2 hA2 (by omega) (by omega) r1' r2' r3')
  have HA := Lib.hid (Ars.start hA)
  have end1 : Hid (∀ v c, Ar.cls cn ≤ c → c < 17 → (Ar.nodeAt S.nd c).n ≠ c → v = (Ar.nodeAt S.nd (Ar.nodeAt S.nd c).n).v → RoomRet A S pcs n f w (.returned (.int .i64 (v : Int))) w) := Lib.hid (fun v c h1 h2 h3 h4 => by
    obtain ⟨xs, p, ys, e1, e2, e3, e4⟩ := I.fit hn (by rw [hcn]; exact h1) h2 h3
    subst e1
    exact ⟨L, S, xs, p, ys, by rw [h4, e2], Ars.start hA, I, rfl, rfl, e3, e4⟩)
  have end2 : Hid (∀ v c L' w', Ars A L' S2 f w w' → Ar.cls cn ≤ c → c < 17 → (Ar.nodeAt S2.nd c).n ≠ c → v = (Ar.nodeAt S2.nd (Ar.nodeAt S2.nd c).n).v → RoomRet A S pcs n f w (.returned (.int .i64 (v : Int))) w') := Lib.hid (fun v c L' w' hA' h1 h2 h3 h4 => by
    obtain ⟨xs, p, ys, e1, e2, e3, e4⟩ := I2.fit hn (by rw [hcn]; exact h1) h2 h3
    subst e1
    exact ⟨L', S2, xs, p, ys, by rw [h4, e2], hA', I2, b2, m2, e3, e4⟩)
  have hex := Lib.hid (f2 n hn hl)
  rw [hcn] at hex
  clear hfit hsl hA I I2 r1 r2 r3 r1' r2' r3' f2 hcn hl hg
  go_enter Tryd.func27, Tryd.ntmps27
  go_wp2_with (go_at_call 48; (refine HF.out.mono ?_); rintro e w' ⟨⟨v, ok, rfl, ht, hf⟩, rfl⟩; have HT := Lib.hid ht; have HFF := Lib.hid hf; clear ht hf; refine Hid.out ?_)
  refine Lib.hid ?_
  cases ok
  · go_wp2_with (first
      | (go_at_call 39; (refine HSL.out.mono ?_); rintro e w2 ⟨rfl, L2, hA2⟩; have HA2 := Lib.hid hA2; clear hA2)
      | (go_at_call 48; (refine (HF2.out L2 _ _ HA2.out.ar).mono ?_); rintro e w' ⟨⟨v2, ok2, rfl, ht2, hf2⟩, rfl⟩; have HT2 := Lib.hid ht2; have HFF2 := Lib.hid hf2; clear ht2 hf2))
    go_ret
    obtain ⟨c, c1, c2, c3⟩ := hex.out
    cases hok : ok2 with
    | false => exact absurd (HFF2.out hok c c1 c2) c3
    | true =>
      obtain ⟨c', d1, d2, d3, d4⟩ := HT2.out hok
      exact end2.out v2 c' L2 _ HA2.out d1 d2 d3 d4
  · go_wp2
    go_ret
    obtain ⟨c', d1, d2, d3, d4⟩ := HT.out (by trivial)
    exact end1.out v c' d1 d2 d3 d4
def CompRet (A : Nat) (S : Ar.St) (pcs : List Ar.Pc) (f : Nat → Prop) (w : World) (e : Ending) (w' : World) : Prop :=
  e = .returned (.int .i64 ((S.mem.length - S.used : Nat) : Int)) ∧ ∃ L' S' pcs', Ars A L' S' f w w' ∧ Ar.Inv S' pcs' ∧ Ar.blocks pcs' = Ar.blocks pcs ∧ S'.mem.length = S.mem.length
set_option maxHeartbeats 4000000 in
theorem compact_any (A : Nat) (L : Loc) (S : Ar.St) (pcs : List Ar.Pc) (f : Nat → Prop) (w : World) (hA : ArE A L S f w) (I : Ar.Inv S pcs) :
    Calls Tryd.prog 16 #[.pointer (some ⟨A, 0, none⟩)] w (CompRet A S pcs f w) := by
  obtain ⟨S2, pcs2, I2, b2, m2, _, hsl⟩ := slide_at A L S pcs f w hA I
  have HSL := Lib.hid hsl
  have hs2 := I2.sane
  have hu : S2.used = S.used := by rw [I2.used, b2, I.used]
  have HU := Lib.hid hu
  have HM := Lib.hid m2
  have hb := hs2.mem
  have hb2 := hs2.used
  clear hsl hu hA hs2 m2
  go_enter Tryd.func16, Tryd.ntmps16
  go_wp2_with (first
    | (go_at_call 39; (refine HSL.out.mono ?_); rintro e w2 ⟨rfl, L2, hA2⟩; have HA2 := Lib.hid hA2; clear hA2)
    | (go_at_call 22; (refine (left_any A L2 S2 _ _ HA2.out.ar hb hb2).mono ?_); rintro e w' ⟨rfl, rfl⟩))
  go_ret
  exact ⟨by rw [HU.out, HM.out]; rfl, L2, S2, pcs2, HA2.out, I2, b2, HM.out⟩
end Go.Proofs.YtagjjpmhacknpaaDoor

/- Alloc. -/
set_option maxRecDepth 100000
namespace Go.Proofs.YtagjjpmhacknpaaDoor
open Go.RowKit Go.Shelf
namespace Ar
theorem first_or (us : List Nat) (m : Nat) : ∀ d low, (∀ j, low ≤ j → j < low + d → us.getD j 0 = m) ∨ ∃ l, low ≤ l ∧ l < low + d ∧ us.getD l 0 ≠ m ∧ ∀ j, low ≤ j → j < l → us.getD j 0 = m
  | 0, low => .inl fun j h1 h2 => by omega
  | d + 1, low => by
    by_cases h : us.getD low 0 = m
    · rcases first_or us m d (low + 1) with h1 | ⟨l, h1, h2, h3, h4⟩
      · exact .inl fun j a b => by
          by_cases e : j = low
          · rw [e]; exact h
          · exact h1 j (by omega) (by omega)
      · exact .inr ⟨l, by omega, by omega, h3, fun j a b => by
          by_cases e : j = low
          · rw [e]; exact h
          · exact h4 j (by omega) b⟩
    · exact .inr ⟨low, Nat.le_refl _, by omega, h, fun j a b => by omega⟩
theorem sumT_ge : ∀ {xs : List Pc}, (∀ p ∈ xs, p.Ok) → 16 * xs.length ≤ sumT xs
  | [], _ => Nat.zero_le _
  | p :: r, h => by
    have := (h p (List.mem_cons_self ..)).ge
    have := sumT_ge (xs := r) (fun q hq => h q (List.mem_cons_of_mem _ hq))
    simp only [sumT_cons, List.length_cons]; omega
/-- There is a handle. -/
theorem Inv.handle {S : St} {pcs : List Pc} (I : Inv S pcs) (h16 : 16 ≤ S.mem.length - S.used) : ∃ l, l < S.us.length ∧ S.low ≤ l ∧ (∀ j, j < l → S.us.getD j 0 = 18446744073709551615) ∧ S.us.getD l 0 < 18446744073709551615 := by
  have t := I.tab
  have hlow := t.low
  rcases first_or S.us 18446744073709551615 (S.us.length - S.low) S.low with h | ⟨l, h1, h2, h3, h4⟩
  · exfalso
    have hall : ∀ j, j < S.us.length → S.us.getD j 0 = 18446744073709551615 := fun j hj => by
      by_cases e : j < S.low
      · exact t.full j e
      · exact h j (by omega) (by omega)
    have key := nodup_le (l := List.range' 1 S.pl.length) (m := (blocks pcs).map Pc.owner) List.nodup_range' (fun i hi => by
      rw [List.mem_range'_1] at hi
      obtain ⟨k, rfl⟩ : ∃ k, i = k + 1 := ⟨i - 1, by omega⟩
      have hb : bitOn S.us (k + 1) = true := by
        rw [bitOn_test', Nat.add_sub_cancel, hall (k / 64) (by have := t.plus; omega)]
        have := Nat.testBit_two_pow_sub_one 64 (k % 64)
        rw [show (2 : Nat) ^ 64 - 1 = 18446744073709551615 by decide] at this
        rw [this]; simp; omega
      have hp : PlaceOf S ((k + 1 : Nat) : Int) = some (S.pl.getD k 0) := by rw [placeOf_nat, if_pos ⟨by omega, hb⟩]
      obtain ⟨p, p1, p2, p3⟩ := (I.hn _ _).1 hp
      exact List.mem_map.2 ⟨p, mem_blocks.2 ⟨at_mem p1, p2⟩, p3⟩)
    simp only [List.length_range', List.length_map] at key
    have h2 := sumT_ge (blocks_ok I.ok)
    have h3 := I.cap
    have h4 := I.used
    omega
  · refine ⟨l, by omega, h1, fun j hj => ?_, by have := t.word l; omega⟩
    by_cases e : j < S.low
    · exact t.full j e
    · exact h4 j (by omega) hj
end Ar
/-- A block that was just made. -/
structure IsNew (b : Ar.Pc) (h n : Nat) : Prop where
  free : b.free = false
  own : b.owner = h
  size : b.size = n
  zero : b.data.take n = Ar.zeros n
def AllocRet (A : Nat) (S : Ar.St) (pcs : List Ar.Pc) (n : Nat) (f : Nat → Prop) (w : World) (e : Ending) (w' : World) : Prop :=
  ∃ (h : Nat) (L' : Loc) (S' : Ar.St) (pcs' B1 B2 : List Ar.Pc) (b : Ar.Pc), e = .returned (.tuple #[.int .i64 (h : Int), .int .i64 0]) ∧ Ars A L' S' f w w' ∧ Ar.Inv S' pcs' ∧ S'.mem.length = S.mem.length ∧ Ar.blocks pcs = B1 ++ B2 ∧ Ar.blocks pcs' = B1 ++ b :: B2 ∧ IsNew b h n ∧ 1 ≤ h ∧ (∀ q ∈ Ar.blocks pcs, q.owner ≠ h) ∧ (∀ j, 1 ≤ j → j < h → ∃ q ∈ Ar.blocks pcs, q.owner = j)
theorem alloc_end {A : Nat} {S S1 : Ar.St} {pcs xs ys : List Ar.Pc} {p : Ar.Pc} {n l : Nat} {f : Nat → Prop} {w : World} (I1 : Ar.Inv S1 (xs ++ p :: ys)) (hb : Ar.blocks (xs ++ p :: ys) = Ar.blocks pcs) (hm : S1.mem.length = S.mem.length) (hf : p.free = true) (hp : Ar.cost n ≤ p.takes) (hn : n ≤ 4096)
    (l1 : l < S1.us.length) (l3 : ∀ j, j < l → S1.us.getD j 0 = 18446744073709551615) (l4 : S1.us.getD l 0 < 18446744073709551615) :
    (Ar.total xs ≠ Ar.fin (Ar.takeH S1 l (Ar.total xs)) ∧ Ar.headAt S1.mem (Ar.total xs) = p.hd (Ar.lastT 0 xs) ∧ Ar.total xs + p.takes ≤ S1.mem.length ∧ p.size = p.takes ∧ (Ar.total xs + p.takes) % 16 = 0 ∧ (p.owner < S1.nd.length ∧ (Ar.nodeAt S1.nd p.owner).n < S1.nd.length ∧ (Ar.nodeAt S1.nd p.owner).l < S1.nd.length) ∧ (∀ c, c < 17 → c < (Ar.takeFree (Ar.takeH S1 l (Ar.total xs)) (Ar.total xs)).nd.length ∧ (Ar.nodeAt (Ar.takeFree (Ar.takeH S1 l (Ar.total xs)) (Ar.total xs)).nd c).n < (Ar.takeFree (Ar.takeH S1 l (Ar.total xs)) (Ar.total xs)).nd.length) ∧ (Ar.takeFree (Ar.takeH S1 l (Ar.total xs)) (Ar.total xs)).spare < (Ar.takeFree (Ar.takeH S1 l (Ar.total xs)) (Ar.total xs)).nd.length ∧ (Ar.takeFree (Ar.takeH S1 l (Ar.total xs)) (Ar.total xs)).nd.length ≤ 70000) ∧
    (∀ L' w', Ars A L' { Ar.settle (Ar.takeH S1 l (Ar.total xs)) (Ar.total xs) (Ar.nextH S1 l + 1) n with used := S1.used + Ar.cost n } f w w' → (Ar.settle (Ar.takeH S1 l (Ar.total xs)) (Ar.total xs) (Ar.nextH S1 l + 1) n).mem.length = S.mem.length → AllocRet A S pcs n f w (.returned (.tuple #[.int .i64 ((Ar.nextH S1 l + 1 : Nat) : Int), .int .i64 0])) w') := by
  obtain ⟨n1, n2, n3, n4, n5⟩ := Ar.nextH_spec I1.tab l1 l3 l4
  have hpl := I1.tab.lim
  have hlen := I1.len
  have hlim := I1.lim
  rw [Ar.total_app] at hlen
  simp only [Ar.total] at hlen
  have hnone : Ar.PlaceOf S1 ((Ar.nextH S1 l + 1 : Nat) : Int) = none := by rw [Ar.placeOf_nat, if_neg (by rw [n2]; simp)]
  obtain ⟨hyp, pcs', hinv, hbl⟩ := Ar.settle_math (T := Ar.takeH S1 l (Ar.total xs)) (h := Ar.nextH S1 l + 1) I1 hf hn hp (by omega) rfl rfl rfl (I1.tab.take l1 l3 l4 (by omega)) (by simp [Ar.takeH]) (fun z => Ar.placeOf_take I1.tab l1 l3 l4 z) hnone rfl
  refine ⟨hyp, fun L' w' hA hml => ?_⟩
  refine ⟨Ar.nextH S1 l + 1, L', _, pcs', Ar.blocks xs, Ar.blocks ys, _, rfl, hA, hinv, hml, ?_, hbl, ⟨rfl, rfl, rfl, ?_⟩, by omega, fun q hq e => ?_, fun j h1 h2 => ?_⟩
  · rw [← hb, Ar.blocks_app, Ar.blocks_free ys hf]
  · unfold Ar.mkBlock
    simp only
    rw [List.take_left' (by simp [Ar.zeros])]
  · rw [← hb] at hq
    obtain ⟨q1, q2⟩ := Ar.mem_blocks.1 hq
    obtain ⟨v, hv⟩ := Ar.at_of_mem q1
    have := (I1.hn _ v).2 ⟨q, hv, q2, e⟩
    rw [hnone] at this
    cases this
  · obtain ⟨k, rfl⟩ : ∃ k, j = k + 1 := ⟨j - 1, by omega⟩
    have hx : Ar.PlaceOf S1 ((k + 1 : Nat) : Int) = some (S1.pl.getD k 0) := by rw [Ar.placeOf_nat, if_pos ⟨by omega, n3 k (by omega)⟩]
    obtain ⟨q, q1, q2, q3⟩ := (I1.hn _ _).1 hx
    exact ⟨q, by rw [← hb]; exact Ar.mem_blocks.2 ⟨Ar.at_mem q1, q2⟩, q3⟩
set_option maxHeartbeats 2000000 in
theorem alloc_big (v : Value) (z : Int) (w : World) (h : Ar.costI z = 0) : Calls Tryd.prog 8 #[v, .int .i64 z] w fun e w' => e = .returned (.tuple #[.int .i64 0, .int .i64 3]) ∧ w = w' := by
  have hc := cost_any z w
  rw [h] at hc
  have HC := Lib.hid hc
  clear hc h
  go_enter Tryd.func8, Tryd.ntmps8
  go_wp2_with (go_at_call 20; (refine HC.out.mono ?_); rintro e w' ⟨rfl, rfl⟩)
  go_ret2
  exact ⟨rfl, rfl⟩
set_option maxHeartbeats 2000000 in
theorem alloc_full (A : Nat) (L : Loc) (S : Ar.St) (f : Nat → Prop) (n cn : Nat) (w : World) (hA : ArE A L S f w) (hs : Ar.Sane S) (hn : n ≤ 4096) (hc : Ar.cost n = cn) (hl : S.mem.length - S.used < cn) : Calls Tryd.prog 8 #[.pointer (some ⟨A, 0, none⟩), .int .i64 (n : Int)] w fun e w' => e = .returned (.tuple #[.int .i64 0, .int .i64 4]) ∧ w = w' := by
  have hg := Ar.cost_ge n hn
  have h16 : 16 ≤ cn := by omega
  have hcm : cn ≤ 8192 := by omega
  have HC := Lib.hid hc
  have HA := Lib.hid hA
  obtain ⟨lf, hlf⟩ : ∃ lf, S.mem.length - S.used = lf := ⟨_, rfl⟩
  have hll := left_any A L S f w hA hs.mem hs.used
  rw [hlf] at hll hl
  have HLL := Lib.hid hll
  have hne : ((cn : Int) == 0) = false := by rw [beq_eq_false_iff_ne]; omega
  clear hc hA hlf hll hg
  go_enter Tryd.func8, Tryd.ntmps8
  go_wp2_with (first
    | (go_at_call 20; (with_reducible refine (cost_at n cn _ hn HC.out).mono ?_); rintro e w' ⟨rfl, rfl⟩)
    | (go_at_call 22; (with_reducible refine HLL.out.mono ?_); rintro e w' ⟨rfl, rfl⟩))
  go_ret2
  exact ⟨rfl, rfl⟩
set_option maxHeartbeats 2000000 in
theorem alloc_nil (n cn : Nat) (w : World) (hn : n ≤ 4096) (hc : Ar.cost n = cn) : Calls Tryd.prog 8 #[.pointer none, .int .i64 (n : Int)] w fun e w' => e = .returned (.tuple #[.int .i64 0, .int .i64 4]) ∧ w = w' := by
  have hg := Ar.cost_ge n hn
  have h16 : 16 ≤ cn := by omega
  have HC := Lib.hid hc
  have hne : ((cn : Int) == 0) = false := by rw [beq_eq_false_iff_ne]; omega
  have hp : 0 < cn := by omega
  clear hc hg
  go_enter Tryd.func8, Tryd.ntmps8
  go_wp2_with (first
    | (go_at_call 20; (with_reducible refine (cost_at n cn _ hn HC.out).mono ?_); rintro e w' ⟨rfl, rfl⟩)
    | (go_at_call 22; (with_reducible refine (left_nil _).mono ?_); rintro e w' ⟨rfl, rfl⟩))
  go_ret2
  exact ⟨rfl, rfl⟩
theorem settle_len {S : Ar.St} {a h n : Nat} (hn : n ≤ 4096) (h1 : a + Ar.cost n ≤ S.mem.length) (h3 : Ar.cost n < (Ar.headAt S.mem a).size → 16 ≤ (Ar.headAt S.mem a).size - Ar.cost n ∧ a + (Ar.headAt S.mem a).size ≤ S.mem.length ∧ (a + (Ar.headAt S.mem a).size) % 16 = 0) : (Ar.settle S a h n).mem.length = S.mem.length := by
  have hg := Ar.cost_ge n hn
  have e1 : (Ar.put (Ar.putHd S.mem a ⟨false, false, h, n, (Ar.headAt S.mem a).ahead⟩) (a + 8) (Ar.zeros n)).length = S.mem.length := by
    have e0 := Ar.putHd_len S.mem a ⟨false, false, h, n, (Ar.headAt S.mem a).ahead⟩ (by omega)
    rw [Ar.put_len _ _ _ (by rw [e0]; simp [Ar.zeros]; omega), e0]
  unfold Ar.settle
  simp only
  split
  · rename_i hlt
    obtain ⟨a1, a2, a3⟩ := h3 hlt
    refine (Ar.putFree_len _ _ _ _ a1 ?_ ?_).trans e1
    · show a + Ar.cost n + _ ≤ (Ar.put _ _ _).length
      rw [e1]; omega
    · have : a + Ar.cost n + ((Ar.headAt S.mem a).size - Ar.cost n) = a + (Ar.headAt S.mem a).size := by omega
      rw [this]; exact a3
  · exact e1
theorem settle_used (S : Ar.St) (a h n : Nat) : (Ar.settle S a h n).used = S.used := by
  have h1 : (Ar.takeFree S a).used = S.used := by
    unfold Ar.takeFree
    split
    · rfl
    · split <;> rfl
  unfold Ar.settle
  simp only
  split
  · exact h1
  · exact h1
set_option maxHeartbeats 8000000 in
theorem alloc_any (A : Nat) (L : Loc) (S : Ar.St) (pcs : List Ar.Pc) (f : Nat → Prop) (n cn : Nat) (w : World) (hA : ArE A L S f w) (I : Ar.Inv S pcs) (hn : n ≤ 4096) (hc : Ar.cost n = cn) (hl : cn ≤ S.mem.length - S.used) (hT : TabOk w) (hG : ¬ f 0) :
    Calls Tryd.prog 8 #[.pointer (some ⟨A, 0, none⟩), .int .i64 (n : Int)] w (AllocRet A S pcs n f w) := by
  have hs := I.sane
  have hg := Ar.cost_ge n hn
  have h16 : 16 ≤ cn := by omega
  have hcm : cn ≤ 8192 := by omega
  have hroom := room_any A L S pcs f n cn w hA I hn hc (by omega)
  unfold RoomRet at hroom
  have HRM := Lib.hid hroom
  have HC := Lib.hid hc
  obtain ⟨lf, hlf⟩ : ∃ lf, S.mem.length - S.used = lf := ⟨_, rfl⟩
  have hll := left_any A L S f w hA hs.mem hs.used
  have HLE := Lib.hid hl
  rw [hlf] at hll hl
  have HLL := Lib.hid hll
  have hne : ((cn : Int) == 0) = false := by rw [beq_eq_false_iff_ne]; omega
  have hml := hs.mem
  have hlf2 : lf ≤ 1048576 := by omega
  have HI := Lib.hid I
  clear hA hlf hll hroom hc hg I
  go_enter Tryd.func8, Tryd.ntmps8
  go_wp2_with (first
    | (go_at_call 20; (with_reducible refine (cost_at n cn _ hn HC.out).mono ?_); rintro e w' ⟨rfl, rfl⟩)
    | (go_at_call 22; (with_reducible refine HLL.out.mono ?_); rintro e w' ⟨rfl, rfl⟩)
    | (go_at_call 27; (refine HRM.out.mono ?_); rintro e w1 ⟨L1, S1, xs, p, ys, rfl, hA1, I1, hb1, hm1, hf1, hp1⟩; refine Hid.out ?_))
  refine Lib.hid ?_
  have hu1 : S1.used = S.used := by rw [I1.used, hb1, HI.out.used]
  have hleft1 : 16 ≤ S1.mem.length - S1.used := by rw [hm1, hu1]; have := HLE.out; omega
  obtain ⟨l, l1, l2, l3, l4⟩ := I1.handle hleft1
  have hs1 := I1.sane
  have hend := alloc_end (A := A) (S := S) (pcs := pcs) (f := f) (w := w) I1 hb1 hm1 hf1 hp1 hn l1 l3 l4
  obtain ⟨⟨y1, y2, y3, y4, y5, y6, y7, y8, y9⟩, hE⟩ := hend
  have hn1 := (Ar.nextH_spec I1.tab l1 l3 l4).1
  have htl := I1.tab.lim
  have hlim1 := I1.lim
  have hus1 := hs1.used
  have hlen1 : (Ar.settle (Ar.takeH S1 l (Ar.total xs)) (Ar.total xs) (Ar.nextH S1 l + 1) n).mem.length = S.mem.length := by
    rw [settle_len hn (by show Ar.total xs + Ar.cost n ≤ S1.mem.length; omega) (fun hlt => by
      have e : Ar.headAt (Ar.takeH S1 l (Ar.total xs)).mem (Ar.total xs) = p.hd (Ar.lastT 0 xs) := y2
      rw [e] at hlt ⊢
      have e2 : (p.hd (Ar.lastT 0 xs)).size = p.takes := y4
      rw [e2] at hlt ⊢
      have hc2 := Ar.cost_ge n hn
      have hp2 := I1.ok p (by simp)
      have := hp2.m16
      exact ⟨by omega, y3, y5⟩)]
    exact hm1
  have HE := Lib.hid (fun L' w' h => hE L' w' h hlen1)
  have HTK : Hid (∀ (w2 : World) (g : Nat → Prop), ArE A L1 S1 g w2 → TabOk w2 → ¬ g 0 → Calls Tryd.prog 28 #[.pointer (some ⟨A, 2, none⟩), .int .i64 (Ar.total xs : Int)] w2 fun e w' => e = .returned (.int .i64 ((Ar.nextH S1 l + 1 : Nat) : Int)) ∧ Trn g w2 w' ∧ ArE A L1 (Ar.takeH S1 l (Ar.total xs)) g w') := Lib.hid (fun w2 g hA2 hT2 hG2 => take_any A L1 S1 g l (Ar.total xs) w2 hA2 l1 l2 (fun j _ h => l3 j h) l4 hs1.pl hs1.plus (by omega) hT2 hG2)
  have HST := Lib.hid (fun (w2 : World) (g : Nat → Prop) (hA2 : ArE A L1 (Ar.takeH S1 l (Ar.total xs)) g w2) => settle_any A L1 (Ar.takeH S1 l (Ar.total xs)) g (Ar.total xs) (Ar.nextH S1 l + 1) n w2 hA2 hlim1 y1 (by show (Ar.headAt S1.mem _).free = true; rw [y2]; exact hf1) hn (by omega) (by show Ar.total xs + Ar.cost n ≤ S1.mem.length; omega) (by show Ar.cost n ≤ (Ar.headAt S1.mem _).size; rw [y2]; show Ar.cost n ≤ p.size; rw [y4]; exact hp1) (by
    intro hlt
    have e : Ar.headAt (Ar.takeH S1 l (Ar.total xs)).mem (Ar.total xs) = p.hd (Ar.lastT 0 xs) := y2
    rw [e] at hlt ⊢
    have e2 : (p.hd (Ar.lastT 0 xs)).size = p.takes := y4
    rw [e2] at hlt ⊢
    have hc2 := Ar.cost_ge n hn
    have hp2 := I1.ok p (by simp)
    have := hp2.m16
    exact ⟨by omega, y3, y5⟩) (by
    have e : Ar.headAt (Ar.takeH S1 l (Ar.total xs)).mem (Ar.total xs) = p.hd (Ar.lastT 0 xs) := y2
    rw [e]; exact y6) (by show S1.nd.length < 200000; have := I1.nd; omega) y7 y8 (by omega))
  have HA1 := Lib.hid hA1
  have hsu : (Ar.settle (Ar.takeH S1 l (Ar.total xs)) (Ar.total xs) (Ar.nextH S1 l + 1) n).used = S1.used := settle_used ..
  have HSU := Lib.hid hsu
  have hT1 := hT.trn HA1.out.trn hG
  have HT1 := Lib.hid hT1
  have hG1 : ¬ five A L1 0 := fun e => by
    have h1 := five_of HA1.out.ar e
    rcases h1 with h1 | h1
    · exact hG h1
    · have := cell_lt (hT 0 (by decide)); simp at this; omega
  clear hE hA1 hsu y1 y2 y3 y4 y5 y6 y7 y8 y9 l2 l3 hm1 hb1 I1 hT hT1 hlen1 hp1 hleft1 hu1 l1 l4
  generalize Ar.takeH S1 l (Ar.total xs) = T1 at *
  generalize Ar.nextH S1 l = k at *
  generalize Ar.total xs = V at *
  generalize Ar.settle T1 V (k + 1) n = T2 at *
  generalize S1.used = u at *
  rw [HC.out] at HE
  go_wp2_with (first
    | (go_at_call 28; (refine (HTK.out _ _ HA1.out.ar.tight HT1.out hG1).mono ?_); rintro e w2 ⟨rfl, ht2, hA2⟩; have HA2 := Lib.hid (HA1.out.call ht2 hA2); clear ht2 hA2)
    | (go_at_call 29; (refine (HST.out _ _ HA2.out.ar.tight).mono ?_); rintro e w3 ⟨rfl, L3, hA3⟩; have HA3 := Lib.hid (HA2.out.callR hA3); clear hA3; refine Hid.out ?_))
  refine Lib.hid ?_
  have y3 := HA3.out.ar.cells.2.1
  have f3 := HA3.out.ar.box.frozen 1
  rw [HSU.out] at y3
  unfold encI at y3
  go_wp2
  clear y3 f3
  have HA4 := Lib.hid (HA3.out.call (Trn.set HA3.out.ar.box (.inl rfl) 1 (encI (u + cn))) (HA3.out.ar.tight.setBox (S' := { T2 with used := u + cn }) 1 (encI (u + cn)) rfl rfl rfl rfl rfl))
  rw [show encI (u + cn) = .int .i64 ((u : Int) + (cn : Int)) by unfold encI; rw [Int.natCast_add]] at HA4
  generalize World.setCell w3 _ _ = W5 at HA4 ⊢
  go_ret2
  exact HE.out _ _ HA4.out
end Go.Proofs.YtagjjpmhacknpaaDoor

/- Free, in memory. -/
set_option maxRecDepth 100000
namespace Go.Proofs.YtagjjpmhacknpaaDoor
open Go.RowKit Go.Shelf
/-- What Free leaves. -/
def FreeRet (A : Nat) (S : Ar.St) (pcs : List Ar.Pc) (h : Int) (f : Nat → Prop) (w : World) (e : Ending) (w' : World) : Prop :=
  e = .returned (.int .i64 0) ∧ ∃ L' S' pcs' B1 B2 p, Ars A L' S' f w w' ∧ Ar.Inv S' pcs' ∧ S'.mem.length = S.mem.length ∧ Ar.blocks pcs = B1 ++ p :: B2 ∧ Ar.blocks pcs' = B1 ++ B2 ∧ (p.owner : Int) = h
theorem Ars.cell1 {A : Nat} {L : Loc} {S : Ar.St} {f : Nat → Prop} {w w1 : World} (h : Ars A L S f w w1) : w1.cell? ⟨A, 1, none⟩ = some (.int .i64 (S.used : Int)) := h.ar.cells.2.1
set_option maxHeartbeats 4000000 in
theorem free_any (A : Nat) (L : Loc) (S : Ar.St) (pcs : List Ar.Pc) (f : Nat → Prop) (h : Int) (v : Nat) (w : World) (hA : ArE A L S f w) (I : Ar.Inv S pcs) (hq : Ar.PlaceOf S h = some v) :
    Calls Tryd.prog 10 #[.pointer (some ⟨A, 0, none⟩), .int .i64 h] w (FreeRet A S pcs h f w) := by
  have hs := I.sane
  obtain ⟨xs, p, ys, k, rfl, rfl, hf, hk, hz, hkl⟩ := I.block_pos hq
  obtain ⟨rest, q, bq, S1, ys1, raw1, a1, E1, sp1, r, br, S2, xs2, raw2, E2, sp2, R, Lr, ok3, hh, hkl2, pcs', hinv, hbl⟩ := Ar.free_math I hf hk
  have hlen := I.len
  have hpo := I.ok p (by simp)
  have hlim := I.lim
  rw [Ar.total_app] at hlen
  simp only [Ar.total] at hlen
  have hp16 := hpo.ge
  have htk := Ar.head_takes hpo (Ar.lastT 0 xs)
  have hus : p.takes ≤ S.used := by
    rw [I.used, Ar.blocks_app, Ar.blocks_block ys hf, Ar.sumT_app, Ar.sumT_cons]; omega
  have hul := hs.used
  have hs1 : ((S.used - p.takes : Nat) : Int) = (S.used : Int) - (p.takes : Int) := by omega
  have HS1 := Lib.hid hs1
  have hle : Ar.lastT 0 xs ≤ Ar.total xs := Lr.le
  have hrel := fun (w : World) (L : Loc) (g : Nat → Prop) (hA : ArE A L (Ar.freed S p.takes k) g w) => release_any A L (Ar.freed S p.takes k) S1 S2 g (Ar.total xs) p.takes (p.hd (Ar.lastT 0 xs)) q r bq br w hA hlim (by show _ ≤ S.mem.length; omega) hh htk (by omega) hle R.took R.take R.ok Lr.took Lr.take Lr.ok R.q Lr.r ok3
  have HREL := Lib.hid hrel
  have hend : ∀ L' w', Ars A L' (Ar.relEnd S2 (Ar.total xs) (p.hd (Ar.lastT 0 xs)) (Ar.relSize p.takes q bq) r br) f w w' → FreeRet A S (xs ++ p :: ys) h f w (.returned (.int .i64 0)) w' := fun L' w' hA' => by
    refine ⟨rfl, L', _, pcs', Ar.blocks xs, Ar.blocks ys, p, hA', hinv, ?_, by rw [Ar.blocks_app, Ar.blocks_block ys hf], hbl, by rw [hk]; exact hz.symm⟩
    have hl' := hinv.len
    have m1 := R.mem
    have m2 := Lr.nd.2
    have : (Ar.relEnd S2 (Ar.total xs) (p.hd (Ar.lastT 0 xs)) (Ar.relSize p.takes q bq) r br).mem.length = S2.mem.length := by
      cases br
      · exact Ar.putFree_len _ _ _ _ ok3.1 ok3.2.1 ok3.2.2.1
      · exact Ar.putFree_len _ _ _ _ ok3.1 ok3.2.1 ok3.2.2.1
    rw [this, m2, m1]; rfl
  have HEND := Lib.hid hend
  have HZ : Hid (h = (k : Int) + 1) := Lib.hid (by rw [hz]; omega)
  have HH := Lib.hid hh
  have HTK := Lib.hid htk
  have HA := Lib.hid (Ars.start hA)
  have HQ := Lib.hid hq
  have htab := I.tab
  have HTB := Lib.hid htab
  generalize Ar.lastT 0 xs = a0 at *
  generalize hV : Ar.total xs = V at *
  clear hz hA hq hh htk hrel hend R Lr ok3 hinv hbl hV I hs1 hpo htab
  obtain ⟨fr, mk, ow, sz, da⟩ := p
  simp only [Ar.Pc.hd] at HH HTK HREL HEND
  simp only at hf hk
  subst hf
  subst hk
  generalize (Ar.Pc.mk false mk (k + 1) sz da).takes = tk at *
  go_enter Tryd.func10, Tryd.ntmps10
  go_wp2_with (go_at_call 31; (with_reducible refine (block_some A L S _ _ V _ HA.out.ar hs HQ.out).mono ?_); rintro e w' ⟨rfl, n, rfl⟩; have HA0 := Lib.hid (HA.out.drew n); refine Hid.out ?_)
  refine Lib.hid ?_
  generalize w.drewN n = W0 at HA0 ⊢
  have HA1 := Lib.hid (HA0.out.drw)
  have y0 := HA0.out.cell1
  have f0 := HA0.out.ar.box.frozen 1
  have hwr : IntKind.i64.wrap ((S.used : Int) - (tk : Int)) = ((S.used - tk : Nat) : Int) := by rw [HS1.out, IntKind.wrap_i64]; omega
  have HWR := Lib.hid hwr
  clear hwr
  go_wp2
  go_region_with (first
    | (go_at_call 32; refine (head_agg A L S _ _ V ⟨false, mk, k + 1, sz, a0⟩ _ rfl HA1.out.ar hlim (by omega) HH.out).mono ?_; rintro e w1 ⟨rfl, hb1⟩; have HA2 := Lib.hid (HA1.out.below hb1); have y2 := HA2.out.cell1; clear hb1)
    | (go_at_call 33; refine (takes_agg ⟨false, mk, k + 1, sz, a0⟩ tk _ HTK.out).mono ?_; rintro e w2 ⟨rfl, hb2⟩; have HA3 := Lib.hid (HA2.out.below hb2); have y3 := HA3.out.cell1; have f3 := HA3.out.ar.box.frozen 1; clear hb2))
  all_goals
    rw [HWR.out]
    clear y0 f0 y2 y3 f3
    have HA4 := Lib.hid (HA3.out.call (Trn.set HA3.out.ar.box (.inl rfl) 1 (encI (S.used - tk))) (HA3.out.ar.tight.setBox (S' := { S with used := S.used - tk }) 1 (encI (S.used - tk)) rfl rfl rfl rfl rfl))
    unfold encI at HA4
    generalize World.setCell w2 _ _ = W5 at HA4 ⊢
    clear HA3 HA2 HA1 HA0
    go_wp2_with (first
      | (go_at_call 34; (refine (hdrop_any A L { S with used := S.used - tk } _ h k _ HZ.out HA4.out.ar.tight hkl hs.pl hs.plus hs.us hs.low).mono ?_); rintro e w6 ⟨rfl, ht6, hA6⟩; have HA6 := Lib.hid (HA4.out.call ht6 hA6); clear ht6 hA6)
      | (go_at_call 35; (refine (HREL.out _ L _ HA6.out.ar.tight).mono ?_); rintro e w7 ⟨rfl, L7, hA7⟩; have HA7 := Lib.hid (HA6.out.callR hA7); clear hA7))
    go_ret
    exact HEND.out _ _ HA7.out
end Go.Proofs.YtagjjpmhacknpaaDoor
