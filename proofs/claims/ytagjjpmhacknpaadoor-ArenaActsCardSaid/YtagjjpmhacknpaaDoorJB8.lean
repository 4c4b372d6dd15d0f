/- 4 texts put together: Relm, Relf, Ablk, Hnm. -/
import Derived.Test.YtagjjpmhacknpaaDoorJB7
/- release, on pieces. -/
set_option maxRecDepth 100000
namespace Go.Proofs.YtagjjpmhacknpaaDoor
namespace Ar
/-- The memory with a gap, and its free pieces. -/
structure Gap (S : St) (xs : List Pc) (raw : List UInt8) (a' : Nat) (ys : List Pc) (rest : List UInt8) (E : Nat → Option (Nat × Nat)) (sp : List Nat) : Prop where
  mem : S.mem = lay 0 xs ++ raw ++ lay a' ys ++ rest
  rest : rest.length < 16
  lim : S.mem.length ≤ 1048576
  oxs : ∀ p ∈ xs, p.Ok
  oys : ∀ p ∈ ys, p.Ok
  a' : a' ≤ 1048576
  ch : Ch S.nd S.spare E sp
  fr : Frees E xs raw.length ys
  nd : S.nd.length < 190000
theorem Gap.len {S : St} {xs ys : List Pc} {raw rest : List UInt8} {a' : Nat} {E : Nat → Option (Nat × Nat)} {sp : List Nat} (h : Gap S xs raw a' ys rest E sp) : S.mem.length = total xs + raw.length + total ys + rest.length := by rw [h.mem]; simp [lay_len]; omega
theorem Gap.fin {S : St} {xs ys : List Pc} {raw rest : List UInt8} {a' : Nat} {E : Nat → Option (Nat × Nat)} {sp : List Nat} (h : Gap S xs raw a' ys rest E sp) (hr : raw.length % 16 = 0) : fin S = total xs + raw.length + total ys := by
  have := h.len
  have := total_mod h.oxs
  have := total_mod h.oys
  have := h.rest
  unfold Ar.fin
  omega
/-- The head of the piece behind the gap. -/
theorem Gap.headR {S : St} {xs ys : List Pc} {raw rest : List UInt8} {a' : Nat} {E : Nat → Option (Nat × Nat)} {sp : List Nat} {q : Pc} (h : Gap S xs raw a' (q :: ys) rest E sp) : headAt S.mem (total xs + raw.length) = q.hd a' := by
  have hl := h.len
  simp only [total] at hl
  have hlim := h.lim
  have hf := hd_fits (p := q) (a := a') (m := 0) (h.oys q (List.mem_cons_self ..)) (by omega) h.a' rfl
  have h3 := headAt_app (lay 0 xs ++ raw) q.data (lay q.takes ys ++ rest) (q.hd a') hf
  rw [List.length_append, lay_len] at h3
  rw [h.mem]
  have e : lay 0 xs ++ raw ++ lay a' (q :: ys) ++ rest = (lay 0 xs ++ raw) ++ (byte8 (q.hd a').word ++ q.data) ++ (lay q.takes ys ++ rest) := by simp only [lay, Pc.bytes, List.append_assoc]
  rw [e]; exact h3
/-- The head of the piece ahead of the gap. -/
theorem Gap.headL {S : St} {xs ys : List Pc} {raw rest : List UInt8} {a' : Nat} {E : Nat → Option (Nat × Nat)} {sp : List Nat} {r : Pc} (h : Gap S (xs ++ [r]) raw a' ys rest E sp) : headAt S.mem (total xs) = r.hd (lastT 0 xs) := by
  have hl := h.len
  rw [total_app] at hl
  simp only [total] at hl
  have hlim := h.lim
  have hf := hd_fits (p := r) (a := lastT 0 xs) (m := 0) (h.oxs r (by simp)) (by omega) (lastT_le (by omega) (by omega)) rfl
  have h3 := headAt_app (lay 0 xs) r.data (raw ++ lay a' ys ++ rest) (r.hd (lastT 0 xs)) hf
  rw [lay_len] at h3
  rw [h.mem, lay_app]
  have e : lay 0 xs ++ lay (lastT 0 xs) [r] ++ raw ++ lay a' ys ++ rest = lay 0 xs ++ (byte8 (r.hd (lastT 0 xs)).word ++ r.data) ++ (raw ++ lay a' ys ++ rest) := by simp only [lay, Pc.bytes, List.append_assoc, List.append_nil]
  rw [e]; exact h3
/-- What is left when the piece behind the gap is taken into it. -/
theorem Gap.right {S : St} {xs ys : List Pc} {raw rest : List UInt8} {a' : Nat} {E : Nat → Option (Nat × Nat)} {sp : List Nat} {q : Pc} (h : Gap S xs raw a' (q :: ys) rest E sp) (hf : q.free = true) :
    Gap { S with nd := dropN S.nd q.owner S.spare, spare := q.owner } xs (raw ++ q.bytes a') q.takes ys rest (off E q.owner) (q.owner :: sp) ∧ q.owner < S.nd.length ∧ (nodeAt S.nd q.owner).n < S.nd.length ∧ (nodeAt S.nd q.owner).l < S.nd.length := by
  obtain ⟨hE, hF⟩ := frees_off (u := total xs + raw.length) h.fr hf (fun v p => atG_cons xs ys raw.length q v p) (fun p hp => atG_gap hp (by omega) (by have := takes_pos q; omega))
  have hl := h.len
  simp only [total] at hl
  have hlim := h.lim
  refine ⟨⟨?_, h.rest, h.lim, h.oxs, fun p hp => h.oys p (List.mem_cons_of_mem _ hp), by omega, h.ch.drop hE, ?_, ?_⟩, h.ch.node hE⟩
  · rw [show ({ S with nd := dropN S.nd q.owner S.spare, spare := q.owner } : St).mem = S.mem from rfl, h.mem]
    simp only [lay, List.append_assoc]
  · rw [List.length_append, bytes_len]; exact hF
  · show (dropN _ _ _).length < _
    rw [dropN_len]; exact h.nd
theorem Gap.left {S : St} {xs ys : List Pc} {raw rest : List UInt8} {a' : Nat} {E : Nat → Option (Nat × Nat)} {sp : List Nat} {r : Pc} (h : Gap S (xs ++ [r]) raw a' ys rest E sp) (hf : r.free = true) :
    Gap { S with nd := dropN S.nd r.owner S.spare, spare := r.owner } xs (r.bytes (lastT 0 xs) ++ raw) a' ys rest (off E r.owner) (r.owner :: sp) ∧ r.owner < S.nd.length ∧ (nodeAt S.nd r.owner).n < S.nd.length ∧ (nodeAt S.nd r.owner).l < S.nd.length := by
  obtain ⟨hE, hF⟩ := frees_off (u := total xs) h.fr hf (fun v p => atG_snoc xs ys raw.length r v p) (fun p hp => atG_gap hp (by omega) (by have := takes_pos r; omega))
  refine ⟨⟨?_, h.rest, h.lim, fun p hp => h.oxs p (by simp [hp]), h.oys, h.a', h.ch.drop hE, ?_, ?_⟩, h.ch.node hE⟩
  · rw [show ({ S with nd := dropN S.nd r.owner S.spare, spare := r.owner } : St).mem = S.mem from rfl, h.mem, lay_app]
    simp only [lay, List.append_assoc, List.append_nil]
  · rw [List.length_append, bytes_len]; exact hF
  · show (dropN _ _ _).length < _
    rw [dropN_len]; exact h.nd
/-- putFree fills the gap. -/
theorem Gap.fill {S : St} {xs ys : List Pc} {raw rest : List UInt8} {a' : Nat} {E : Nat → Option (Nat × Nat)} {sp : List Nat} (h : Gap S xs raw a' ys rest E sp) (h16 : 16 ≤ raw.length) (hr16 : raw.length % 16 = 0) :
    PutOk S (total xs) raw.length (lastT 0 xs) ∧ ∃ k E' sp', k < 1048576 ∧ (putFree S (total xs) raw.length (lastT 0 xs)).mem = lay 0 (xs ++ mkFree k raw :: ys) ++ rest ∧ Ch (putFree S (total xs) raw.length (lastT 0 xs)).nd (putFree S (total xs) raw.length (lastT 0 xs)).spare E' sp' ∧ Frees E' xs 0 (mkFree k raw :: ys) := by
  have hl := h.len
  have hlim := h.lim
  have htx := total_mod h.oxs
  have hcl := (cls_spec (s := raw.length) h16 (by omega)).2.2
  have hcc := h.ch.class (c := cls raw.length) (by omega)
  obtain ⟨f1, f2, f3, f4, f5⟩ := h.ch.fresh (cls raw.length) (total xs)
  obtain ⟨sp', hch⟩ := h.ch.push (c := cls raw.length) (total xs) (by omega)
  have hnd := h.nd
  refine ⟨⟨h16, by omega, by omega, lastT_le (by omega) (by omega), hcc.1, hcc.2, h.ch.spare_lt, by omega⟩, (push S.nd S.spare (cls raw.length) (total xs)).k, _, sp', by omega, putFree_mem S xs ys raw rest a' h.mem h.rest h16 hr16 h.oxs h.oys h.a' h.lim, hch, frees_fill h.fr (by omega) f2⟩
end Ar
end Go.Proofs.YtagjjpmhacknpaaDoor

/- release, on pieces: the whole. -/
set_option maxRecDepth 100000
namespace Go.Proofs.YtagjjpmhacknpaaDoor
namespace Ar
def blocks (xs : List Pc) : List Pc := xs.filter fun p => !p.free
theorem blocks_app (xs ys : List Pc) : blocks (xs ++ ys) = blocks xs ++ blocks ys := List.filter_append ..
theorem blocks_free {p : Pc} (xs : List Pc) (h : p.free = true) : blocks (p :: xs) = blocks xs := by unfold blocks; rw [List.filter_cons]; simp [h]
theorem blocks_block {p : Pc} (xs : List Pc) (h : p.free = false) : blocks (p :: xs) = p :: blocks xs := by unfold blocks; rw [List.filter_cons]; simp [h]
theorem head_takes {p : Pc} (h : p.Ok) (a : Nat) : (p.hd a).takes = p.takes := by
  unfold Head.takes Pc.hd
  simp only
  cases hf : p.free
  · simp only [Bool.false_eq_true, if_false]
    rw [costI_nat (h.bl hf).1]; exact (h.bl hf).2
  · simp only [if_true]; exact h.fr hf
/-- The piece itself becomes the gap. -/
theorem Gap.own {S : St} {xs ys : List Pc} {rest : List UInt8} {a' : Nat} {E : Nat → Option (Nat × Nat)} {sp : List Nat} {p : Pc} (h : Gap S xs [] a' (p :: ys) rest E sp) (hf : p.free = false) : Gap S xs (p.bytes a') p.takes ys rest E sp := by
  have hl := h.len
  simp only [total, List.length_nil] at hl
  have hlim := h.lim
  refine ⟨?_, h.rest, h.lim, h.oxs, fun q hq => h.oys q (List.mem_cons_of_mem _ hq), by omega, h.ch, ?_, h.nd⟩
  · rw [h.mem]; simp only [lay, List.append_assoc, List.append_nil]
  · rw [bytes_len]
    refine frees_skip (u := total xs) h.fr hf (fun v b => ?_)
    have := atG_cons xs ys 0 p v b
    simpa using this
/-- The step to the right. -/
structure RStep (S : St) (xs : List Pc) (p : Pc) (a0 : Nat) (ys : List Pc) (rest : List UInt8) (q : Head) (bq : Bool) (S1 : St) (ys1 : List Pc) (raw1 : List UInt8) (a1 : Nat) (E1 : Nat → Option (Nat × Nat)) (sp1 : List Nat) : Prop where
  took : tookFree S (total xs + p.takes) = (q, bq)
  take : takeFree S (total xs + p.takes) = S1
  ok : TakeOk S (total xs + p.takes)
  gap : Gap S1 xs raw1 a1 ys1 rest E1 sp1
  size : raw1.length = relSize p.takes q bq
  m16 : raw1.length % 16 = 0
  q : q.size ≤ 1048576
  pre : ∃ t, raw1 = p.bytes a0 ++ t
  at_ : ∀ v b, b.free = false → (AtG xs raw1.length ys1 v b ↔ AtG xs p.takes ys v b)
  bl : blocks ys1 = blocks ys
  mem : S1.mem = S.mem
  rem : S1.used = S.used ∧ S1.pl = S.pl ∧ S1.us = S.us ∧ S1.low = S.low
theorem right_step {S : St} {xs ys : List Pc} {rest : List UInt8} {a0 : Nat} {E : Nat → Option (Nat × Nat)} {sp : List Nat} {p : Pc} (h : Gap S xs [] a0 (p :: ys) rest E sp) (hf : p.free = false) :
    ∃ q bq S1 ys1 raw1 a1 E1 sp1, RStep S xs p a0 ys rest q bq S1 ys1 raw1 a1 E1 sp1 := by
  have g := h.own hf
  have hp := h.oys p (List.mem_cons_self ..)
  have hbl := bytes_len p a0
  have hfin := g.fin (by rw [hbl]; exact hp.m16)
  have hlen := g.len
  have hlim := g.lim
  rw [hbl] at hfin hlen
  have hnd := g.nd
  cases ys with
  | nil =>
    simp only [total, Nat.add_zero] at hfin
    refine ⟨⟨false, false, 0, 0, 0⟩, false, S, [], p.bytes a0, p.takes, E, sp, ?_, ?_, ?_, g, ?_, by rw [hbl]; exact hp.m16, by simp, ⟨[], by simp⟩, fun v b _ => by rw [hbl], rfl, rfl, rfl, rfl, rfl, rfl⟩
    · unfold tookFree; rw [if_pos hfin.symm]
    · unfold takeFree; rw [if_pos hfin.symm]
    · exact ⟨fun e => absurd hfin.symm e, fun e => absurd hfin.symm e, by omega⟩
    · rw [hbl]; rfl
  | cons q ys =>
    have hq := h.oys q (List.mem_cons_of_mem _ (List.mem_cons_self ..))
    have hqp := hq.ge
    simp only [total] at hfin hlen
    have hne : ¬ (total xs + p.takes = fin S) := by omega
    have hh := g.headR
    rw [hbl] at hh
    have hft : (q.hd p.takes).fits := hd_fits (m := 0) hq (by omega) (by omega) rfl
    have hqs : (q.hd p.takes).size ≤ 1048576 := by
      show q.size ≤ _
      cases hf2 : q.free
      · have := (hq.bl hf2).1; omega
      · have := hq.fr hf2; omega
    cases hqf : q.free with
    | true =>
      obtain ⟨g2, n1, n2, n3⟩ := g.right hqf
      refine ⟨q.hd p.takes, true, _, ys, _, _, _, _, ?_, ?_, ?_, g2, ?_, ?_, hqs, ⟨_, rfl⟩, fun v b hb => ?_, (blocks_free ys hqf).symm, rfl, rfl, rfl, rfl, rfl⟩
      · unfold tookFree; rw [if_neg hne, hh]; exact Prod.ext rfl hqf
      · unfold takeFree; rw [if_neg hne, hh, if_pos (show (q.hd p.takes).free = true from hqf)]; rfl
      · refine ⟨fun _ => by omega, fun _ _ => ?_, by omega⟩
        rw [hh]; exact ⟨n1, n2, n3⟩
      · rw [List.length_append, hbl, bytes_len]
        show p.takes + q.takes = p.takes + q.size
        rw [hq.fr hqf]
      · rw [List.length_append, hbl, bytes_len]; have := hp.m16; have := hq.m16; omega
      · rw [List.length_append, hbl, bytes_len, atG_cons]
        constructor
        · exact .inl
        · rintro (h1 | ⟨_, rfl⟩)
          · exact h1
          · rw [hqf] at hb; cases hb
    | false =>
      refine ⟨q.hd p.takes, false, S, q :: ys, p.bytes a0, p.takes, E, sp, ?_, ?_, ?_, g, by rw [hbl]; rfl, by rw [hbl]; exact hp.m16, hqs, ⟨[], by simp⟩, fun v b _ => by rw [hbl], rfl, rfl, rfl, rfl, rfl, rfl⟩
      · unfold tookFree; rw [if_neg hne, hh]; exact Prod.ext rfl hqf
      · unfold takeFree; rw [if_neg hne, hh, if_neg (by show ¬ q.free = true; rw [hqf]; decide)]
      · refine ⟨fun _ => by omega, fun _ h2 => ?_, by omega⟩
        rw [hh] at h2
        have : q.free = true := h2
        rw [hqf] at this; cases this
/-- The step to the left. -/
structure LStep (S1 : St) (xs : List Pc) (p : Pc) (raw1 : List UInt8) (a1 : Nat) (ys1 : List Pc) (rest : List UInt8) (r : Head) (br : Bool) (S2 : St) (xs2 : List Pc) (raw2 : List UInt8) (E2 : Nat → Option (Nat × Nat)) (sp2 : List Nat) : Prop where
  le : lastT 0 xs ≤ total xs
  took : tookFree S1 (total xs - lastT 0 xs) = (r, br)
  take : takeFree S1 (total xs - lastT 0 xs) = S2
  ok : TakeOk S1 (total xs - lastT 0 xs)
  gap : Gap S2 xs2 raw2 a1 ys1 rest E2 sp2
  pos : (br = true → total xs2 = total xs - lastT 0 xs ∧ lastT 0 xs2 = r.ahead ∧ raw2.length = raw1.length + r.size) ∧ (br = false → xs2 = xs ∧ raw2 = raw1)
  m16 : raw2.length % 16 = 0
  r : r.size ≤ 1048576
  at_ : ∀ v b, b.free = false → (AtG xs2 raw2.length ys1 v b ↔ AtG xs raw1.length ys1 v b)
  bl : blocks xs2 = blocks xs
  rem : S2.used = S1.used ∧ S2.pl = S1.pl ∧ S2.us = S1.us ∧ S2.low = S1.low
theorem lastT_snoc (xs : List Pc) (r : Pc) (a : Nat) : lastT a (xs ++ [r]) = r.takes := by rw [lastT_app]; rfl
theorem left_step {S1 : St} {xs ys1 : List Pc} {raw1 rest : List UInt8} {a0 a1 : Nat} {E1 : Nat → Option (Nat × Nat)} {sp1 : List Nat} {p : Pc} (g : Gap S1 xs raw1 a1 ys1 rest E1 sp1) (hp : p.Ok) (hf : p.free = false) (ha0 : a0 ≤ 1048576) (h16 : raw1.length % 16 = 0) (hpre : ∃ t, raw1 = p.bytes a0 ++ t) :
    ∃ r br S2 xs2 raw2 E2 sp2, LStep S1 xs p raw1 a1 ys1 rest r br S2 xs2 raw2 E2 sp2 := by
  obtain ⟨t, ht⟩ := hpre
  have hbl := bytes_len p a0
  have hpg := hp.ge
  have hrl : 16 ≤ raw1.length := by rw [ht, List.length_append, hbl]; omega
  have hfin := g.fin h16
  have hlen := g.len
  have hlim := g.lim
  have hnd := g.nd
  rcases List.eq_nil_or_concat xs with rfl | ⟨xs', r, hx⟩
  · have hh : headAt S1.mem 0 = p.hd a0 := by
      have hfit := hd_fits (p := p) (a := a0) (m := 0) hp (by rw [ht, List.length_append, hbl] at hlen; omega) ha0 rfl
      have := headAt_app [] p.data (t ++ lay a1 ys1 ++ rest) (p.hd a0) hfit
      rw [g.mem, ht]
      simp only [lay, List.nil_append, List.append_assoc, Pc.bytes, List.length_nil] at this ⊢
      exact this
    simp only [total] at hfin hlen
    have hne : ¬ ((0 : Nat) - 0 = fin S1) := by omega
    refine ⟨p.hd a0, false, S1, [], raw1, E1, sp1, Nat.le_refl _, ?_, ?_, ?_, g, ⟨(fun e => by cases e), fun _ => ⟨rfl, rfl⟩⟩, h16, ?_, fun _ _ _ => Iff.rfl, rfl, rfl, rfl, rfl, rfl⟩
    · show tookFree S1 (0 - 0) = _
      unfold tookFree; rw [if_neg hne, hh]; exact Prod.ext rfl hf
    · show takeFree S1 (0 - 0) = _
      unfold takeFree; rw [if_neg hne, hh, if_neg (by show ¬ p.free = true; rw [hf]; decide)]
    · show TakeOk S1 (0 - 0)
      refine ⟨fun _ => by omega, fun _ h2 => ?_, by omega⟩
      rw [hh] at h2
      have : p.free = true := h2
      rw [hf] at this; cases this
    · show p.size ≤ _
      have := (hp.bl hf).1; omega
  · rw [List.concat_eq_append] at hx
    subst hx
    have hr := g.oxs r (by simp)
    have hrg := hr.ge
    have hh := g.headL
    rw [total_app] at hfin hlen
    simp only [total, Nat.add_zero] at hfin hlen
    have hpos : total (xs' ++ [r]) - lastT 0 (xs' ++ [r]) = total xs' := by rw [total_app, lastT_snoc]; simp [total]
    have hle : lastT 0 (xs' ++ [r]) ≤ total (xs' ++ [r]) := by rw [total_app, lastT_snoc]; simp [total]
    have hne : ¬ (total xs' = fin S1) := by omega
    have hrs : (r.hd (lastT 0 xs')).size ≤ 1048576 := by
      show r.size ≤ _
      cases hf2 : r.free
      · have := (hr.bl hf2).1; omega
      · have := hr.fr hf2; omega
    cases hrf : r.free with
    | true =>
      obtain ⟨g2, n1, n2, n3⟩ := g.left hrf
      refine ⟨r.hd (lastT 0 xs'), true, _, xs', _, _, _, hle, ?_, ?_, ?_, g2, ⟨fun _ => ⟨hpos.symm, rfl, ?_⟩, (fun e => by cases e)⟩, ?_, hrs, fun v b hb => ?_, ?_, rfl, rfl, rfl, rfl⟩
      · rw [hpos]; unfold tookFree; rw [if_neg hne, hh]; exact Prod.ext rfl hrf
      · rw [hpos]; unfold takeFree; rw [if_neg hne, hh, if_pos (show (r.hd (lastT 0 xs')).free = true from hrf)]; rfl
      · rw [hpos]
        refine ⟨fun _ => by omega, fun _ _ => ?_, by omega⟩
        rw [hh]; exact ⟨n1, n2, n3⟩
      · rw [List.length_append, bytes_len]
        show r.takes + raw1.length = raw1.length + r.size
        rw [hr.fr hrf]; omega
      · rw [List.length_append, bytes_len]; have := hr.m16; omega
      · rw [List.length_append, bytes_len, atG_snoc]
        constructor
        · exact .inl
        · rintro (h1 | ⟨_, rfl⟩)
          · exact h1
          · rw [hrf] at hb; cases hb
      · rw [blocks_app, blocks_free [] hrf]; simp [blocks]
    | false =>
      refine ⟨r.hd (lastT 0 xs'), false, S1, xs' ++ [r], raw1, E1, sp1, hle, ?_, ?_, ?_, g, ⟨(fun e => by cases e), fun _ => ⟨rfl, rfl⟩⟩, h16, hrs, fun _ _ _ => Iff.rfl, rfl, rfl, rfl, rfl, rfl⟩
      · rw [hpos]; unfold tookFree; rw [if_neg hne, hh]; exact Prod.ext rfl hrf
      · rw [hpos]; unfold takeFree; rw [if_neg hne, hh, if_neg (by show ¬ r.free = true; rw [hrf]; decide)]
      · rw [hpos]
        refine ⟨fun _ => by omega, fun _ h2 => ?_, by omega⟩
        rw [hh] at h2
        have : r.free = true := h2
        rw [hrf] at this; cases this
end Ar
end Go.Proofs.YtagjjpmhacknpaaDoor

/- block, Size, Used, Left, Budget, span. -/
set_option maxRecDepth 100000
namespace Go.Proofs.YtagjjpmhacknpaaDoor
open Go.RowKit Go.Shelf
namespace Ar
structure Sane (S : St) : Prop where
  mem : S.mem.length ≤ 1048576
  pl : S.pl.length ≤ 1000000
  plus : S.pl.length = 64 * S.us.length
  us : ∀ x ∈ S.us, x < 18446744073709551616
  place : ∀ x ∈ S.pl, x ≤ 1048576
  used : S.used ≤ S.mem.length
  low : S.low ≤ 1000000
end Ar
/-- The pointer that is no arena. -/
def nilA : Value := .pointer none
set_option maxHeartbeats 1000000 in
theorem block_any (A : Nat) (L : Loc) (S : Ar.St) (f : Nat → Prop) (h : Int) (w : World) (hA : ArE A L S f w) (hs : Ar.Sane S) :
    Calls Tryd.prog 31 #[.pointer (some ⟨A, 0, none⟩), .int .i64 h] w fun e w' => (match Ar.PlaceOf S h with | some a => e = .returned (.tuple #[.int .i64 (a : Int), .bool true]) | none => e = .returned (.tuple #[.int .i64 0, .bool false])) ∧ ∃ n, w' = w.drewN n := by
  have hp := place_any A L S f h w hA hs.pl hs.plus hs.us hs.place
  have HP := Lib.hid hp
  clear hp
  cases hq : Ar.PlaceOf S h with
  | none =>
    rw [hq] at HP
    go_enter Tryd.func31, Tryd.ntmps31
    go_wp2_with (go_at_call 54; (refine HP.out.mono ?_); rintro e w' ⟨rfl, n, rfl⟩; unfold optV encI)
    go_ret2
    exact ⟨rfl, _, rfl⟩
  | some a =>
    rw [hq] at HP
    go_enter Tryd.func31, Tryd.ntmps31
    go_wp2_with (go_at_call 54; (refine HP.out.mono ?_); rintro e w' ⟨rfl, n, rfl⟩; unfold optV encI)
    go_ret2
    exact ⟨rfl, _, rfl⟩
theorem block_none (A : Nat) (L : Loc) (S : Ar.St) (f : Nat → Prop) (h : Int) (w : World) (hA : ArE A L S f w) (hs : Ar.Sane S) (hq : Ar.PlaceOf S h = none) :
    Calls Tryd.prog 31 #[.pointer (some ⟨A, 0, none⟩), .int .i64 h] w fun e w' => e = .returned (.tuple #[.int .i64 0, .bool false]) ∧ ∃ n, w' = w.drewN n := by
  have := block_any A L S f h w hA hs
  rw [hq] at this
  exact this
theorem block_some (A : Nat) (L : Loc) (S : Ar.St) (f : Nat → Prop) (h : Int) (a : Nat) (w : World) (hA : ArE A L S f w) (hs : Ar.Sane S) (hq : Ar.PlaceOf S h = some a) :
    Calls Tryd.prog 31 #[.pointer (some ⟨A, 0, none⟩), .int .i64 h] w fun e w' => e = .returned (.tuple #[.int .i64 (a : Int), .bool true]) ∧ ∃ n, w' = w.drewN n := by
  have := block_any A L S f h w hA hs
  rw [hq] at this
  exact this
set_option maxHeartbeats 1000000 in
theorem block_nil (h : Int) (w : World) : Calls Tryd.prog 31 #[.pointer none, .int .i64 h] w fun e w' => e = .returned (.tuple #[.int .i64 0, .bool false]) ∧ w = w' := by
  go_enter Tryd.func31, Tryd.ntmps31
  go_wp2
  go_ret2
  exact ⟨rfl, rfl⟩
set_option maxHeartbeats 1000000 in
theorem used_any (A : Nat) (L : Loc) (S : Ar.St) (f : Nat → Prop) (w : World) (hA : ArE A L S f w) : Calls Tryd.prog 21 #[.pointer (some ⟨A, 0, none⟩)] w fun e w' => e = .returned (.int .i64 (S.used : Int)) ∧ w = w' := by
  have hc := hA.cells.2.1
  unfold encI at hc
  go_enter Tryd.func21, Tryd.ntmps21
  go_wp2
  go_ret
  exact ⟨rfl, rfl⟩
set_option maxHeartbeats 1000000 in
theorem used_nil (w : World) : Calls Tryd.prog 21 #[.pointer none] w fun e w' => e = .returned (.int .i64 0) ∧ w = w' := by
  go_enter Tryd.func21, Tryd.ntmps21
  go_wp2
  go_ret
  exact ⟨rfl, rfl⟩
set_option maxHeartbeats 1000000 in
theorem budget_any (A : Nat) (L : Loc) (S : Ar.St) (f : Nat → Prop) (w : World) (hA : ArE A L S f w) : Calls Tryd.prog 41 #[.pointer (some ⟨A, 0, none⟩)] w fun e w' => e = .returned (.int .i64 (S.mem.length : Int)) ∧ w = w' := by
  have hc := hA.cells.1
  go_enter Tryd.func41, Tryd.ntmps41
  go_wp2
  go_ret
  exact ⟨rfl, rfl⟩
set_option maxHeartbeats 1000000 in
theorem budget_nil (w : World) : Calls Tryd.prog 41 #[.pointer none] w fun e w' => e = .returned (.int .i64 0) ∧ w = w' := by
  go_enter Tryd.func41, Tryd.ntmps41
  go_wp2
  go_ret
  exact ⟨rfl, rfl⟩
set_option maxHeartbeats 1000000 in
theorem left_any (A : Nat) (L : Loc) (S : Ar.St) (f : Nat → Prop) (w : World) (hA : ArE A L S f w) (hm : S.mem.length ≤ 1048576) (hu : S.used ≤ S.mem.length) : Calls Tryd.prog 22 #[.pointer (some ⟨A, 0, none⟩)] w fun e w' => e = .returned (.int .i64 ((S.mem.length - S.used : Nat) : Int)) ∧ w = w' := by
  have HA := Lib.hid hA
  clear hA
  go_enter Tryd.func22, Tryd.ntmps22
  go_wp2_with (first
    | (go_at_call 41; (with_reducible refine (budget_any A L S f _ HA.out).mono ?_); rintro e w' ⟨rfl, rfl⟩)
    | (go_at_call 21; (with_reducible refine (used_any A L S f _ HA.out).mono ?_); rintro e w' ⟨rfl, rfl⟩))
  go_ret
  exact ⟨ret_int (by omega), rfl⟩
set_option maxHeartbeats 1000000 in
theorem left_nil (w : World) : Calls Tryd.prog 22 #[.pointer none] w fun e w' => e = .returned (.int .i64 0) ∧ w = w' := by
  go_enter Tryd.func22, Tryd.ntmps22
  go_wp2_with (first
    | (go_at_call 41; (with_reducible refine (budget_nil _).mono ?_); rintro e w' ⟨rfl, rfl⟩)
    | (go_at_call 21; (with_reducible refine (used_nil _).mono ?_); rintro e w' ⟨rfl, rfl⟩))
  go_ret
  exact ⟨rfl, rfl⟩
theorem below_drewn {w w' : World} {n : Nat} (h : Below (w.drewN n).heap.size (w.drewN n) w') : Below w.heap.size w w' := ⟨h.os, h.tape, h.output, h.size, fun k hk => h.block k hk⟩
theorem field_head (p : Ar.Head) (w : World) : (Instr.field 69 (.agg #[.bool p.free, .bool p.marked, .int .i64 (p.owner : Int), .int .i64 (p.size : Int), .int .i64 (p.ahead : Int)]) 3).run Tryd.prog w = .ok (.int .i64 (p.size : Int)) w := by kernel_rfl
set_option maxHeartbeats 1000000 in
theorem size_some (A : Nat) (L : Loc) (S : Ar.St) (f : Nat → Prop) (h : Int) (a : Nat) (p : Ar.Head) (w : World) (hA : ArE A L S f w) (hs : Ar.Sane S) (hq : Ar.PlaceOf S h = some a) (ha : a + 8 ≤ S.mem.length) (hp : Ar.headAt S.mem a = p) :
    Calls Tryd.prog 19 #[.pointer (some ⟨A, 0, none⟩), .int .i64 h] w fun e w' => e = .returned (.tuple #[.int .i64 (p.size : Int), .bool true]) ∧ Below w.heap.size w w' := by
  have hfd := field_head p
  have HA := Lib.hid hA
  clear hA
  have HQ := Lib.hid hq
  have HP := Lib.hid hp
  clear hq hp
  go_enter Tryd.func19, Tryd.ntmps19
  go_wp2_with (first
    | (go_at_call 31; (with_reducible refine (block_some A L S f h a _ HA.out hs HQ.out).mono ?_); rintro e w' ⟨rfl, n, rfl⟩)
    | (go_at_call 32; (with_reducible refine (head_agg A L S f _ a p _ rfl (HA.out.drew _) hs.mem ha HP.out).mono ?_); rintro e w' ⟨rfl, hb⟩))
  go_ret2
  exact ⟨rfl, below_drewn hb⟩
set_option maxHeartbeats 1000000 in
theorem size_none (A : Nat) (L : Loc) (S : Ar.St) (f : Nat → Prop) (h : Int) (w : World) (hA : ArE A L S f w) (hs : Ar.Sane S) (hq : Ar.PlaceOf S h = none) :
    Calls Tryd.prog 19 #[.pointer (some ⟨A, 0, none⟩), .int .i64 h] w fun e w' => e = .returned (.tuple #[.int .i64 0, .bool false]) ∧ ∃ n, w' = w.drewN n := by
  have HA := Lib.hid hA
  clear hA
  have HQ := Lib.hid hq
  clear hq
  go_enter Tryd.func19, Tryd.ntmps19
  go_wp2_with (first
    | (go_at_call 31; (with_reducible refine (block_none A L S f h _ HA.out hs HQ.out).mono ?_); rintro e w' ⟨rfl, n, rfl⟩))
  go_ret2
  exact ⟨rfl, _, rfl⟩
end Go.Proofs.YtagjjpmhacknpaaDoor

/- Handles: which are used. -/
set_option maxRecDepth 100000
namespace Go.Proofs.YtagjjpmhacknpaaDoor
namespace Ar
theorem bitOn_test' (us : List Nat) (h : Nat) : bitOn us h = (us.getD ((h - 1) / 64) 0).testBit ((h - 1) % 64) := by
  unfold bitOn
  rw [Nat.testBit_eq_decide_div_mod_eq]
theorem or_bit (x c i : Nat) : (x ||| 2 ^ c).testBit i = (x.testBit i || decide (c = i)) := by rw [Nat.testBit_or, Nat.testBit_two_pow]
theorem andNot_bit (x c i : Nat) (hc : c < 64) (hi : i < 64) : (x &&& (18446744073709551615 - 2 ^ c)).testBit i = (x.testBit i && !decide (c = i)) := by
  have h1 := Nat.testBit_two_pow_sub_succ (n := 64) (x := 2 ^ c) (Nat.pow_lt_pow_right (by decide) hc) i
  rw [show (2 : Nat) ^ 64 - (2 ^ c + 1) = 18446744073709551615 - 2 ^ c by omega] at h1
  rw [Nat.testBit_and, h1, Nat.testBit_two_pow]
  simp [hi]
theorem getD_set (l : List Nat) (i j x d : Nat) (hi : i < l.length) : (l.set i x).getD j d = if j = i then x else l.getD j d := by
  by_cases e : j = i
  · subst e; simp [hi]
  · simp [List.getD, List.getElem?_set_ne (Ne.symm e), e]
theorem placeOf_nat (S : St) (k : Nat) : PlaceOf S ((k + 1 : Nat) : Int) = if k < S.pl.length ∧ bitOn S.us (k + 1) = true then some (S.pl.getD k 0) else none := by
  unfold PlaceOf
  rw [Int.toNat_natCast, Nat.add_sub_cancel]
  by_cases h1 : k < S.pl.length
  · rw [if_pos ⟨by omega, by omega⟩]
    by_cases h2 : bitOn S.us (k + 1) = true
    · rw [if_pos h2, if_pos ⟨h1, h2⟩]
    · rw [if_neg h2, if_neg (fun h => h2 h.2)]
  · rw [if_neg (by omega), if_neg (fun h => h1 h.1)]
theorem placeOf_out (S : St) (h : Int) (hh : h < 1 ∨ (S.pl.length : Int) < h) : PlaceOf S h = none := by
  unfold PlaceOf; rw [if_neg (by omega)]
theorem placeOf_some {S : St} {h : Int} {v : Nat} (hp : PlaceOf S h = some v) : ∃ k, h = ((k + 1 : Nat) : Int) ∧ k < S.pl.length ∧ bitOn S.us (k + 1) = true ∧ S.pl.getD k 0 = v := by
  by_cases hh : h < 1 ∨ (S.pl.length : Int) < h
  · rw [placeOf_out S h hh] at hp; cases hp
  · obtain ⟨k, rfl⟩ : ∃ k : Nat, h = ((k + 1 : Nat) : Int) := ⟨h.toNat - 1, by omega⟩
    rw [placeOf_nat] at hp
    split at hp
    · rename_i h1; cases hp; exact ⟨k, rfl, h1.1, h1.2, rfl⟩
    · cases hp
/-- The table's own form. -/
structure Tab (S : St) : Prop where
  plus : S.pl.length = 64 * S.us.length
  lim : S.pl.length ≤ 100000
  us : ∀ x ∈ S.us, x < 18446744073709551616
  place : ∀ x ∈ S.pl, x ≤ 1048576
  low : S.low ≤ S.us.length
  full : ∀ j, j < S.low → S.us.getD j 0 = 18446744073709551615
theorem mem_set_or {l : List Nat} {i x y : Nat} (h : y ∈ l.set i x) : y ∈ l ∨ y = x := by
  rcases List.mem_or_eq_of_mem_set h with h | h
  · exact .inl h
  · exact .inr h
theorem Tab.drop {S : St} (h : Tab S) {k : Nat} (hk : k < S.pl.length) : Tab (dropHd S k) := by
  have hk2 : k / 64 < S.us.length := by have := h.plus; omega
  refine ⟨by simp [dropHd]; exact h.plus, h.lim, ?_, h.place, ?_, ?_⟩
  · intro x hx
    rcases mem_set_or hx with h1 | h1
    · exact h.us x h1
    · rw [h1]
      have h2 : S.us.getD (k / 64) 0 < 18446744073709551616 := by simp only [List.getD, List.getElem?_eq_getElem hk2, Option.getD_some]; exact h.us _ (List.getElem_mem hk2)
      exact Nat.lt_of_le_of_lt Nat.and_le_left h2
  · show min S.low (k / 64) ≤ (S.us.set _ _).length
    rw [List.length_set]; omega
  · intro j hj
    have hj2 : j < S.low ∧ j < k / 64 := by have : j < min S.low (k / 64) := hj; omega
    show (S.us.set _ _).getD j 0 = _
    rw [getD_set _ _ _ _ _ hk2, if_neg (by omega)]
    exact h.full j hj2.1
theorem placeOf_drop {S : St} (h : Tab S) {k : Nat} (hk : k < S.pl.length) (z : Int) : PlaceOf (dropHd S k) z = if z = ((k + 1 : Nat) : Int) then none else PlaceOf S z := by
  have hk2 : k / 64 < S.us.length := by have := h.plus; omega
  by_cases hz : z < 1 ∨ (S.pl.length : Int) < z
  · rw [placeOf_out S z hz, placeOf_out (dropHd S k) z hz]; simp
  · obtain ⟨j, rfl⟩ : ∃ j : Nat, z = ((j + 1 : Nat) : Int) := ⟨z.toNat - 1, by omega⟩
    rw [placeOf_nat, placeOf_nat]
    have hb : bitOn (dropHd S k).us (j + 1) = if j = k then false else bitOn S.us (j + 1) := by
      rw [bitOn_test', bitOn_test', Nat.add_sub_cancel]
      show ((S.us.set _ _).getD (j / 64) 0).testBit _ = _
      rw [getD_set _ _ _ _ _ hk2]
      by_cases e1 : j / 64 = k / 64
      · rw [if_pos e1, andNot_bit _ _ _ (Nat.mod_lt _ (by decide)) (Nat.mod_lt _ (by decide))]
        by_cases e2 : j = k
        · subst e2; simp
        · rw [if_neg e2, e1]
          have : ¬ (k % 64 = j % 64) := by omega
          simp [this]
      · rw [if_neg e1, if_neg (by intro e; exact e1 (by rw [e]))]
    rw [hb]
    by_cases e : j = k
    · subst e; simp
    · rw [if_neg e, if_neg (show ¬ (((j + 1 : Nat) : Int) = ((k + 1 : Nat) : Int)) by omega)]
      rfl
theorem ctz_spec {x : Nat} (h0 : x ≠ 0) (h : x < 18446744073709551616) : x.testBit (Lib.ctz 64 x) = true ∧ ∀ j, j < Lib.ctz 64 x → x.testBit j = false := by
  unfold Lib.ctz
  rw [if_neg h0]
  obtain ⟨m, hm, _⟩ := Lib.ctzFrom_spec 64 x (by omega) h
  generalize Lib.ctzFrom 64 x = c at hm
  have hb : ∀ i, x.testBit i = (decide (c ≤ i) && (2 * m + 1).testBit (i - c)) := fun i => by
    rw [hm, Nat.mul_comm, Nat.testBit_mul_two_pow]
  refine ⟨?_, fun j hj => ?_⟩
  · rw [hb, Nat.sub_self, Nat.testBit_zero]; simp
  · rw [hb]; simp; omega
theorem compl_bit {x i : Nat} (hx : x < 18446744073709551616) (hi : i < 64) : (18446744073709551615 - x).testBit i = !x.testBit i := by
  have h1 := Nat.testBit_two_pow_sub_succ (n := 64) (x := x) hx i
  rw [show (2 : Nat) ^ 64 - (x + 1) = 18446744073709551615 - x by omega] at h1
  rw [h1]; simp [hi]
/-- The handle that take gives, from 0 on. -/
def nextH (S : St) (l : Nat) : Nat := l * 64 + Lib.ctz 64 (18446744073709551615 - S.us.getD l 0)
theorem Tab.word {S : St} (h : Tab S) (l : Nat) : S.us.getD l 0 < 18446744073709551616 := by
  by_cases hl : l < S.us.length
  · simp only [List.getD, List.getElem?_eq_getElem hl, Option.getD_some]; exact h.us _ (List.getElem_mem hl)
  · simp only [List.getD, List.getElem?_eq_none (show S.us.length ≤ l by omega)]; decide
theorem nextH_spec {S : St} (h : Tab S) {l : Nat} (hl : l < S.us.length) (hfull : ∀ j, j < l → S.us.getD j 0 = 18446744073709551615) (hfree : S.us.getD l 0 < 18446744073709551615) :
    nextH S l < S.pl.length ∧ bitOn S.us (nextH S l + 1) = false ∧ (∀ j, j < nextH S l → bitOn S.us (j + 1) = true) ∧ nextH S l / 64 = l ∧ nextH S l % 64 = Lib.ctz 64 (18446744073709551615 - S.us.getD l 0) := by
  have hw := h.word l
  have hc := ctz_lt (x := 18446744073709551615 - S.us.getD l 0) (by omega) (by omega)
  obtain ⟨s1, s2⟩ := ctz_spec (x := 18446744073709551615 - S.us.getD l 0) (by omega) (by omega)
  have hp := h.plus
  unfold nextH
  generalize hcc : Lib.ctz 64 (18446744073709551615 - S.us.getD l 0) = c at *
  have e1 : (l * 64 + c) / 64 = l := by omega
  have e2 : (l * 64 + c) % 64 = c := by omega
  refine ⟨by omega, ?_, fun j hj => ?_, e1, e2⟩
  · rw [bitOn_test', Nat.add_sub_cancel, e1, e2]
    rw [compl_bit hw hc] at s1
    simpa using s1
  · rw [bitOn_test', Nat.add_sub_cancel]
    by_cases e : j / 64 = l
    · rw [e]
      have := s2 (j % 64) (by omega)
      rw [compl_bit hw (Nat.mod_lt _ (by decide))] at this
      simpa using this
    · rw [hfull (j / 64) (by omega)]
      have := Nat.testBit_two_pow_sub_one 64 (j % 64)
      rw [show (2 : Nat) ^ 64 - 1 = 18446744073709551615 by decide] at this
      rw [this]
      simp; omega
theorem Tab.take {S : St} (h : Tab S) {l v : Nat} (hl : l < S.us.length) (hfull : ∀ j, j < l → S.us.getD j 0 = 18446744073709551615) (hfree : S.us.getD l 0 < 18446744073709551615) (hv : v ≤ 1048576) : Tab (takeH S l v) := by
  have hw := h.word l
  have hc := ctz_lt (x := 18446744073709551615 - S.us.getD l 0) (by omega) (by omega)
  refine ⟨by simp [takeH]; exact h.plus, by simp [takeH]; exact h.lim, ?_, ?_, ?_, ?_⟩
  · intro x hx
    rcases mem_set_or hx with h1 | h1
    · exact h.us x h1
    · rw [h1]
      exact Nat.or_lt_two_pow (n := 64) hw (Nat.pow_lt_pow_right (by decide) hc)
  · intro x hx
    rcases mem_set_or hx with h1 | h1
    · exact h.place x h1
    · omega
  · show l ≤ (S.us.set _ _).length
    rw [List.length_set]; omega
  · intro j hj
    show (S.us.set _ _).getD j 0 = _
    rw [getD_set _ _ _ _ _ hl, if_neg (by have : j < l := hj; omega)]
    exact hfull j hj
theorem placeOf_take {S : St} (h : Tab S) {l v : Nat} (hl : l < S.us.length) (hfull : ∀ j, j < l → S.us.getD j 0 = 18446744073709551615) (hfree : S.us.getD l 0 < 18446744073709551615) (z : Int) : PlaceOf (takeH S l v) z = if z = ((nextH S l + 1 : Nat) : Int) then some v else PlaceOf S z := by
  obtain ⟨n1, n2, n3, n4, n5⟩ := nextH_spec h hl hfull hfree
  by_cases hz : z < 1 ∨ (S.pl.length : Int) < z
  · rw [placeOf_out S z hz, placeOf_out (takeH S l v) z (by simpa [takeH] using hz), if_neg (by omega)]
  · obtain ⟨j, rfl⟩ : ∃ j : Nat, z = ((j + 1 : Nat) : Int) := ⟨z.toNat - 1, by omega⟩
    rw [placeOf_nat, placeOf_nat]
    have hb : bitOn (takeH S l v).us (j + 1) = if j = nextH S l then true else bitOn S.us (j + 1) := by
      rw [bitOn_test', bitOn_test', Nat.add_sub_cancel]
      show ((S.us.set _ _).getD (j / 64) 0).testBit _ = _
      rw [getD_set _ _ _ _ _ hl]
      by_cases e1 : j / 64 = l
      · rw [if_pos e1, or_bit, ← n5]
        by_cases e2 : j = nextH S l
        · rw [if_pos e2, e2]; simp
        · rw [if_neg e2, e1]
          have : ¬ (nextH S l % 64 = j % 64) := by omega
          simp [this]
      · rw [if_neg e1, if_neg (by intro e; exact e1 (by rw [e, n4]))]
    have hpl : (takeH S l v).pl.length = S.pl.length := by simp [takeH]
    have hpg : (takeH S l v).pl.getD j 0 = if j = nextH S l then v else S.pl.getD j 0 := by
      show (S.pl.set (nextH S l) v).getD j 0 = _
      exact getD_set _ _ _ _ _ n1
    rw [hb, hpl, hpg]
    by_cases e : j = nextH S l
    · subst e
      rw [if_pos ⟨n1, by simp⟩]; simp
    · rw [if_neg e, if_neg e, if_neg (show ¬ (((j + 1 : Nat) : Int) = ((nextH S l + 1 : Nat) : Int)) by omega)]
end Ar
end Go.Proofs.YtagjjpmhacknpaaDoor
