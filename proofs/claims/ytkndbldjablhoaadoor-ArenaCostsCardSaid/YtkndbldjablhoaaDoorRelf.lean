/- release, on pieces: the whole. -/
import Derived.Test.YtkndbldjablhoaaDoorRelm
set_option maxRecDepth 100000
namespace Go.Proofs.YtkndbldjablhoaaDoor
namespace Ar
def blocks (xs : List Pc) : List Pc := xs.filter fun p => !p.free
theorem blocks_app (xs ys : List Pc) : blocks (xs ++ ys) = blocks xs ++ blocks ys := List.filter_append ..
theorem blocks_free {p : Pc} (xs : List Pc) (h : p.free = true) : blocks (p :: xs) = blocks xs := by unfold blocks; rw [List.filter_cons]; simp [h]
theorem blocks_block {p : Pc} (xs : List Pc) (h : p.free = false) : blocks (p :: xs) = p :: blocks xs := by unfold blocks; rw [List.filter_cons]; simp [h]
theorem head_takes {p : Pc} (h : p.Ok) (a : Nat) : (p.hd a).takes = p.takes := by
  unfold Head.takes Pc.hd
  simp only
  cases hf : p.free
  · simp only [Bool.false_eq_true, if_false]
    rw [costI_nat (h.bl hf).1]; exact (h.bl hf).2
  · simp only [if_true]; exact h.fr hf
/-- The piece itself becomes the gap. -/
theorem Gap.own {S : St} {xs ys : List Pc} {rest : List UInt8} {a' : Nat} {E : Nat → Option (Nat × Nat)} {sp : List Nat} {p : Pc} (h : Gap S xs [] a' (p :: ys) rest E sp) (hf : p.free = false) : Gap S xs (p.bytes a') p.takes ys rest E sp := by
  have hl := h.len
  simp only [total, List.length_nil] at hl
  have hlim := h.lim
  refine ⟨?_, h.rest, h.lim, h.oxs, fun q hq => h.oys q (List.mem_cons_of_mem _ hq), by omega, h.ch, ?_, h.nd⟩
  · rw [h.mem]; simp only [lay, List.append_assoc, List.nil_append, List.append_nil]
  · rw [bytes_len]
    refine frees_skip (u := total xs) h.fr hf (fun v b => ?_)
    have := atG_cons xs ys 0 p v b
    simpa using this
/-- The step to the right. -/
structure RStep (S : St) (xs : List Pc) (p : Pc) (a0 : Nat) (ys : List Pc) (rest : List UInt8) (q : Head) (bq : Bool) (S1 : St) (ys1 : List Pc) (raw1 : List UInt8) (a1 : Nat) (E1 : Nat → Option (Nat × Nat)) (sp1 : List Nat) : Prop where
  took : tookFree S (total xs + p.takes) = (q, bq)
  take : takeFree S (total xs + p.takes) = S1
  ok : TakeOk S (total xs + p.takes)
  gap : Gap S1 xs raw1 a1 ys1 rest E1 sp1
  size : raw1.length = relSize p.takes q bq
  m16 : raw1.length % 16 = 0
  q : q.size ≤ 1048576
  pre : ∃ t, raw1 = p.bytes a0 ++ t
  at_ : ∀ v b, b.free = false → (AtG xs raw1.length ys1 v b ↔ AtG xs p.takes ys v b)
  bl : blocks ys1 = blocks ys
  mem : S1.mem = S.mem
  rem : S1.used = S.used ∧ S1.pl = S.pl ∧ S1.us = S.us ∧ S1.low = S.low
theorem right_step {S : St} {xs ys : List Pc} {rest : List UInt8} {a0 : Nat} {E : Nat → Option (Nat × Nat)} {sp : List Nat} {p : Pc} (h : Gap S xs [] a0 (p :: ys) rest E sp) (hf : p.free = false) :
    ∃ q bq S1 ys1 raw1 a1 E1 sp1, RStep S xs p a0 ys rest q bq S1 ys1 raw1 a1 E1 sp1 := by
  have g := h.own hf
  have hp := h.oys p (List.mem_cons_self ..)
  have hbl := bytes_len p a0
  have hfin := g.fin (by rw [hbl]; exact hp.m16)
  have hlen := g.len
  have hlim := g.lim
  rw [hbl] at hfin hlen
  have hnd := g.nd
  cases ys with
  | nil =>
    simp only [total, Nat.add_zero] at hfin
    refine ⟨⟨false, 0, 0, 0⟩, false, S, [], p.bytes a0, p.takes, E, sp, ?_, ?_, ?_, g, ?_, by rw [hbl]; exact hp.m16, by simp, ⟨[], by simp⟩, fun v b _ => by rw [hbl], rfl, rfl, rfl, rfl, rfl, rfl⟩
    · unfold tookFree; rw [if_pos hfin.symm]
    · unfold takeFree; rw [if_pos hfin.symm]
    · exact ⟨fun e => absurd hfin.symm e, fun e => absurd hfin.symm e, by omega⟩
    · rw [hbl]; rfl
  | cons q ys =>
    have hq := h.oys q (List.mem_cons_of_mem _ (List.mem_cons_self ..))
    have hqp := hq.ge
    simp only [total] at hfin hlen
    have hne : ¬ (total xs + p.takes = fin S) := by omega
    have hh := g.headR
    rw [hbl] at hh
    have hft : (q.hd p.takes).fits := hd_fits (m := 0) hq (by omega) (by omega) rfl
    have hqs : (q.hd p.takes).size ≤ 1048576 := by
      show q.size ≤ _
      cases hf2 : q.free
      · have := (hq.bl hf2).1; omega
      · have := hq.fr hf2; omega
    cases hqf : q.free with
    | true =>
      obtain ⟨g2, n1, n2, n3⟩ := g.right hqf
      refine ⟨q.hd p.takes, true, _, ys, _, _, _, _, ?_, ?_, ?_, g2, ?_, ?_, hqs, ⟨_, rfl⟩, fun v b hb => ?_, (blocks_free ys hqf).symm, rfl, rfl, rfl, rfl, rfl⟩
      · unfold tookFree; rw [if_neg hne, hh]; exact Prod.ext rfl hqf
      · unfold takeFree; rw [if_neg hne, hh, if_pos (show (q.hd p.takes).free = true from hqf)]; rfl
      · refine ⟨fun _ => by omega, fun _ _ => ?_, by omega⟩
        rw [hh]; exact ⟨n1, n2, n3⟩
      · rw [List.length_append, hbl, bytes_len]
        show p.takes + q.takes = p.takes + q.size
        rw [hq.fr hqf]
      · rw [List.length_append, hbl, bytes_len]; have := hp.m16; have := hq.m16; omega
      · rw [List.length_append, hbl, bytes_len, atG_cons]
        constructor
        · exact .inl
        · rintro (h1 | ⟨_, rfl⟩)
          · exact h1
          · rw [hqf] at hb; cases hb
    | false =>
      refine ⟨q.hd p.takes, false, S, q :: ys, p.bytes a0, p.takes, E, sp, ?_, ?_, ?_, g, by rw [hbl]; rfl, by rw [hbl]; exact hp.m16, hqs, ⟨[], by simp⟩, fun v b _ => by rw [hbl], rfl, rfl, rfl, rfl, rfl, rfl⟩
      · unfold tookFree; rw [if_neg hne, hh]; exact Prod.ext rfl hqf
      · unfold takeFree; rw [if_neg hne, hh, if_neg (by show ¬ q.free = true; rw [hqf]; decide)]
      · refine ⟨fun _ => by omega, fun _ h2 => ?_, by omega⟩
        rw [hh] at h2
        have : q.free = true := h2
        rw [hqf] at this; cases this
/-- The step to the left. -/
structure LStep (S1 : St) (xs : List Pc) (p : Pc) (raw1 : List UInt8) (a1 : Nat) (ys1 : List Pc) (rest : List UInt8) (r : Head) (br : Bool) (S2 : St) (xs2 : List Pc) (raw2 : List UInt8) (E2 : Nat → Option (Nat × Nat)) (sp2 : List Nat) : Prop where
  le : lastT 0 xs ≤ total xs
  took : tookFree S1 (total xs - lastT 0 xs) = (r, br)
  take : takeFree S1 (total xs - lastT 0 xs) = S2
  ok : TakeOk S1 (total xs - lastT 0 xs)
  gap : Gap S2 xs2 raw2 a1 ys1 rest E2 sp2
  pos : (br = true → total xs2 = total xs - lastT 0 xs ∧ lastT 0 xs2 = r.ahead ∧ raw2.length = raw1.length + r.size) ∧ (br = false → xs2 = xs ∧ raw2 = raw1)
  m16 : raw2.length % 16 = 0
  r : r.size ≤ 1048576
  at_ : ∀ v b, b.free = false → (AtG xs2 raw2.length ys1 v b ↔ AtG xs raw1.length ys1 v b)
  bl : blocks xs2 = blocks xs
  rem : S2.used = S1.used ∧ S2.pl = S1.pl ∧ S2.us = S1.us ∧ S2.low = S1.low
theorem lastT_snoc (xs : List Pc) (r : Pc) (a : Nat) : lastT a (xs ++ [r]) = r.takes := by rw [lastT_app]; rfl
theorem left_step {S1 : St} {xs ys1 : List Pc} {raw1 rest : List UInt8} {a0 a1 : Nat} {E1 : Nat → Option (Nat × Nat)} {sp1 : List Nat} {p : Pc} (g : Gap S1 xs raw1 a1 ys1 rest E1 sp1) (hp : p.Ok) (hf : p.free = false) (ha0 : a0 ≤ 1048576) (h16 : raw1.length % 16 = 0) (hpre : ∃ t, raw1 = p.bytes a0 ++ t) :
    ∃ r br S2 xs2 raw2 E2 sp2, LStep S1 xs p raw1 a1 ys1 rest r br S2 xs2 raw2 E2 sp2 := by
  obtain ⟨t, ht⟩ := hpre
  have hbl := bytes_len p a0
  have hpg := hp.ge
  have hrl : 16 ≤ raw1.length := by rw [ht, List.length_append, hbl]; omega
  have hfin := g.fin h16
  have hlen := g.len
  have hlim := g.lim
  have hnd := g.nd
  rcases List.eq_nil_or_concat xs with rfl | ⟨xs', r, hx⟩
  · have hh : headAt S1.mem 0 = p.hd a0 := by
      have hfit := hd_fits (p := p) (a := a0) (m := 0) hp (by rw [ht, List.length_append, hbl] at hlen; omega) ha0 rfl
      have := headAt_app [] p.data (t ++ lay a1 ys1 ++ rest) (p.hd a0) hfit
      rw [g.mem, ht]
      simp only [lay, List.nil_append, List.append_assoc, Pc.bytes, List.length_nil] at this ⊢
      exact this
    simp only [total] at hfin hlen
    have hne : ¬ ((0 : Nat) - 0 = fin S1) := by omega
    refine ⟨p.hd a0, false, S1, [], raw1, E1, sp1, Nat.le_refl _, ?_, ?_, ?_, g, ⟨(fun e => by cases e), fun _ => ⟨rfl, rfl⟩⟩, h16, ?_, fun _ _ _ => Iff.rfl, rfl, rfl, rfl, rfl, rfl⟩
    · show tookFree S1 (0 - 0) = _
      unfold tookFree; rw [if_neg hne, hh]; exact Prod.ext rfl hf
    · show takeFree S1 (0 - 0) = _
      unfold takeFree; rw [if_neg hne, hh, if_neg (by show ¬ p.free = true; rw [hf]; decide)]
    · show TakeOk S1 (0 - 0)
      refine ⟨fun _ => by omega, fun _ h2 => ?_, by omega⟩
      rw [hh] at h2
      have : p.free = true := h2
      rw [hf] at this; cases this
    · show p.size ≤ _
      have := (hp.bl hf).1; omega
  · rw [List.concat_eq_append] at hx
    subst hx
    have hr := g.oxs r (by simp)
    have hrg := hr.ge
    have hh := g.headL
    rw [total_app] at hfin hlen
    simp only [total, Nat.add_zero] at hfin hlen
    have hpos : total (xs' ++ [r]) - lastT 0 (xs' ++ [r]) = total xs' := by rw [total_app, lastT_snoc]; simp [total]
    have hle : lastT 0 (xs' ++ [r]) ≤ total (xs' ++ [r]) := by rw [total_app, lastT_snoc]; simp [total]
    have hne : ¬ (total xs' = fin S1) := by omega
    have hrs : (r.hd (lastT 0 xs')).size ≤ 1048576 := by
      show r.size ≤ _
      cases hf2 : r.free
      · have := (hr.bl hf2).1; omega
      · have := hr.fr hf2; omega
    cases hrf : r.free with
    | true =>
      obtain ⟨g2, n1, n2, n3⟩ := g.left hrf
      refine ⟨r.hd (lastT 0 xs'), true, _, xs', _, _, _, hle, ?_, ?_, ?_, g2, ⟨fun _ => ⟨hpos.symm, rfl, ?_⟩, (fun e => by cases e)⟩, ?_, hrs, fun v b hb => ?_, ?_, rfl, rfl, rfl, rfl⟩
      · rw [hpos]; unfold tookFree; rw [if_neg hne, hh]; exact Prod.ext rfl hrf
      · rw [hpos]; unfold takeFree; rw [if_neg hne, hh, if_pos (show (r.hd (lastT 0 xs')).free = true from hrf)]; rfl
      · rw [hpos]
        refine ⟨fun _ => by omega, fun _ _ => ?_, by omega⟩
        rw [hh]; exact ⟨n1, n2, n3⟩
      · rw [List.length_append, bytes_len]
        show r.takes + raw1.length = raw1.length + r.size
        rw [hr.fr hrf]; omega
      · rw [List.length_append, bytes_len]; have := hr.m16; omega
      · rw [List.length_append, bytes_len, atG_snoc]
        constructor
        · exact .inl
        · rintro (h1 | ⟨_, rfl⟩)
          · exact h1
          · rw [hrf] at hb; cases hb
      · rw [blocks_app, blocks_free [] hrf]; simp [blocks]
    | false =>
      refine ⟨r.hd (lastT 0 xs'), false, S1, xs' ++ [r], raw1, E1, sp1, hle, ?_, ?_, ?_, g, ⟨(fun e => by cases e), fun _ => ⟨rfl, rfl⟩⟩, h16, hrs, fun _ _ _ => Iff.rfl, rfl, rfl, rfl, rfl, rfl⟩
      · rw [hpos]; unfold tookFree; rw [if_neg hne, hh]; exact Prod.ext rfl hrf
      · rw [hpos]; unfold takeFree; rw [if_neg hne, hh, if_neg (by show ¬ r.free = true; rw [hrf]; decide)]
      · rw [hpos]
        refine ⟨fun _ => by omega, fun _ h2 => ?_, by omega⟩
        rw [hh] at h2
        have : r.free = true := h2
        rw [hrf] at this; cases this
end Ar
end Go.Proofs.YtkndbldjablhoaaDoor
