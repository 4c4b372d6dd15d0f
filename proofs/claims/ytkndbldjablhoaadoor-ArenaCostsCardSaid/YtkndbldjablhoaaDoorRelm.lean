/- release, on pieces. -/
import Derived.Test.YtkndbldjablhoaaDoorFrem
set_option maxRecDepth 100000
namespace Go.Proofs.YtkndbldjablhoaaDoor
namespace Ar
/-- The memory with a gap, and its free pieces. -/
structure Gap (S : St) (xs : List Pc) (raw : List UInt8) (a' : Nat) (ys : List Pc) (rest : List UInt8) (E : Nat → Option (Nat × Nat)) (sp : List Nat) : Prop where
  mem : S.mem = lay 0 xs ++ raw ++ lay a' ys ++ rest
  rest : rest.length < 16
  lim : S.mem.length ≤ 1048576
  oxs : ∀ p ∈ xs, p.Ok
  oys : ∀ p ∈ ys, p.Ok
  a' : a' ≤ 1048576
  ch : Ch S.nd S.spare E sp
  fr : Frees E xs raw.length ys
  nd : S.nd.length < 190000
theorem Gap.len {S : St} {xs ys : List Pc} {raw rest : List UInt8} {a' : Nat} {E : Nat → Option (Nat × Nat)} {sp : List Nat} (h : Gap S xs raw a' ys rest E sp) : S.mem.length = total xs + raw.length + total ys + rest.length := by rw [h.mem]; simp [lay_len]; omega
theorem Gap.fin {S : St} {xs ys : List Pc} {raw rest : List UInt8} {a' : Nat} {E : Nat → Option (Nat × Nat)} {sp : List Nat} (h : Gap S xs raw a' ys rest E sp) (hr : raw.length % 16 = 0) : fin S = total xs + raw.length + total ys := by
  have := h.len
  have := total_mod h.oxs
  have := total_mod h.oys
  have := h.rest
  unfold Ar.fin
  omega
/-- The head of the piece behind the gap. -/
theorem Gap.headR {S : St} {xs ys : List Pc} {raw rest : List UInt8} {a' : Nat} {E : Nat → Option (Nat × Nat)} {sp : List Nat} {q : Pc} (h : Gap S xs raw a' (q :: ys) rest E sp) : headAt S.mem (total xs + raw.length) = q.hd a' := by
  have hl := h.len
  simp only [total] at hl
  have hlim := h.lim
  have hf := hd_fits (p := q) (a := a') (m := 0) (h.oys q (List.mem_cons_self ..)) (by omega) h.a' rfl
  have h3 := headAt_app (lay 0 xs ++ raw) q.data (lay q.takes ys ++ rest) (q.hd a') hf
  rw [List.length_append, lay_len] at h3
  rw [h.mem]
  have e : lay 0 xs ++ raw ++ lay a' (q :: ys) ++ rest = (lay 0 xs ++ raw) ++ (byte8 (q.hd a').word ++ q.data) ++ (lay q.takes ys ++ rest) := by simp only [lay, Pc.bytes, List.append_assoc]
  rw [e]; exact h3
/-- The head of the piece ahead of the gap. -/
theorem Gap.headL {S : St} {xs ys : List Pc} {raw rest : List UInt8} {a' : Nat} {E : Nat → Option (Nat × Nat)} {sp : List Nat} {r : Pc} (h : Gap S (xs ++ [r]) raw a' ys rest E sp) : headAt S.mem (total xs) = r.hd (lastT 0 xs) := by
  have hl := h.len
  rw [total_app] at hl
  simp only [total] at hl
  have hlim := h.lim
  have hf := hd_fits (p := r) (a := lastT 0 xs) (m := 0) (h.oxs r (by simp)) (by omega) (lastT_le (by omega) (by omega)) rfl
  have h3 := headAt_app (lay 0 xs) r.data (raw ++ lay a' ys ++ rest) (r.hd (lastT 0 xs)) hf
  rw [lay_len] at h3
  rw [h.mem, lay_app]
  have e : lay 0 xs ++ lay (lastT 0 xs) [r] ++ raw ++ lay a' ys ++ rest = lay 0 xs ++ (byte8 (r.hd (lastT 0 xs)).word ++ r.data) ++ (raw ++ lay a' ys ++ rest) := by simp only [lay, Pc.bytes, List.append_assoc, List.append_nil, List.nil_append]
  rw [e]; exact h3
/-- What is left when the piece behind the gap is taken into it. -/
theorem Gap.right {S : St} {xs ys : List Pc} {raw rest : List UInt8} {a' : Nat} {E : Nat → Option (Nat × Nat)} {sp : List Nat} {q : Pc} (h : Gap S xs raw a' (q :: ys) rest E sp) (hf : q.free = true) :
    Gap { S with nd := dropN S.nd q.owner S.spare, spare := q.owner } xs (raw ++ q.bytes a') q.takes ys rest (off E q.owner) (q.owner :: sp) ∧ q.owner < S.nd.length ∧ (nodeAt S.nd q.owner).n < S.nd.length ∧ (nodeAt S.nd q.owner).l < S.nd.length := by
  obtain ⟨hE, hF⟩ := frees_off (u := total xs + raw.length) h.fr hf (fun v p => atG_cons xs ys raw.length q v p) (fun p hp => atG_gap hp (by omega) (by have := takes_pos q; omega))
  have hl := h.len
  simp only [total] at hl
  have hlim := h.lim
  refine ⟨⟨?_, h.rest, h.lim, h.oxs, fun p hp => h.oys p (List.mem_cons_of_mem _ hp), by omega, h.ch.drop hE, ?_, ?_⟩, h.ch.node hE⟩
  · rw [show ({ S with nd := dropN S.nd q.owner S.spare, spare := q.owner } : St).mem = S.mem from rfl, h.mem]
    simp only [lay, List.append_assoc]
  · rw [List.length_append, bytes_len]; exact hF
  · show (dropN _ _ _).length < _
    rw [dropN_len]; exact h.nd
theorem Gap.left {S : St} {xs ys : List Pc} {raw rest : List UInt8} {a' : Nat} {E : Nat → Option (Nat × Nat)} {sp : List Nat} {r : Pc} (h : Gap S (xs ++ [r]) raw a' ys rest E sp) (hf : r.free = true) :
    Gap { S with nd := dropN S.nd r.owner S.spare, spare := r.owner } xs (r.bytes (lastT 0 xs) ++ raw) a' ys rest (off E r.owner) (r.owner :: sp) ∧ r.owner < S.nd.length ∧ (nodeAt S.nd r.owner).n < S.nd.length ∧ (nodeAt S.nd r.owner).l < S.nd.length := by
  obtain ⟨hE, hF⟩ := frees_off (u := total xs) h.fr hf (fun v p => atG_snoc xs ys raw.length r v p) (fun p hp => atG_gap hp (by omega) (by have := takes_pos r; omega))
  refine ⟨⟨?_, h.rest, h.lim, fun p hp => h.oxs p (by simp [hp]), h.oys, h.a', h.ch.drop hE, ?_, ?_⟩, h.ch.node hE⟩
  · rw [show ({ S with nd := dropN S.nd r.owner S.spare, spare := r.owner } : St).mem = S.mem from rfl, h.mem, lay_app]
    simp only [lay, List.append_assoc, List.append_nil]
  · rw [List.length_append, bytes_len]; exact hF
  · show (dropN _ _ _).length < _
    rw [dropN_len]; exact h.nd
/-- putFree fills the gap. -/
theorem Gap.fill {S : St} {xs ys : List Pc} {raw rest : List UInt8} {a' : Nat} {E : Nat → Option (Nat × Nat)} {sp : List Nat} (h : Gap S xs raw a' ys rest E sp) (h16 : 16 ≤ raw.length) (hr16 : raw.length % 16 = 0) :
    PutOk S (total xs) raw.length (lastT 0 xs) ∧ ∃ k E' sp', k < 2097152 ∧ (putFree S (total xs) raw.length (lastT 0 xs)).mem = lay 0 (xs ++ mkFree k raw :: ys) ++ rest ∧ Ch (putFree S (total xs) raw.length (lastT 0 xs)).nd (putFree S (total xs) raw.length (lastT 0 xs)).spare E' sp' ∧ Frees E' xs 0 (mkFree k raw :: ys) := by
  have hl := h.len
  have hlim := h.lim
  have htx := total_mod h.oxs
  have hcl := (cls_spec (s := raw.length) h16 (by omega)).2.2
  have hcc := h.ch.class (c := cls raw.length) (by omega)
  obtain ⟨f1, f2, f3, f4, f5⟩ := h.ch.fresh (cls raw.length) (total xs)
  obtain ⟨sp', hch⟩ := h.ch.push (c := cls raw.length) (total xs) (by omega)
  have hnd := h.nd
  refine ⟨⟨h16, by omega, by omega, lastT_le (by omega) (by omega), hcc.1, hcc.2, h.ch.spare_lt, by omega⟩, (push S.nd S.spare (cls raw.length) (total xs)).k, _, sp', by omega, putFree_mem S xs ys raw rest a' h.mem h.rest h16 hr16 h.oxs h.oys h.a' h.lim, hch, frees_fill h.fr (by omega) f2⟩
end Ar
end Go.Proofs.YtkndbldjablhoaaDoor
