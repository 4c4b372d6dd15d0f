/- slide, on pieces. -/
import Derived.Test.YtkndbldjablhoaaDoorSetm
import Derived.Test.YtkndbldjablhoaaDoorAslide
set_option maxRecDepth 100000
namespace Go.Proofs.YtkndbldjablhoaaDoor
namespace Ar
theorem blocks_ok {xs : List Pc} (h : ∀ p ∈ xs, p.Ok) : ∀ p ∈ blocks xs, p.Ok := fun p hp => h p (List.mem_filter.1 hp).1
theorem total_blocks : ∀ xs : List Pc, total (blocks xs) = sumT (blocks xs) := fun xs => by
  generalize blocks xs = l
  induction l with
  | nil => rfl
  | cons p r ih => simp only [total, sumT_cons, ih]
/-- Half-way: the blocks that were moved, what lies between, and what is still to come. -/
structure Mid (S : St) (done : List Pc) (junk : List UInt8) (a' : Nat) (todo : List Pc) (rest : List UInt8) : Prop where
  mem : S.mem = lay 0 done ++ junk ++ lay a' todo ++ rest
  rest : rest.length < 16
  lim : S.mem.length ≤ 1048576
  od : ∀ p ∈ done, p.Ok
  ot : ∀ p ∈ todo, p.Ok
  a' : a' ≤ 1048576
  m16 : junk.length % 16 = 0
theorem Mid.len {S : St} {done todo : List Pc} {junk rest : List UInt8} {a' : Nat} (h : Mid S done junk a' todo rest) : S.mem.length = total done + junk.length + total todo + rest.length ∧ fin S = total done + junk.length + total todo := by
  have h1 : S.mem.length = total done + junk.length + total todo + rest.length := by rw [h.mem]; simp [lay_len]; omega
  refine ⟨h1, ?_⟩
  have := total_mod h.od
  have := total_mod h.ot
  have := h.rest
  have := h.m16
  unfold fin; omega
theorem slide_go : ∀ (todo done : List Pc) (S : St) (junk rest : List UInt8) (a' : Nat), Mid S done junk a' todo rest → (∀ p ∈ todo, p.free = false → 1 ≤ p.owner ∧ p.owner ≤ S.pl.length) → ((blocks todo).map Pc.owner).Nodup →
    ∃ R junk', SlideOk S (total done + junk.length) (total done) (lastT 0 done) R (total (done ++ blocks todo)) (lastT 0 (done ++ blocks todo)) ∧ Mid R (done ++ blocks todo) junk' 0 [] rest ∧ junk'.length = junk.length + total todo - total (blocks todo) ∧
      (∀ i, (∀ p ∈ todo, p.free = false → p.owner ≠ i + 1) → R.pl.getD i 0 = S.pl.getD i 0) ∧
      (∀ v p, At (blocks todo) v p → R.pl.getD (p.owner - 1) 0 = total done + v)
  | [], done, S, junk, rest, a', h, _, _ => by
    have hl := h.len
    simp only [total, Nat.add_zero] at hl
    refine ⟨S, junk, ?_, ?_, by simp [blocks, total], fun _ _ => rfl, fun v p hp => hp.elim⟩
    · simp only [blocks, List.filter_nil, List.append_nil]
      exact SlideOk.done S _ _ _ hl.2.symm
    · simp only [blocks, List.filter_nil, List.append_nil]
      exact ⟨by rw [h.mem]; simp [lay], h.rest, h.lim, h.od, fun p hp => (by cases hp), Nat.zero_le _, h.m16⟩
  | p :: todo, done, S, junk, rest, a', h, ho, hnd => by
    have hl := h.len
    have hlim := h.lim
    simp only [total] at hl
    have hp := h.ot p (List.mem_cons_self ..)
    have hpg := hp.ge
    have hfit := hd_fits (p := p) (a := a') (m := 0) hp (by omega) h.a' rfl
    have hhead : headAt S.mem (total done + junk.length) = p.hd a' := by
      have h3 := headAt_app (lay 0 done ++ junk) p.data (lay p.takes todo ++ rest) (p.hd a') hfit
      rw [List.length_append, lay_len] at h3
      rw [h.mem]
      have e : lay 0 done ++ junk ++ lay a' (p :: todo) ++ rest = (lay 0 done ++ junk) ++ (byte8 (p.hd a').word ++ p.data) ++ (lay p.takes todo ++ rest) := by simp only [lay, Pc.bytes, List.append_assoc]
      rw [e]; exact h3
    cases hf : p.free with
    | true =>
      have hm : Mid S done (junk ++ p.bytes a') p.takes todo rest := ⟨by rw [h.mem]; simp only [lay, List.append_assoc], h.rest, h.lim, h.od, fun q hq => h.ot q (List.mem_cons_of_mem _ hq), by omega, by rw [List.length_append, bytes_len]; have := h.m16; have := hp.m16; omega⟩
      have hb : blocks (p :: todo) = blocks todo := blocks_free todo hf
      obtain ⟨R, junk', k1, k2, k3, k4, k5⟩ := slide_go todo done S (junk ++ p.bytes a') rest p.takes hm (fun q hq => ho q (List.mem_cons_of_mem _ hq)) (by rw [hb] at hnd; exact hnd)
      rw [List.length_append, bytes_len] at k1 k3
      rw [hb]
      refine ⟨R, junk', ?_, k2, by rw [k3]; simp only [total]; omega, fun i hi => k4 i (fun q hq => hi q (List.mem_cons_of_mem _ hq)), k5⟩
      have hsz := hp.fr hf
      refine SlideOk.free S _ _ _ (p.hd a') R _ _ hhead hf (by show 16 ≤ p.size; omega) (by show _ + p.size ≤ _; omega) ?_
      show SlideOk S (total done + junk.length + p.size) _ _ _ _ _
      rw [hsz, Nat.add_assoc]; exact k1
    | false =>
      obtain ⟨hsz, hcs⟩ := hp.bl hf
      obtain ⟨ow1, ow2⟩ := ho p (List.mem_cons_self ..) hf
      have hci : costI ((p.hd a').size : Int) = p.takes := by rw [show (p.hd a').size = p.size from rfl, costI_nat hsz, hcs]
      have hb : blocks (p :: todo) = p :: blocks todo := blocks_block todo hf
      rw [hb] at hnd
      simp only [List.map_cons, List.nodup_cons] at hnd
      -- the state behind the move
      have hS1m : (slid S (total done + junk.length) (total done) (lastT 0 done) (p.hd a')).mem = lay 0 (done ++ [p]) ++ (junk ++ p.bytes a').drop p.takes ++ lay p.takes todo ++ rest := by
        unfold slid
        simp only [hci]
        have e1 : (S.mem.drop (total done + junk.length)).take p.takes = p.bytes a' := by
          have e : S.mem = (lay 0 done ++ junk) ++ (p.bytes a' ++ (lay p.takes todo ++ rest)) := by rw [h.mem]; simp only [lay, List.append_assoc]
          rw [e, List.drop_left' (by rw [List.length_append, lay_len]), List.take_left' (bytes_len p a')]
        rw [e1]
        have e2 : S.mem = lay 0 done ++ ((junk ++ p.bytes a').take p.takes ++ ((junk ++ p.bytes a').drop p.takes ++ (lay p.takes todo ++ rest))) := by
          rw [h.mem, ← List.append_assoc ((junk ++ p.bytes a').take p.takes), List.take_append_drop]
          simp only [lay, List.append_assoc]
        have e3 : put S.mem (total done) (p.bytes a') = lay 0 done ++ (p.bytes a' ++ ((junk ++ p.bytes a').drop p.takes ++ (lay p.takes todo ++ rest))) := by
          rw [e2]
          exact put_mid _ _ _ _ _ (lay_len 0 done).symm (by rw [List.length_take, List.length_append, bytes_len]; omega)
        rw [e3]
        have e4 : lay 0 done ++ (p.bytes a' ++ ((junk ++ p.bytes a').drop p.takes ++ (lay p.takes todo ++ rest))) = lay 0 done ++ (byte8 (p.hd a').word ++ (p.data ++ ((junk ++ p.bytes a').drop p.takes ++ (lay p.takes todo ++ rest)))) := by
          simp only [Pc.bytes, List.append_assoc]
        rw [e4]
        show put _ (total done) (byte8 _) = _
        rw [put_mid _ _ _ _ _ (lay_len 0 done).symm (by rw [show (byte8 (p.hd a').word).length = 8 from lastB_len 8 _]; exact (lastB_len 8 _).symm), lay_app]
        have e5 : (⟨false, (p.hd a').owner, (p.hd a').size, lastT 0 done⟩ : Head) = p.hd (lastT 0 done) := by unfold Pc.hd; rw [hf]
        rw [e5]
        simp only [lay, Pc.bytes, List.append_assoc, List.append_nil]
      have hjl : ((junk ++ p.bytes a').drop p.takes).length = junk.length := by simp [bytes_len]
      have hm1 : Mid (slid S (total done + junk.length) (total done) (lastT 0 done) (p.hd a')) (done ++ [p]) ((junk ++ p.bytes a').drop p.takes) p.takes todo rest := by
        refine ⟨hS1m, h.rest, ?_, ?_, fun q hq => h.ot q (List.mem_cons_of_mem _ hq), by omega, by rw [hjl]; exact h.m16⟩
        · rw [hS1m]; simp only [List.length_append, lay_len, hjl, total_app, total]; omega
        · intro q hq
          rcases List.mem_append.1 hq with h1 | h1
          · exact h.od q h1
          · rw [List.mem_singleton] at h1; rw [h1]; exact hp
      have hpl1 : (slid S (total done + junk.length) (total done) (lastT 0 done) (p.hd a')).pl = S.pl.set (p.owner - 1) (total done) := rfl
      obtain ⟨R, junk', k1, k2, k3, k4, k5⟩ := slide_go todo (done ++ [p]) _ _ rest p.takes hm1 (fun q hq hqf => by rw [hpl1, List.length_set]; exact ho q (List.mem_cons_of_mem _ hq) hqf) hnd.2
      rw [hjl] at k1 k3
      rw [hb]
      have ed : done ++ [p] ++ blocks todo = done ++ p :: blocks todo := by simp
      rw [ed] at k1 k2
      refine ⟨R, junk', ?_, k2, by rw [k3]; simp only [total]; omega, fun i hi => ?_, fun v b hvb => ?_⟩
      · refine SlideOk.block S _ _ _ (p.hd a') R _ _ hhead hf hsz ow1 ow2 (by omega) (lastT_le (by omega) (by omega)) (by rw [hci]; omega) ?_
        rw [hci]
        rw [lastT_snoc, total_app] at k1
        simp only [total, Nat.add_zero] at k1
        rw [show total done + junk.length + p.takes = total done + p.takes + junk.length by omega]
        exact k1
      · rw [k4 i (fun q hq hqf => hi q (List.mem_cons_of_mem _ hq) hqf), hpl1, getD_set _ _ _ _ _ (by omega), if_neg (by have := hi p (List.mem_cons_self ..) hf; omega)]
      · rcases hvb with ⟨rfl, rfl⟩ | ⟨v', rfl, hvb⟩
        · rw [k4 (b.owner - 1) (fun q hq hqf e => hnd.1 (List.mem_map.2 ⟨q, List.mem_filter.2 ⟨hq, by simp [hqf]⟩, by omega⟩)), hpl1, getD_set _ _ _ _ _ (by omega), if_pos rfl]; rfl
        · rw [k5 v' b hvb, total_app]; simp only [total]; omega
end Ar
end Go.Proofs.YtkndbldjablhoaaDoor
