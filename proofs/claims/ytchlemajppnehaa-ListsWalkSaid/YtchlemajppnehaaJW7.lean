/- 4 texts put together: LnewS, Llrn, Llri, SeqB. -/
import Derived.RangeFuncNested
import Derived.RangeFuncBound
import Derived.RangeFuncLeaves
import Derived.RangeFuncFrom
import Derived.RangeFuncWrites
import Derived.Test.YtchlemajppnehaaJW1
import Derived.Test.YtchlemajppnehaaJW3
import Derived.Test.YtchlemajppnehaaJW6
/- A new table, of seats. -/
set_option maxRecDepth 100000
namespace Go.Proofs.Ytchlemajppnehaa
open Go Go.RowKit Go.Shelf Go.Maps
set_option maxHeartbeats 1000000 in
theorem newTabS (w : World) :
    Calls Try.prog 56 #[.int .i64 2] w fun e w' => ∃ M R, e = .returned (.agg #[.map (some M), .slice (some ⟨R, 0, none⟩) 2 2, .slice none 0 0]) ∧ Below w.heap.size w w' ∧ MapI M 0 (fun _ => none) w' ∧
      OwnK encR 4 tS 0 (.slice (some ⟨R, 0, none⟩) 2 2) (List.replicate 2 Tb.zero) w' ∧ w.heap.size ≤ M ∧ w.heap.size ≤ R := by
  go_enter Try.func56, Try.ntmps56
  have hmm := @run_makeMap Try.prog
  obtain ⟨i, hi, hz0, hz1, hz2⟩ := info_parts infoS
  have hms : ∀ W : World, (Instr.makeSlice 77 (.int .i64 2) (.int .i64 2)).run Try.prog W = .ok (.slice (some ⟨W.heap.size, 0, none⟩) 2 2) (W.alloc (.cells ((List.replicate 2 Tb.zero).flatMap encR).toArray tS)) := fun W => by
    have h := run_make (P := Try.prog) W 77 tS i _ Try.underlying77 hi hz0 .i64 .i64 2 2 (by omega) (by omega) (by rw [hz2]; omega) (by omega)
    rw [h, hz1]
    have e : madeCells (Value.agg #[.int .i64 0, .int .i64 0, .int .i64 0, .int .i64 0]).cells ((2 : Int).toNat * 4) = ((List.replicate 2 Tb.zero).flatMap encR).toArray := by kernel_rfl
    rw [e]
    rfl
  go_wp2
  generalize hW1 : w.alloc (.cells #[.map (some (w.heap.size + 1)), .slice (some ⟨w.heap.size + 1 + 1, 0, none⟩) 2 2, .slice none 0 0] 79) = W1
  have s1 : W1.heap.size = w.heap.size + 1 := by rw [← hW1]; simp
  have b1 : Below w.heap.size w W1 := by rw [← hW1]; exact (Below.refl _ _).alloc (Nat.le_refl _) _
  have c1 : ∀ i, W1.cell? ⟨w.heap.size, i, none⟩ = #[Value.map (some (w.heap.size + 1)), .slice (some ⟨w.heap.size + 1 + 1, 0, none⟩) 2 2, .slice none 0 0][i]? := fun i => by
    rw [← hW1]
    show (match (w.alloc _).heap[w.heap.size]? with | some (.cells c _ _) => c[i]? | _ => none) = _
    rw [World.alloc_heap_new]
  have m1 := mapI_new W1
  rw [s1] at m1
  generalize hW2 : W1.alloc (.map #[] 0) = W2 at *
  have s2 : W2.heap.size = w.heap.size + 1 + 1 := by rw [← hW2]; simp [s1]
  have b2 : Below w.heap.size w W2 := by rw [← hW2]; exact b1.alloc (by omega) _
  have k2 : ∀ k, k < W1.heap.size → W2.heap[k]? = W1.heap[k]? := fun k hk => by rw [← hW2]; exact Below.heap_alloc _ _ _ hk
  have n3 := World.alloc_heap_new W2 (.cells (encR Tb.zero ++ encR Tb.zero).toArray tS)
  rw [s2] at n3
  have k3 : ∀ k, k < W2.heap.size → (W2.alloc (.cells (encR Tb.zero ++ encR Tb.zero).toArray tS)).heap[k]? = W2.heap[k]? := fun k hk => Below.heap_alloc _ _ _ hk
  have d1 : ∀ i, (W2.alloc (.cells (encR Tb.zero ++ encR Tb.zero).toArray tS)).cell? ⟨w.heap.size, i, none⟩ = #[Value.map (some (w.heap.size + 1)), .slice (some ⟨w.heap.size + 1 + 1, 0, none⟩) 2 2, .slice none 0 0][i]? := fun i => by
    rw [← c1 i]
    exact cell_same ((k3 _ (by omega)).trans (k2 _ (by omega))) i
  have e0 := d1 0
  have e1 := d1 1
  have e2 := d1 2
  simp at e0 e1 e2
  refine bodyPost_ret (v := .agg #[.map (some (w.heap.size + 1)), .slice (some ⟨w.heap.size + 1 + 1, 0, none⟩) 2 2, .slice none 0 0]) (by simp [results, Try.results56, go_sem, e0, e1, e2]) rfl ⟨_, _, rfl, b2.alloc (by omega) _, m1.kept (k3 _ (by omega)), ?_, by omega, by omega⟩
  exact ⟨by rfl, .inr ⟨_, 2, _, rfl, Nat.zero_le _, n3, by decide, by unfold maxLen; decide, by rfl, by rfl⟩⟩
end Go.Proofs.Ytchlemajppnehaa

/- A new LRU. -/
set_option maxRecDepth 100000
namespace Go.Proofs.Ytchlemajppnehaa
open Go Go.RowKit Go.Shelf Go.Maps
namespace Lr
def rows0 : List Tb.Row := [Tb.zero, Tb.zero]
def st0 (m : Int) : St := ⟨m, 0, 0, ⟨rows0, [], fun _ => none⟩⟩
def st1 (m : Int) : St := ((st0 m).rows (link rows0 0 1)).rows (link (link rows0 0 1) 1 0)
theorem inv1 (m : Int) : InvF (st1 m) [] [] [] 0 := by
  exact ⟨Nat.le_refl 2, Nat.le_refl 2, rfl, rfl, ⟨⟨rfl, rfl⟩, ⟨rfl, rfl⟩, trivial⟩, (by decide : [0, 1].Nodup), fun i hi => (by cases hi), fun i hi => (by cases hi), fun i hi => (by cases hi), fun k i => ⟨fun e => (by cases e), fun e => (by cases e.1)⟩, fun i hi => (by cases hi)⟩
end Lr
set_option maxHeartbeats 2000000 in
theorem lnew_any (most : Int) (_hm : I64 most) (w : World) :
    Calls Try.prog 31 #[.int .i64 most] w fun e w' => ∃ X, e = .returned (.pointer (some ⟨X, 0, none⟩)) ∧ w.heap.size ≤ X ∧ Below w.heap.size w w' ∧ LV X (max most 0) [] [] 0 (fun k => w.heap.size ≤ k ∧ k < w'.heap.size) w' := by
  have key : ∀ (M : Int) (m R : Nat) (w1 : World), Below w.heap.size w w1 → MapI m 0 (fun _ => none) w1 → OwnK encR 4 tS 0 (.slice (some ⟨R, 0, none⟩) 2 2) (List.replicate 2 Tb.zero) w1 → w.heap.size ≤ m → w.heap.size ≤ R →
      LruE w1.heap.size (Lr.st0 M) ⟨m, 0, R, 2, .slice none 0 0⟩ (.slice none 0 0) (w1.alloc (.cells #[.int .i64 M, .int .i64 0, .int .i64 0, .map (some m), .slice (some ⟨R, 0, none⟩) 2 2, .slice none 0 0, .slice none 0 0] tLru)) := by
    intro M m R w1 b1 m1 o1 l1 l2
    obtain ⟨c, hc⟩ := own_blk o1
    have k := fun b hb => Below.heap_alloc w1 (.cells #[.int .i64 M, .int .i64 0, .int .i64 0, .map (some m), .slice (some ⟨R, 0, none⟩) 2 2, .slice none 0 0, .slice none 0 0] tLru) b hb
    refine ⟨_, ⟨Blk.new w1 [.int .i64 M, .int .i64 0, .int .i64 0, .map (some m), .slice (some ⟨R, 0, none⟩) 2 2, .slice none 0 0, .slice none 0 0] tLru, rfl, rfl, rfl, m1.kept (k _ m1.lt), own_kept o1 (fun g e => ?_), ownK_nil _ _ _ _ _, by decide⟩, rfl, rfl, rfl, rfl⟩
    cases e
    exact k _ hc.lt
  rcases Int.lt_or_le most 0 with hlt | hge
  · rw [show max most 0 = 0 by omega]
    go_enter Try.func31, Try.ntmps31
    go_wp2_with fail
    refine (newTabS w).mono ?_
    rintro e w1 ⟨m, R, rfl, b1, m1, o1, l1, l2⟩
    have hk := key 0 m R w1 b1 m1 o1 l1 l2
    go_wp2_with fail
    refine (llink_any hk (o := 0) (n := 1) (show 0 < 2 by omega) (show 1 < 2 by omega)).mono ?_
    rintro e w3 ⟨rfl, e3, t3⟩
    go_wp2_with fail
    refine (llink_any e3 (o := 1) (n := 0) (show 1 < 2 by omega) (show 0 < 2 by omega)).mono ?_
    rintro e w4 ⟨rfl, e4, t4⟩
    go_wp2
    go_ret
    have hR : R < w1.heap.size := by obtain ⟨c, hc⟩ := own_blk o1; exact hc.lt
    have hM := m1.lt
    have hb1 := b1.size
    have s3 := t3.size
    have s4 := t4.size
    simp at s3
    have tb : Below w.heap.size w w4 := ((b1.alloc (by omega) _).trans (t3.below (n := w.heap.size) (fun k e => by rw [e]; exact l2) (by simp; omega))).trans (t4.below (n := w.heap.size) (fun k e => by rw [e]; exact l2) (by omega))
    exact ⟨w1.heap.size, rfl, hb1, tb, ⟨⟨_, _, _, [], [], e4, Lr.inv1 0, rfl, rfl, rfl, by simp, Nat.le_refl _, ownK_nil _ _ _ _ _, ⟨l1, by show m < _; omega⟩, ⟨l2, by show R < _; omega⟩, fun g e => (by cases e), fun g e => (by cases e)⟩, ⟨hb1, by omega⟩, fun k e => e.2⟩⟩
  · rw [show max most 0 = most by omega]
    go_enter Try.func31, Try.ntmps31
    go_wp2_with fail
    refine (newTabS w).mono ?_
    rintro e w1 ⟨m, R, rfl, b1, m1, o1, l1, l2⟩
    have hk := key most m R w1 b1 m1 o1 l1 l2
    go_wp2_with fail
    refine (llink_any hk (o := 0) (n := 1) (show 0 < 2 by omega) (show 1 < 2 by omega)).mono ?_
    rintro e w3 ⟨rfl, e3, t3⟩
    go_wp2_with fail
    refine (llink_any e3 (o := 1) (n := 0) (show 1 < 2 by omega) (show 0 < 2 by omega)).mono ?_
    rintro e w4 ⟨rfl, e4, t4⟩
    go_wp2
    go_ret
    have hR : R < w1.heap.size := by obtain ⟨c, hc⟩ := own_blk o1; exact hc.lt
    have hM := m1.lt
    have hb1 := b1.size
    have s3 := t3.size
    have s4 := t4.size
    simp at s3
    have tb : Below w.heap.size w w4 := ((b1.alloc (by omega) _).trans (t3.below (n := w.heap.size) (fun k e => by rw [e]; exact l2) (by simp; omega))).trans (t4.below (n := w.heap.size) (fun k e => by rw [e]; exact l2) (by omega))
    exact ⟨w1.heap.size, rfl, hb1, tb, ⟨⟨_, _, _, [], [], e4, Lr.inv1 most, rfl, rfl, rfl, by simpa using hge, Nat.le_refl _, ownK_nil _ _ _ _ _, ⟨l1, by show m < _; omega⟩, ⟨l2, by show R < _; omega⟩, fun g e => (by cases e), fun g e => (by cases e)⟩, ⟨hb1, by omega⟩, fun k e => e.2⟩⟩
end Go.Proofs.Ytchlemajppnehaa

/- An LRU's walk: one step after the other. -/
set_option maxRecDepth 100000
namespace Go.Proofs.Ytchlemajppnehaa
open Go Go.RowKit Go.Shelf Go.Maps
namespace Lr
open Tb
theorem Adj.get {rows : List Row} : ∀ {L : List Nat} {i a b : Nat}, Adj rows L → L[i]? = some a → L[i + 1]? = some b → (rat rows a).c = b
  | [], i, a, b, _, h, _ => by simp at h
  | [x], i, a, b, _, _, h => by simp at h
  | x :: y :: l, 0, a, b, h, h1, h2 => by
    simp at h1 h2
    subst h1 h2
    exact h.1.1
  | x :: y :: l, i + 1, a, b, h, h1, h2 => Adj.get (L := y :: l) h.2 (by simpa using h1) (by simpa using h2)
/-- Where a walk stands that has told j of them. -/
def cur (T : List Nat) (j : Nat) : Nat := if j = 0 then 1 else T.getD (j - 1) 0
theorem cur_succ {T : List Nat} {j : Nat} (h : j < T.length) : cur T (j + 1) = T[j] := by simp [cur, h]
theorem InvF.step {S : St} {p q : List Nat} {N : Nat} (h : InvF S p q [] N) {j : Nat} (hj : j < (p ++ q).length) :
    cur (p ++ q) j < S.T.rows.length ∧ (p ++ q)[j] < S.T.rows.length ∧ (p ++ q)[j] ≠ 0 ∧ (((rat S.T.rows (cur (p ++ q) j)).c = 0 ∧ (rat S.T.rows 0).c = (p ++ q)[j]) ∨ (rat S.T.rows (cur (p ++ q) j)).c = (p ++ q)[j]) := by
  have htwo := h.two
  have hnd := h.nd
  have hT : ∀ i ∈ p ++ q, i < S.T.rows.length ∧ i ≠ 0 := fun i hi => by
    refine ⟨h.lt i (by rw [← List.append_assoc]; exact List.mem_append_left _ hi), fun e => ?_⟩
    subst e
    refine (List.nodup_cons.1 hnd).1 (List.mem_cons_of_mem _ ?_)
    rw [← List.append_assoc]
    exact List.mem_append_left _ hi
  have hm : (p ++ q)[j] ∈ p ++ q := List.getElem_mem hj
  have hcl : cur (p ++ q) j < S.T.rows.length := by
    unfold cur
    split
    · omega
    · rw [List.getD_eq_getElem?_getD, List.getElem?_eq_getElem (by omega)]
      exact (hT _ (List.getElem_mem _)).1
  refine ⟨hcl, (hT _ hm).1, (hT _ hm).2, ?_⟩
  have hlen : (p ++ q).length = p.length + q.length := List.length_append
  have hc0 : ∀ i, i ≤ p.length → (1 :: (p ++ 0 :: (q ++ [1])))[i]? = some (cur p i) := fun i hi => by
    unfold cur
    cases i with
    | zero => rfl
    | succ i =>
      rw [List.getElem?_cons_succ, List.getElem?_append_left (by omega), if_neg (by omega), List.getD_eq_getElem?_getD, Nat.add_sub_cancel, List.getElem?_eq_getElem (by omega)]
      rfl
  have hcp : ∀ i, i ≤ p.length → cur (p ++ q) i = cur p i := fun i hi => by
    unfold cur
    by_cases e : i = 0
    · rw [if_pos e, if_pos e]
    · rw [if_neg e, if_neg e, List.getD_eq_getElem?_getD, List.getD_eq_getElem?_getD, List.getElem?_append_left (by omega)]
  rcases Nat.lt_trichotomy j p.length with hlt | heq | hgt
  · right
    refine h.adj.get (i := j) (by rw [hcp j (by omega)]; exact hc0 j (by omega)) ?_
    rw [List.getElem?_cons_succ, List.getElem?_append_left (by omega), List.getElem_append_left (by omega), List.getElem?_eq_getElem (by omega)]
  · left
    subst heq
    have hz : (1 :: (p ++ 0 :: (q ++ [1])))[p.length + 1]? = some 0 := by
      rw [List.getElem?_cons_succ, List.getElem?_append_right (by omega), Nat.sub_self]; rfl
    have hq : 0 < q.length := by omega
    refine ⟨h.adj.get (i := p.length) (by rw [hcp _ (Nat.le_refl _)]; exact hc0 _ (Nat.le_refl _)) hz, h.adj.get (i := p.length + 1) hz ?_⟩
    rw [List.getElem?_cons_succ, List.getElem?_append_right (by omega), show p.length + 1 - p.length = 0 + 1 by omega, List.getElem?_cons_succ, List.getElem?_append_left hq, List.getElem_append_right (by omega), List.getElem?_eq_getElem hq]
    simp
  · right
    have hj2 : j - p.length < q.length := by omega
    refine h.adj.get (i := j + 1) ?_ ?_
    · rw [List.getElem?_cons_succ, List.getElem?_append_right (by omega), show j - p.length = (j - 1 - p.length) + 1 by omega, List.getElem?_cons_succ, List.getElem?_append_left (by omega)]
      unfold cur
      rw [if_neg (by omega), List.getD_eq_getElem?_getD, List.getElem?_append_right (by omega), List.getElem?_eq_getElem (by omega)]
      rfl
    · rw [List.getElem?_cons_succ, List.getElem?_append_right (by omega), show j + 1 - p.length = (j - p.length) + 1 by omega, List.getElem?_cons_succ, List.getElem?_append_left (by omega), List.getElem_append_right (by omega), List.getElem?_eq_getElem (by omega)]
end Lr
/-- A walk's own boxes: how many are left, whose LRU, where it stands. -/
structure StepE (X lb cb ab : Nat) (T : List Nat) (j : Nat) (w : World) : Prop where
  left : Blk w lb [.int .i64 ((T.length - j : Nat) : Int)] 3
  at_ : Blk w ab [.int .i64 (Lr.cur T j : Int)] 3
  box : Blk w cb [.pointer (some ⟨X, 0, none⟩)] 44
  ne : lb ≠ ab
section
variable {X : Nat} {S : Lr.St} {L : TL} {wv : Value} {w w' : World} {p q : List Nat} {N lb cb ab j : Nat}
theorem LruE.other (h : LruE X S L wv w) {b : Nat} (hX : X ≠ b) (hM : L.M ≠ b) (hR : L.R ≠ b) (hs : L.sv.ownBlock ≠ some b) (i : Nat) (u : Value) : LruE X S L wv (w.setCell ⟨b, i, none⟩ u) := by
  obtain ⟨bx, h1, h2⟩ := h.ex
  have ho := fun k (hk : k ≠ b) => Below.heap_setCell w ⟨b, i, none⟩ u k hk
  exact ⟨bx, ⟨h1.box.kept (ho _ hX), h1.c0, h1.c1, h1.c2, h1.map.kept (ho _ hM), own_kept h1.rows (fun g e => by cases e; exact ho _ hR), own_kept h1.spare (fun g e => ho _ (fun e2 => hs (e2 ▸ e))), h1.tx⟩, h2⟩
set_option maxHeartbeats 1000000 in
theorem lnext_end (hs : StepE X lb cb ab (p ++ q) (p ++ q).length w) :
    Calls Try.prog 90 #[.pointer (some ⟨lb, 0, none⟩), .pointer (some ⟨cb, 0, none⟩), .pointer (some ⟨ab, 0, none⟩)] w fun e w' => e = .returned (.tuple #[.int .i64 0, .bool false]) ∧ w = w' := by
  have h0 := hs.left.cell (i := 0) rfl
  rw [Nat.sub_self] at h0
  go_enter Try.func90, Try.ntmps90
  go_wp2
  go_ret2
  exact ⟨rfl, rfl⟩
set_option maxHeartbeats 2000000 in
theorem lnext_some (h : LruE X S L wv w) (hI : Lr.InvF S p q [] N) (hN : N < 90000) (hs : StepE X lb cb ab (p ++ q) j w) (hj : j < (p ++ q).length) (hL : ∀ b, b = lb ∨ b = ab → X ≠ b ∧ L.M ≠ b ∧ L.R ≠ b ∧ L.sv.ownBlock ≠ some b) :
    Calls Try.prog 90 #[.pointer (some ⟨lb, 0, none⟩), .pointer (some ⟨cb, 0, none⟩), .pointer (some ⟨ab, 0, none⟩)] w fun e w' => e = .returned (.tuple #[.int .i64 (Lr.rat S.T.rows (p ++ q)[j]).k, .bool true]) ∧
      StepE X lb cb ab (p ++ q) (j + 1) w' ∧ LruE X S L wv w' ∧ Trn (fun b => b = lb ∨ b = ab) w w' := by
  obtain ⟨a1, a2, a3, a4⟩ := hI.step hj
  have hbd := hI.bounds
  have hln := hI.len
  have htwo := hI.two
  have hlen : (p ++ q).length = p.length + q.length := List.length_append
  have h0 := hs.left.cell (i := 0) rfl
  have h1 := hs.box.cell (i := 0) rfl
  have h2 := hs.at_.cell (i := 0) rfl
  have f0 := hs.left.frozen
  have f2 := hs.at_.frozen
  have hne := hs.ne
  have hne' : ¬ ab = lb := fun e => hne e.symm
  have hcs := Lr.cur_succ hj
  obtain ⟨_, _, _, i3⟩ := h.row a1
  obtain ⟨k0, _, _, _⟩ := h.row a2
  obtain ⟨_, _, _, z3⟩ := h.row (i := 0) (by omega)
  obtain ⟨bx, ht, _⟩ := h.ex
  obtain ⟨_, c1, _⟩ := ht.cells
  obtain ⟨nXl, nMl, nRl, nSl⟩ := hL lb (.inl rfl)
  obtain ⟨nXa, nMa, nRa, nSa⟩ := hL ab (.inr rfl)
  have ncl : cb ≠ lb := hs.box.ne hs.left (by decide)
  have nca : cb ≠ ab := hs.box.ne hs.at_ (by decide)
  have nXl' : ¬ lb = X := fun e => nXl e.symm
  have nXa' : ¬ ab = X := fun e => nXa e.symm
  have nRl' : ¬ lb = L.R := fun e => nRl e.symm
  have nRa' : ¬ ab = L.R := fun e => nRa e.symm
  have ncl' : ¬ lb = cb := fun e => ncl e.symm
  have nca' : ¬ ab = cb := fun e => nca e.symm
  obtain ⟨m, hm⟩ : ∃ m, (p ++ q).length - j = m + 1 := ⟨(p ++ q).length - j - 1, by omega⟩
  have hm1 : (p ++ q).length - (j + 1) = m := by omega
  have hmb : m < 100000 := by omega
  have E1 := h.other nXl nMl nRl nSl 0 (.int .i64 (m : Int))
  have E2 := fun u => E1.other nXa nMa nRa nSa 0 u
  have B1 : ∀ u, Blk ((w.setCell ⟨lb, 0, none⟩ (.int .i64 (m : Int))).setCell ⟨ab, 0, none⟩ u) lb [.int .i64 (m : Int)] 3 ∧ Blk ((w.setCell ⟨lb, 0, none⟩ (.int .i64 (m : Int))).setCell ⟨ab, 0, none⟩ u) ab [u] 3 ∧
      Blk ((w.setCell ⟨lb, 0, none⟩ (.int .i64 (m : Int))).setCell ⟨ab, 0, none⟩ u) cb [.pointer (some ⟨X, 0, none⟩)] 44 ∧ Trn (fun b => b = lb ∨ b = ab) w ((w.setCell ⟨lb, 0, none⟩ (.int .i64 (m : Int))).setCell ⟨ab, 0, none⟩ u) := fun u =>
    have s1 := hs.left.set 0 (.int .i64 (m : Int))
    have s2 := hs.at_.other hne.symm 0 (.int .i64 (m : Int))
    ⟨s1.other hne 0 u, s2.set 0 u, (hs.box.other ncl 0 _).other nca 0 u, (Trn.set (f := fun b => b = lb ∨ b = ab) hs.left (.inl rfl) 0 _).trans (Trn.set (f := grow (fun b => b = lb ∨ b = ab) w _) s2 (.inl (.inr rfl)) 0 u)⟩
  rw [hm] at h0
  unfold encI at *
  generalize Lr.cur (p ++ q) j = a at *
  generalize (p ++ q)[j] = x at *
  have hk0 : ((m : Int) + 1 == 0) = false := by simp; omega
  go_enter Try.func90, Try.ntmps90
  go_wp2_with fail
  refine (seat_any E1 a1).mono ?_
  rintro e w1 ⟨rfl, rfl⟩
  have hx0 : ((x : Int) == 0) = false := by simp; omega
  rcases a4 with ⟨e1, e2⟩ | e1
  · rw [e1] at i3
    rw [e2] at z3
    have E3 := E2 (.int .i64 0)
    obtain ⟨b1, b2, b3, b4⟩ := B1 (.int .i64 0)
    simp only [Nat.zero_mul, Nat.zero_add, Int.ofNat_zero] at z3 i3
    have Z3 := Lib.hid e2
    clear e1 e2
    go_wp2_with fail
    generalize (w.setCell ⟨lb, 0, none⟩ (.int .i64 (m : Int))).setCell ⟨ab, 0, none⟩ (.int .i64 0) = W2 at *
    refine (seat_any E3 (i := 0) (by omega)).mono ?_
    rintro e w1 ⟨rfl, rfl⟩
    obtain ⟨bx, ht3, _⟩ := E3.ex
    obtain ⟨_, c1', _⟩ := ht3.cells
    obtain ⟨k0', _, _, _⟩ := E3.row a2
    obtain ⟨_, _, _, z3'⟩ := E3.row (i := 0) (by omega)
    rw [Z3.out] at z3'
    simp only [Nat.zero_mul, Nat.zero_add] at z3'
    unfold encI at z3'
    have d1 := b3.cell (i := 0) rfl
    have d2 := b2.cell (i := 0) rfl
    have g2 := b2.frozen
    have E4 := E3.other nXa nMa nRa nSa 0 (.int .i64 (x : Int))
    have b5 := b1.other hne 0 (.int .i64 (x : Int))
    have b6 := b2.set 0 (.int .i64 (x : Int))
    have b7 := b3.other nca 0 (.int .i64 (x : Int))
    have b8 := b4.trans (Trn.set (f := grow (fun b => b = lb ∨ b = ab) w W2) b2 (.inl (.inr rfl)) 0 (.int .i64 (x : Int)))
    clear b4 B1 E1 E2 h0 h1 h2 i3 k0 z3 c1 f0 f2 h hs
    go_wp2_with fail
    go_region
    go_wp2
    go_ret2
    exact ⟨rfl, ⟨by rw [hm1]; exact b5, by rw [hcs]; exact b6, b7, hne⟩, E4.same rfl, b8.trans (Trn.drew _ 1)⟩
  · rw [e1] at i3
    clear e1 z3
    obtain ⟨b1, b2, b3, b4⟩ := B1 (.int .i64 (x : Int))
    have E3 := E2 (.int .i64 (x : Int))
    go_wp2_with fail
    go_region
    go_wp2
    go_ret2
    exact ⟨rfl, ⟨by rw [hm1]; exact b1, by rw [hcs]; exact b2, b3, hne⟩, E3.same rfl, b4.trans (Trn.drew _ 1)⟩
end
end Go.Proofs.Ytchlemajppnehaa

/- A range over a function whose body may make a map and write it: the caller's invariant abides the turn of book-keeping alone (a loop's record, a block for deferred calls), and the body keeps no more than that. -/
namespace Go.Proofs.Ytchlemajppnehaa
open Go Go.RowKit
variable {F : Fence} {n : Nat} {P : Program}

theorem bookC {A : World} {r : Nat} (h : ∃ o : Obj, A.heap[r]? = some o ∧ isBook o = true) : ∃ o : Obj, A.heap[r]? = some o ∧ o.isCells = false := by
  obtain ⟨o, ho, hk⟩ := h
  exact ⟨o, ho, book_cells hk⟩
/-- The invariant abides the turn of book-keeping from B on. -/
def OwnBk {β : Type} (B : Nat) (I : β → World → Prop) : Prop :=
  ∀ s W W' row, I s W → W.grownBy W' row → (∀ r, row = some r → B ≤ r ∧ ∃ o : Obj, W.heap[r]? = some o ∧ isBook o = true) → I s W'
theorem ownFrom_book {β : Type} {B : Nat} {I : β → World → Prop} (h : OwnFrom B I) : OwnBk B I := fun s W W' row hs hg hr => h s W W' row hs hg (fun r e => ⟨(hr r e).1, by obtain ⟨o, ho, hk⟩ := (hr r e).2; exact ⟨o, ho, book_cells hk⟩⟩)
theorem OwnBk.putObj {β : Type} {B : Nat} {I : β → World → Prop} (h : OwnBk B I) {s : β} {W : World} {l : Nat} {o : Obj} (o' : Obj) (hs : I s W) (hB : B ≤ l) (hl : W.heap[l]? = some o) (ho : isBook o = true) : I s (W.putObj l o') :=
  h s W _ (some l) hs (grownBy_putObj' W l o') (fun r e => by cases e; exact ⟨hB, o, hl, ho⟩)
theorem OwnBk.alloc {β : Type} {B : Nat} {I : β → World → Prop} (h : OwnBk B I) {s : β} {W : World} (o : Obj) (hs : I s W) : I s (W.alloc o) :=
  h s W _ none hs (World.grownBy_alloc W o none) (fun r e => by cases e)
theorem OwnBk.and {β : Type} {B : Nat} {I I' : β → World → Prop} (h : OwnBk B I) (h' : OwnBk B I') : OwnBk B (fun s W => I s W ∧ I' s W) := fun s W W' row hs hg hr => ⟨h s W W' row hs.1 hg hr, h' s W W' row hs.2 hg hr⟩
theorem ownBk_pure {β : Type} (B : Nat) (p : β → Prop) : OwnBk B (fun s (_ : World) => p s) := fun _ _ _ _ hs _ _ => hs
/-- Book-keeping from B on lies as it lay. -/
structure KeepsBk (B : Nat) (W W' : World) : Prop where
  size : W.heap.size ≤ W'.heap.size
  same : ∀ (k : Nat) (o : Obj), B ≤ k → W.heap[k]? = some o → isBook o = true → W'.heap[k]? = some o
theorem keepsFrom_book {B : Nat} {W W' : World} (h : KeepsFrom B W W') : KeepsBk B W W' := ⟨h.size, fun k o hB hk ho => h.same k o hB hk (book_cells ho)⟩
theorem KeepsBk.refl (B : Nat) (W : World) : KeepsBk B W W := keepsFrom_book (KeepsFrom.refl B W)
theorem KeepsBk.trans {B : Nat} {X Y Z : World} (h : KeepsBk B X Y) (k : KeepsBk B Y Z) : KeepsBk B X Z := ⟨Nat.le_trans h.size k.size, fun i o hB hi ho => k.same i o hB (h.same i o hB hi ho) ho⟩
theorem KeepsBk.of_grownBy {B : Nat} {W W' : World} {row : Option Nat} (hg : W.grownBy W' row) (hrow : ∀ j, row = some j → j < B) : KeepsBk B W W' := keepsFrom_book (KeepsFrom.of_grownBy hg hrow)
def ownPostB {α : Type} (B : Nat) (Kp : World → World → Prop) (I : List α → World → Prop) (Ix : Code → List α → World → Prop) (xs : List α) (W : World) : Exit → Act → World → Prop
  | .normal, _, W' => KeepsBk B W W' ∧ Kp W W' ∧ I xs W'
  | .ret, _, W' => KeepsBk B W W' ∧ Ix .ret xs W'
  | .exit id, _, W' => KeepsBk B W W' ∧ Ix (.exit id) xs W'
  | .goto t, _, W' => KeepsBk B W W' ∧ Ix (.goto t) xs W'
  | .panic _, _, _ => False
  | .outgrown, _, _ => False

/-- The contract of an iterator that loops over another. -/
def SeqStopsB {α : Type} (F : Fence) (n : Nat) (P : Program) (g : Nat) (lb : Array Value) (encs : α → Array Value) (Kp : World → World → Prop) (S Sp : List α → Prop) (N : Nat) (w : World) : Prop :=
  ∀ (l : Nat) (J Jx : List α → World → Prop) (W : World), Below w.heap.size w W → OwnBk W.heap.size J → OwnBk W.heap.size Jx →
    (∀ pre x W1, J pre W1 → pre.length < N → Sp (pre ++ [x]) → YieldAt F (n - 1) P l (encs x) W1 fun e W' =>
      (e = .returned (.bool true) ∧ J (pre ++ [x]) W' ∧ Kp W1 W' ∧ KeepsBk W.heap.size W1 W') ∨ (e = .returned (.bool false) ∧ Jx (pre ++ [x]) W' ∧ KeepsBk W.heap.size W1 W')) →
    J [] W →
    CallsIn F n P g (#[.func (.yield l) #[] #[]] ++ lb) W fun e W' => (∃ v, e = .returned v) ∧ ((∃ xs, S xs ∧ J xs W') ∨ (∃ pre, Sp pre ∧ Jx pre W'))

theorem keeps_put {B l : Nat} {W : World} (o : Obj) (h : l < B) : KeepsBk B W (W.putObj l o) :=
  KeepsBk.of_grownBy (grownBy_putObj' W l o) (fun j e => by cases e; exact h)

theorem wpIn_rangeFunc_ownB {α : Type} {g : Operand} {ps : Array Tmp} {assign body : Code} {Q : Exit → Act → World → Prop} {a : Act} {w : World}
    (hro : F.round = none) (h1 : 1 ≤ n) {gf : Nat} {lb : Array Value} (hg : a.eval g = .func (.func gf) #[] lb) (hFg : F.fn gf) (eg : ∀ args w, (callFunc gf args).run P w = .ok (.enter gf args) w)
    {encs : α → Array Value} {Kp : World → World → Prop} {S Sp : List α → Prop} {N : Nat} {w0 : World} (hseq : SeqStopsB F (n - 1) P gf lb encs Kp S Sp N w0)
    (hKt : ∀ {A B C : World}, Kp A B → Kp B C → Kp A C) (hKb : ∀ (W : World) (l : Nat) (o o' : Obj), w.heap.size ≤ l → W.heap[l]? = some o → o.isCells = false → o.isWalk = false → Kp W (W.putObj l o')) (hb0 : Below w0.heap.size w0 w) (hps : ∀ x, (encs x).size = ps.size)
    (I : List α → World → Prop) (Ix : Code → List α → World → Prop) (hI : OwnBk w.heap.size I) (hIx : ∀ c, OwnBk w.heap.size (Ix c)) (h0 : I [] w) (a₁ : α → Act)
    (hassign : ∀ (l : Nat) (x : α) (W : World) (K : Act → World → Prop), K (a₁ x) W →
      assign.wpIn (F.inRound l) (n - 1 - 1) P (Exit.then K (fun _ _ _ => False)) { tmps := (ps.zip (encs x)).foldl (fun t (p, v) => t.setIfInBounds p v) a.tmps, defers := [] } W)
    (hbody : ∀ (l : Nat) (pre : List α) (x : α) (W : World), I pre W → pre.length < N → Sp (pre ++ [x]) → body.wpIn (F.inRound l) (n - 1 - 1) P (ownPostB w.heap.size Kp I Ix (pre ++ [x]) W) (a₁ x) W)
    (hdone : ∀ (D : Nat) (xs : List α) (W : World), w.heap.size ≤ D → S xs → I xs W → W.heap[D]? = some (.deferred (some [])) → Q .normal { a with defers := { target := .collected D, args := #[] } :: a.defers } W)
    (hstop : ∀ (D : Nat) (c : Code) (pre : List α) (W : World), w.heap.size ≤ D → Sp pre → Ix c pre W → W.heap[D]? = some (.deferred (some [])) → c.wpIn F n P Q { a with defers := { target := .collected D, args := #[] } :: a.defers } W) :
    (Code.rangeFunc g ps assign body).wpIn F n P Q a w := by
  refine wpIn_rangeFunc ?_
  intro fn hfn
  rw [hro]
  obtain ⟨rec, hrec⟩ : ∃ rec : LoopState → Option Code → Loop, rec = fun st pe => { state := st, pending := pe, fn, tmps := a.tmps, params := ps, assign, body, defers := w.heap.size } := ⟨_, rfl⟩
  obtain ⟨W1, hW1⟩ : ∃ W1, (w.alloc (.deferred (some []))).alloc (.loop (rec .ready none)) = W1 := ⟨_, rfl⟩
  have hsz1 : W1.heap.size = w.heap.size + 2 := by rw [← hW1]; simp
  have hL1 : W1.heap[w.heap.size + 1]? = some (.loop (rec .ready none)) := by
    rw [← hW1]; have := World.alloc_heap_new (w.alloc (.deferred (some []))) (.loop (rec .ready none)); rwa [World.size_alloc] at this
  have hK1 : W1.heap[w.heap.size]? = some (.deferred (some [])) := by
    rw [← hW1]; exact (Below.heap_alloc _ _ _ (by simp)).trans (World.alloc_heap_new w _)
  have hI1 : I [] W1 := by rw [← hW1]; exact hI.alloc _ (hI.alloc _ h0)
  have hb1 : Below w0.heap.size w0 W1 := by
    rw [← hW1]; exact hb0.trans ((((Below.refl _ w).alloc (Nat.le_refl _) _).alloc (by simp) _).mono hb0.size)
  refine ⟨w.heap.size + 1, [{ target := .collected w.heap.size, args := #[] }], W1, { target := .fn (.func gf) lb, args := #[.func (.yield (w.heap.size + 1)) #[] #[]] }, W1, gf,
    #[.func (.yield (w.heap.size + 1)) #[] #[]] ++ lb, W1, ?_, ?_, ?_, ?_, fun _ => h1, ?_⟩
  · rw [← hW1, hrec]; exact run_enterLoop_outer _ _ _ _ _
  · simp only [resolve, hg]
    simp [go_sem]
  · intro f' hf'; simp [Target.leads] at hf'; subst hf'; exact hFg
  · simp [invoke, go_sem, eg]
  · have hnw : ∀ {A : World} {row : Option Nat}, (∀ r, row = some r → W1.heap.size ≤ r ∧ ∃ o : Obj, A.heap[r]? = some o ∧ isBook o = true) → (∀ r, row = some r → w.heap.size ≤ r ∧ ∃ o : Obj, A.heap[r]? = some o ∧ isBook o = true) :=
      fun hr r e => ⟨by have := (hr r e).1; omega, (hr r e).2⟩
    have hkeep : ∀ {A B : World} {row : Option Nat} {k : Nat} {o : Obj}, A.grownBy B row → (∀ r, row = some r → W1.heap.size ≤ r ∧ ∃ o : Obj, A.heap[r]? = some o ∧ isBook o = true) → k < W1.heap.size → A.heap[k]? = some o → B.heap[k]? = some o :=
      fun {A B row k o} hg' hr hk h => (hg'.block k (Array.getElem?_eq_some_iff.1 h).1 (fun e => by have := (hr k e.symm).1; omega)).trans h
    refine (hseq (w.heap.size + 1)
      (fun pre W => I pre W ∧ W.heap[w.heap.size + 1]? = some (.loop (rec .ready none)) ∧ W.heap[w.heap.size]? = some (.deferred (some [])))
      (fun pre W => ∃ c, Ix c pre W ∧ W.heap[w.heap.size + 1]? = some (.loop (rec .done (some c))) ∧ W.heap[w.heap.size]? = some (.deferred (some [])))
      W1 hb1
      (fun s A B row hs hg' hr => ⟨hI s A B row hs.1 hg' (hnw hr), hkeep hg' hr (by omega) hs.2.1, hkeep hg' hr (by omega) hs.2.2⟩)
      (fun s A B row hs hg' hr => by
        obtain ⟨c, hc, hl, hk⟩ := hs
        exact ⟨c, hIx c s A B row hc hg' (hnw hr), hkeep hg' hr (by omega) hl, hkeep hg' hr (by omega) hk⟩)
      ?_ ⟨hI1, hL1, hK1⟩).mono ?_
    · rintro pre x W ⟨hi, hl, hk⟩ hlen hsp
      have hlt : w.heap.size + 1 < W.heap.size := (Array.getElem?_eq_some_iff.1 hl).1
      have hy := run_yield (P := P) (args := encs x) hl (by rw [hrec]; exact hps x)
      rw [hrec] at hy
      refine ⟨fn, _, assign, body, hy, roundIn_of_wpIn hfn (hassign _ x W _ ?_)⟩
      clear hy
      refine ⟨_, run_beginRound hl (by rw [hrec]), ?_⟩
      have hl2 : (W.putObj (w.heap.size + 1) (.loop { rec .ready none with state := .busy })).heap[w.heap.size + 1]? = some (.loop { rec .ready none with state := .busy }) := World.putObj_heap_same hlt
      have hk2 : (W.putObj (w.heap.size + 1) (.loop { rec .ready none with state := .busy })).heap[w.heap.size]? = some (.deferred (some [])) := (World.putObj_heap_other (by omega)).trans hk
      have hw2 : Kp W (W.putObj (w.heap.size + 1) (.loop { rec .ready none with state := .busy })) := hKb _ _ _ _ (by omega) hl rfl rfl
      have hf2 : KeepsBk W1.heap.size W (W.putObj (w.heap.size + 1) (.loop { rec .ready none with state := .busy })) := keeps_put _ (by omega)
      refine wpIn_mono (hbody _ pre x _ (hI.putObj _ hi (by omega) hl rfl) hlen hsp) ?_
      have fin : ∀ (jump : Option Code) (W3 : World), KeepsBk w.heap.size (W.putObj (w.heap.size + 1) (.loop { rec .ready none with state := .busy })) W3 →
          (Instr.endRound (w.heap.size + 1) jump).run P W3 = .ok (.bool jump.isNone) (W3.putObj (w.heap.size + 1) (.loop (rec (if jump.isNone then .ready else .done) jump))) ∧
          W3.heap[w.heap.size + 1]? = some (.loop { rec .ready none with state := .busy }) ∧
          (W3.putObj (w.heap.size + 1) (.loop (rec (if jump.isNone then .ready else .done) jump))).heap[w.heap.size + 1]? = some (.loop (rec (if jump.isNone then .ready else .done) jump)) ∧
          (W3.putObj (w.heap.size + 1) (.loop (rec (if jump.isNone then .ready else .done) jump))).heap[w.heap.size]? = some (.deferred (some [])) ∧
          KeepsBk W1.heap.size W (W3.putObj (w.heap.size + 1) (.loop (rec (if jump.isNone then .ready else .done) jump))) := fun jump W3 hk3 => by
        have hl3 := hk3.same _ _ (by omega) hl2 rfl
        have := run_endRound (P := P) jump hl3
        rw [hrec] at this ⊢
        refine ⟨this, by rw [hrec] at hl3; exact hl3, World.putObj_heap_same (Array.getElem?_eq_some_iff.1 hl3).1, (World.putObj_heap_other (by omega)).trans (hk3.same _ _ (Nat.le_refl _) hk2 rfl), ?_⟩
        refine hf2.trans (KeepsBk.trans ⟨hk3.size, fun k o hB hk ho => hk3.same k o (by omega) hk ho⟩ (keeps_put _ (by omega)))
      rintro e a3 W3 hp
      cases e with
      | normal =>
        obtain ⟨hk3, hkp3, hi3⟩ := hp
        obtain ⟨hr, hl3, hl4, hk4, hkf⟩ := fin none W3 hk3
        exact ⟨_, _, hr, .inl ⟨rfl, ⟨hI.putObj _ hi3 (by omega) hl3 rfl, hl4, hk4⟩, hKt (hKt hw2 hkp3) (hKb _ _ _ _ (by omega) hl3 rfl rfl), hkf⟩⟩
      | ret =>
        obtain ⟨hk3, hi3⟩ := hp
        obtain ⟨hr, hl3, hl4, hk4, hkf⟩ := fin (some .ret) W3 hk3
        exact ⟨_, _, hr, .inr ⟨rfl, ⟨.ret, (hIx _).putObj _ hi3 (by omega) hl3 rfl, hl4, hk4⟩, hkf⟩⟩
      | exit id =>
        obtain ⟨hk3, hi3⟩ := hp
        obtain ⟨hr, hl3, hl4, hk4, hkf⟩ := fin (some (.exit id)) W3 hk3
        exact ⟨_, _, hr, .inr ⟨rfl, ⟨.exit id, (hIx _).putObj _ hi3 (by omega) hl3 rfl, hl4, hk4⟩, hkf⟩⟩
      | goto t =>
        obtain ⟨hk3, hi3⟩ := hp
        obtain ⟨hr, hl3, hl4, hk4, hkf⟩ := fin (some (.goto t)) W3 hk3
        exact ⟨_, _, hr, .inr ⟨rfl, ⟨.goto t, (hIx _).putObj _ hi3 (by omega) hl3 rfl, hl4, hk4⟩, hkf⟩⟩
      | panic ch => exact hp.elim
      | outgrown => exact hp.elim
    · rintro e W2 ⟨⟨v, rfl⟩, (⟨xs, hS, hi, hl, hk⟩ | ⟨pre, hSp, c, hi, hl, hk⟩)⟩
      · exact ⟨none, _, by have := run_endLoop (P := P) hl (by rw [hrec]; simp); rw [hrec] at this; exact this, hdone _ xs _ (Nat.le_refl _) hS (hI.putObj _ hi (by omega) hl rfl) ((World.putObj_heap_other (by omega)).trans hk)⟩
      · exact ⟨some c, _, by have := run_endLoop (P := P) hl (by rw [hrec]; simp); rw [hrec] at this; exact this, hstop _ c pre _ (Nat.le_refl _) hSp ((hIx c).putObj _ hi (by omega) hl rfl) ((World.putObj_heap_other (by omega)).trans hk)⟩
end Go.Proofs.Ytchlemajppnehaa
