/- 2 texts put together: Lrn, Lro. -/
import Derived.Test.YtchlemajppnehaaJW4
/- A ring of seats: what holds of it. -/
set_option maxRecDepth 100000
namespace Go.Proofs.Ytchlemajppnehaa
namespace Lr
open Tb
/-- The ring's own indices in order: p on probation, q protected, fl in no part yet. -/
structure InvF (S : St) (p q fl : List Nat) (N : Nat) : Prop where
  two : 2 ≤ S.T.rows.length
  len : S.T.rows.length ≤ N + 2
  cnt0 : S.c0 = p.length
  cnt1 : S.c1 = q.length
  adj : Adj S.T.rows (1 :: (p ++ 0 :: (q ++ [1])))
  nd : (0 :: 1 :: (p ++ (q ++ (fl ++ S.T.spare)))).Nodup
  lt : ∀ i ∈ p ++ (q ++ (fl ++ S.T.spare)), i < S.T.rows.length
  a0 : ∀ i ∈ p, (rat S.T.rows i).a = 0
  a1 : ∀ i ∈ q, (rat S.T.rows i).a = 1
  g : ∀ k i, S.T.g k = some i ↔ i ∈ p ++ (q ++ fl) ∧ (rat S.T.rows i).k = k
  wf : ∀ i ∈ p ++ (q ++ fl), I64 (rat S.T.rows i).k
variable {S : St} {p q fl : List Nat} {N : Nat}
theorem pigeon : ∀ (n : Nat) (l : List Nat), l.Nodup → (∀ i ∈ l, i < n) → l.length ≤ n
  | 0, l, _, h => by
    cases l with
    | nil => exact Nat.le_refl _
    | cons a l => exact absurd (h a (by simp)) (by omega)
  | n + 1, l, hn, h => by
    have h1 := pigeon n (l.erase n) (hn.erase n) (fun i hi => by
      have h2 := h i (List.mem_of_mem_erase hi)
      have h3 : i ≠ n := fun e => by subst e; exact absurd hi (List.Nodup.not_mem_erase hn)
      omega)
    have h4 := List.le_length_erase (a := n) (l := l)
    omega
theorem InvF.bounds (h : InvF S p q fl N) : p.length + (q.length + (fl.length + S.T.spare.length)) + 2 ≤ S.T.rows.length := by
  have := pigeon S.T.rows.length _ h.nd (fun i hi => by
    rw [List.mem_cons, List.mem_cons] at hi
    have := h.two
    rcases hi with rfl | rfl | hi
    · omega
    · omega
    · exact h.lt i hi)
  simpa [Nat.add_assoc, Nat.add_comm, Nat.add_left_comm] using this
/-- The ring has none twice. -/
theorem ringNd {p q s : List Nat} (h : (0 :: 1 :: (p ++ (q ++ s))).Nodup) : (1 :: (p ++ 0 :: q)).Nodup ∧ (p ++ 0 :: (q ++ [1])).Nodup := by
  have h0 : (0 :: 1 :: (p ++ q)).Nodup := h.sublist (by rw [← List.append_assoc]; exact ((List.sublist_append_left _ _).cons_cons 1).cons_cons 0)
  refine ⟨?_, ?_⟩
  · have hp : (0 :: 1 :: (p ++ q)).Perm (1 :: (p ++ 0 :: q)) := (List.Perm.swap _ _ _).trans ((List.perm_middle.symm).cons 1)
    exact hp.nodup_iff.1 h0
  · have hp : (0 :: 1 :: (p ++ q)).Perm (p ++ 0 :: (q ++ [1])) := by
      have e1 : (1 :: (p ++ q)).Perm (p ++ (q ++ [1])) := by rw [← List.append_assoc]; exact (List.perm_append_singleton 1 (p ++ q)).symm
      exact (e1.cons 0).trans (List.perm_middle.symm)
    exact hp.nodup_iff.1 h0
theorem setA_adj {rows : List Row} {L : List Nat} (h : Adj rows L) {i : Nat} (hi : i < rows.length) (x : Int) : Adj (setA rows i x) L :=
  h.congr (fun s _ => (setA_at rows hi x (j := s)).2.2.2) (fun s _ => (setA_at rows hi x (j := s)).2.2.1)
theorem ring_at {rows : List Row} {x m u : Nat} (hx : x < rows.length) (hm : m < rows.length) (hu : (rat rows m).b = u) (hul : u < rows.length) (_hmx : m ≠ x) (i : Nat) :
    (rat (ring rows x m) i).k = (rat rows i).k ∧ (rat (ring rows x m) i).a = (if i = x then (m : Int) else (rat rows i).a) ∧ (ring rows x m).length = rows.length ∧ ring rows x m = link (link (setA rows x (m : Int)) u x) x m := by
  have hs := fun j => setA_at rows hx (m : Int) (j := j)
  have hb : (rat (setA rows x m) m).b = u := (hs m).2.2.1.trans hu
  unfold ring
  rw [hb]
  have h1 := link_at (setA rows x m) (o := u) (n := x) (i := i) (by rw [setA_len]; exact hul) (by rw [setA_len]; exact hx)
  have h2 := link_at (link (setA rows x m) u x) (o := x) (n := m) (i := i) (by rw [link_len, setA_len]; exact hx) (by rw [link_len, setA_len]; exact hm)
  exact ⟨h2.1.trans (h1.1.trans (hs i).1), h2.2.1.trans (h1.2.1.trans (hs i).2.1), by rw [link_len, link_len, setA_len], rfl⟩
theorem split_last (x : Nat) (l : List Nat) : ∃ A u, x :: l = A ++ [u] := ⟨(x :: l).dropLast, (x :: l).getLast (by simp), (List.dropLast_concat_getLast (by simp)).symm⟩
/-- One of no part becomes the newest on probation. -/
theorem InvF.join0 {x : Nat} (h : InvF S p q [x] N) : ((rat (setA S.T.rows x 0) 0).b < S.T.rows.length ∧ x < S.T.rows.length) ∧ InvF (S.join x 0) (p ++ [x]) q [] N ∧ (∀ i, (rat (S.join x 0).T.rows i).k = (rat S.T.rows i).k) := by
  have hnd := h.nd
  have htwo := h.two
  have hx : x < S.T.rows.length := h.lt x (by simp)
  obtain ⟨A, u, hA⟩ := split_last 1 p
  have hring : (1 :: (p ++ 0 :: (q ++ [1]))) = A ++ u :: 0 :: (q ++ [1]) := by rw [← List.cons_append, hA]; simp
  have hadj := h.adj
  rw [hring] at hadj
  have hu0 : (rat S.T.rows 0).b = u := ((Adj.cut (rows := S.T.rows) (A := A) (x := u)).1 hadj).2.1.2
  have hum : u ∈ 1 :: p := hA ▸ (by simp)
  have hul : u < S.T.rows.length := by
    rw [List.mem_cons] at hum
    rcases hum with rfl | e
    · omega
    · exact h.lt u (by simp [e])
  obtain ⟨nd1, nd2⟩ := ringNd hnd
  have hnx : x ∉ 0 :: 1 :: (p ++ q) := by
    have hp : (0 :: 1 :: (p ++ (q ++ ([x] ++ S.T.spare)))).Perm (x :: (0 :: 1 :: (p ++ (q ++ S.T.spare)))) := by
      have e : (0 :: 1 :: (p ++ (q ++ ([x] ++ S.T.spare)))) = (0 :: 1 :: (p ++ q)) ++ x :: S.T.spare := by simp
      rw [e]
      refine List.perm_middle.trans ?_
      rw [show (0 :: 1 :: (p ++ q)) ++ S.T.spare = (0 :: 1 :: (p ++ (q ++ S.T.spare))) by simp]
    have := (List.nodup_cons.1 (hp.nodup_iff.1 hnd)).1
    intro e
    apply this
    simp only [List.mem_cons, List.mem_append] at e ⊢
    rcases e with e | e | e | e
    · exact .inl e
    · exact .inr (.inl e)
    · exact .inr (.inr (.inl e))
    · exact .inr (.inr (.inr (.inl e)))
  simp only [List.mem_cons, List.mem_append, not_or] at hnx
  obtain ⟨hx0, hx1, hxp, hxq⟩ := hnx
  have hr := fun i => ring_at (rows := S.T.rows) (x := x) (m := 0) hx (by omega) hu0 hul (Ne.symm hx0) i
  have hb0 : (rat (setA S.T.rows x 0) 0).b = u := (setA_at S.T.rows hx 0 (j := 0)).2.2.1.trans hu0
  refine ⟨⟨by rw [hb0]; exact hul, hx⟩, ?_, fun i => (hr i).1⟩
  have hd : (A ++ u :: 0 :: (q ++ [1])).dropLast.Nodup ∧ (A ++ u :: 0 :: (q ++ [1])).tail.Nodup ∧ x ∉ A ++ u :: 0 :: (q ++ [1]) := by
    rw [← hring]
    refine ⟨?_, nd2, ?_⟩
    · have : (1 :: (p ++ 0 :: (q ++ [1]))).dropLast = 1 :: (p ++ 0 :: q) := by
        rw [List.dropLast_cons_of_ne_nil (by simp), List.dropLast_append_of_ne_nil (by simp), List.dropLast_cons_of_ne_nil (by simp), List.dropLast_concat]
      rw [this]
      exact nd1
    · simp only [List.mem_cons, List.mem_append, not_or]
      exact ⟨hx1, hxp, hx0, hxq, hx1, by simp⟩
  have hput := Adj.put (setA_adj hadj hx (0 : Nat)) (x := x) (by rw [setA_len]; exact hul) (by rw [setA_len]; omega) (by rw [setA_len]; exact hx) hd.1 hd.2.1 hd.2.2
  rw [← (hr 0).2.2.2] at hput
  have hring2 : (1 :: ((p ++ [x]) ++ 0 :: (q ++ [1]))) = A ++ u :: x :: 0 :: (q ++ [1]) := by
    rw [List.append_assoc, ← List.cons_append, hA]; simp
  have hmv : ∀ s : List Nat, ((p ++ [x]) ++ (q ++ ([] ++ s))).Perm (p ++ (q ++ ([x] ++ s))) := fun s => by
    rw [List.append_assoc]
    exact List.Perm.append_left p (by simpa using (List.perm_middle (a := x) (l₁ := q) (l₂ := s)).symm)
  have hmv0 : ∀ i, i ∈ (p ++ [x]) ++ (q ++ []) ↔ i ∈ p ++ (q ++ [x]) := fun i => by simpa using (hmv []).mem_iff (a := i)
  refine ⟨by show 2 ≤ (ring _ _ _).length; rw [(hr 0).2.2.1]; exact htwo, by show (ring _ _ _).length ≤ _; rw [(hr 0).2.2.1]; exact h.len, ?_, h.cnt1, by rw [hring2]; exact hput, ?_, ?_, ?_, ?_, ?_, ?_⟩
  · show (if (0 : Nat) = 0 then S.c0 + 1 else S.c0) = _
    rw [if_pos rfl, h.cnt0, List.length_append, List.length_singleton]
  · show (0 :: 1 :: ((p ++ [x]) ++ (q ++ ([] ++ S.T.spare)))).Nodup
    exact ((hmv S.T.spare).cons 1 |>.cons 0).nodup_iff.2 hnd
  · intro i hi
    show i < (ring _ _ _).length
    rw [(hr 0).2.2.1]
    exact h.lt i ((hmv S.T.spare).mem_iff.1 hi)
  · intro i hi
    show (rat (ring _ _ _) i).a = 0
    rw [(hr i).2.1]
    by_cases e : i = x
    · rw [if_pos e]; rfl
    · rw [if_neg e]
      refine h.a0 i ?_
      simp only [List.mem_append, List.mem_singleton] at hi
      exact hi.resolve_right e
  · intro i hi
    show (rat (ring _ _ _) i).a = 1
    rw [(hr i).2.1, if_neg (show ¬ i = x from fun e => hxq (e ▸ hi))]
    exact h.a1 i hi
  · intro k i
    show S.T.g k = some i ↔ _ ∧ (rat (ring _ _ _) i).k = k
    rw [(hr i).1, h.g k i, hmv0]
  · intro i hi
    show I64 (rat (ring _ _ _) i).k
    rw [(hr i).1]
    exact h.wf i ((hmv0 i).1 hi)
/-- One of no part becomes the newest protected one. -/
theorem InvF.join1 {x : Nat} (h : InvF S p q [x] N) : ((rat (setA S.T.rows x 1) 1).b < S.T.rows.length ∧ x < S.T.rows.length) ∧ InvF (S.join x 1) p (q ++ [x]) [] N ∧ (∀ i, (rat (S.join x 1).T.rows i).k = (rat S.T.rows i).k) := by
  have hnd := h.nd
  have htwo := h.two
  have hx : x < S.T.rows.length := h.lt x (by simp)
  obtain ⟨A, u, hA⟩ := split_last 1 (p ++ 0 :: q)
  have hring : (1 :: (p ++ 0 :: (q ++ [1]))) = A ++ u :: 1 :: [] := by
    have : (1 :: (p ++ 0 :: (q ++ [1]))) = (1 :: (p ++ 0 :: q)) ++ [1] := by simp
    rw [this, hA]; simp
  have hadj := h.adj
  rw [hring] at hadj
  have hu0 : (rat S.T.rows 1).b = u := ((Adj.cut (rows := S.T.rows) (A := A) (x := u)).1 hadj).2.1.2
  have hum : u ∈ 1 :: (p ++ 0 :: q) := hA ▸ (by simp)
  have hul : u < S.T.rows.length := by
    rw [List.mem_cons, List.mem_append, List.mem_cons] at hum
    rcases hum with rfl | e | rfl | e
    · omega
    · exact h.lt u (by simp [e])
    · omega
    · exact h.lt u (by simp [e])
  obtain ⟨nd1, nd2⟩ := ringNd hnd
  have hnx : x ∉ 0 :: 1 :: (p ++ q) := by
    have hp : (0 :: 1 :: (p ++ (q ++ ([x] ++ S.T.spare)))).Perm (x :: (0 :: 1 :: (p ++ (q ++ S.T.spare)))) := by
      have e : (0 :: 1 :: (p ++ (q ++ ([x] ++ S.T.spare)))) = (0 :: 1 :: (p ++ q)) ++ x :: S.T.spare := by simp
      rw [e]
      refine List.perm_middle.trans ?_
      rw [show (0 :: 1 :: (p ++ q)) ++ S.T.spare = (0 :: 1 :: (p ++ (q ++ S.T.spare))) by simp]
    have := (List.nodup_cons.1 (hp.nodup_iff.1 hnd)).1
    intro e
    apply this
    simp only [List.mem_cons, List.mem_append] at e ⊢
    rcases e with e | e | e | e
    · exact .inl e
    · exact .inr (.inl e)
    · exact .inr (.inr (.inl e))
    · exact .inr (.inr (.inr (.inl e)))
  simp only [List.mem_cons, List.mem_append, not_or] at hnx
  obtain ⟨hx0, hx1, hxp, hxq⟩ := hnx
  have hr := fun i => ring_at (rows := S.T.rows) (x := x) (m := 1) hx (by omega) hu0 hul (Ne.symm hx1) i
  have hb0 : (rat (setA S.T.rows x 1) 1).b = u := (setA_at S.T.rows hx 1 (j := 1)).2.2.1.trans hu0
  refine ⟨⟨by rw [hb0]; exact hul, hx⟩, ?_, fun i => (hr i).1⟩
  have hd : (A ++ u :: 1 :: []).dropLast.Nodup ∧ (A ++ u :: 1 :: []).tail.Nodup ∧ x ∉ A ++ u :: 1 :: [] := by
    rw [← hring]
    refine ⟨?_, nd2, ?_⟩
    · have : (1 :: (p ++ 0 :: (q ++ [1]))).dropLast = 1 :: (p ++ 0 :: q) := by
        rw [List.dropLast_cons_of_ne_nil (by simp), List.dropLast_append_of_ne_nil (by simp), List.dropLast_cons_of_ne_nil (by simp), List.dropLast_concat]
      rw [this]
      exact nd1
    · simp only [List.mem_cons, List.mem_append, not_or]
      exact ⟨hx1, hxp, hx0, hxq, hx1, by simp⟩
  have hput := Adj.put (setA_adj hadj hx (1 : Nat)) (x := x) (by rw [setA_len]; exact hul) (by rw [setA_len]; omega) (by rw [setA_len]; exact hx) hd.1 hd.2.1 hd.2.2
  rw [← (hr 0).2.2.2] at hput
  have hring2 : (1 :: (p ++ 0 :: ((q ++ [x]) ++ [1]))) = A ++ u :: x :: 1 :: [] := by
    have : (1 :: (p ++ 0 :: ((q ++ [x]) ++ [1]))) = (1 :: (p ++ 0 :: q)) ++ [x, 1] := by simp
    rw [this, hA]; simp
  have hmv : ∀ s : List Nat, (p ++ ((q ++ [x]) ++ ([] ++ s))).Perm (p ++ (q ++ ([x] ++ s))) := fun s => by
    rw [List.append_assoc]
    exact List.Perm.refl _
  have hmv0 : ∀ i, i ∈ p ++ ((q ++ [x]) ++ []) ↔ i ∈ p ++ (q ++ [x]) := fun i => by simp
  refine ⟨by show 2 ≤ (ring _ _ _).length; rw [(hr 0).2.2.1]; exact htwo, by show (ring _ _ _).length ≤ _; rw [(hr 0).2.2.1]; exact h.len, h.cnt0, ?_, by rw [hring2]; exact hput, ?_, ?_, ?_, ?_, ?_, ?_⟩
  · show (if (1 : Nat) = 0 then S.c1 else S.c1 + 1) = _
    rw [if_neg (by omega), h.cnt1, List.length_append, List.length_singleton]
  · show (0 :: 1 :: (p ++ ((q ++ [x]) ++ ([] ++ S.T.spare)))).Nodup
    exact ((hmv S.T.spare).cons 1 |>.cons 0).nodup_iff.2 hnd
  · intro i hi
    show i < (ring _ _ _).length
    rw [(hr 0).2.2.1]
    exact h.lt i ((hmv S.T.spare).mem_iff.1 hi)
  · intro i hi
    show (rat (ring _ _ _) i).a = 0
    rw [(hr i).2.1, if_neg (show ¬ i = x from fun e => hxp (e ▸ hi))]
    exact h.a0 i hi
  · intro i hi
    show (rat (ring _ _ _) i).a = 1
    rw [(hr i).2.1]
    by_cases e : i = x
    · rw [if_pos e]; rfl
    · rw [if_neg e]
      refine h.a1 i ?_
      simp only [List.mem_append, List.mem_singleton] at hi
      exact hi.resolve_right e
  · intro k i
    show S.T.g k = some i ↔ _ ∧ (rat (ring _ _ _) i).k = k
    rw [(hr i).1, h.g k i, hmv0]
  · intro i hi
    show I64 (rat (ring _ _ _) i).k
    rw [(hr i).1]
    exact h.wf i ((hmv0 i).1 hi)
/-- One leaves probation. -/
theorem InvF.leave0 {x : Nat} {p1 p2 : List Nat} (h : InvF S (p1 ++ x :: p2) q [] N) : (x < S.T.rows.length ∧ (rat S.T.rows x).b < S.T.rows.length ∧ (rat S.T.rows x).c < S.T.rows.length ∧ (rat S.T.rows x).a = 0 ∧ 0 < S.c0) ∧ InvF (S.leave x) (p1 ++ p2) q [x] N ∧ (∀ i, (rat (S.leave x).T.rows i).k = (rat S.T.rows i).k) := by
  have htwo := h.two
  have hnd := h.nd
  have hx : x < S.T.rows.length := h.lt x (by simp)
  have hax := h.a0 x (by simp)
  have hmv : ∀ s : List Nat, ((p1 ++ p2) ++ (q ++ ([x] ++ s))).Perm ((p1 ++ x :: p2) ++ (q ++ ([] ++ s))) := fun s => by
    simp only [List.append_assoc, List.nil_append, List.cons_append]
    refine List.Perm.append_left p1 ?_
    rw [← List.append_assoc p2]
    refine List.perm_middle.trans ?_
    rw [List.append_assoc]
  have hmv0 : ∀ i, i ∈ (p1 ++ p2) ++ (q ++ [x]) ↔ i ∈ (p1 ++ x :: p2) ++ (q ++ []) := fun i => by simpa using (hmv []).mem_iff (a := i)
  have hnd2 : (0 :: 1 :: ((p1 ++ p2) ++ (q ++ ([x] ++ S.T.spare)))).Nodup := ((hmv S.T.spare).cons 1 |>.cons 0).nodup_iff.2 hnd
  obtain ⟨nd1, nd2⟩ := ringNd hnd2
  obtain ⟨A, u, hA⟩ := split_last 1 p1
  obtain ⟨m, B, hB⟩ : ∃ m B, p2 ++ 0 :: (q ++ [1]) = m :: B := by cases p2 <;> exact ⟨_, _, rfl⟩
  have hring : (1 :: ((p1 ++ x :: p2) ++ 0 :: (q ++ [1]))) = A ++ u :: x :: m :: B := by
    have : (1 :: ((p1 ++ x :: p2) ++ 0 :: (q ++ [1]))) = (1 :: p1) ++ x :: (p2 ++ 0 :: (q ++ [1])) := by simp
    rw [this, hA, hB]; simp
  have hring2 : (1 :: ((p1 ++ p2) ++ 0 :: (q ++ [1]))) = A ++ u :: m :: B := by
    have : (1 :: ((p1 ++ p2) ++ 0 :: (q ++ [1]))) = (1 :: p1) ++ (p2 ++ 0 :: (q ++ [1])) := by simp
    rw [this, hA, hB]; simp
  have hadj := h.adj
  rw [hring] at hadj
  have hmem : ∀ i, i ∈ (1 :: ((p1 ++ x :: p2) ++ 0 :: (q ++ [1]))) → i < S.T.rows.length := fun i hi => by
    simp only [List.mem_cons, List.mem_append, List.not_mem_nil, or_false] at hi
    rcases hi with rfl | (e | rfl | e) | rfl | e | rfl
    · omega
    · exact h.lt i (by simp [e])
    · exact hx
    · exact h.lt i (by simp [e])
    · omega
    · exact h.lt i (by simp [e])
    · omega
  have hul : u < S.T.rows.length := hmem u (by rw [hring]; simp)
  have hml : m < S.T.rows.length := hmem m (by rw [hring]; simp)
  obtain ⟨e1, e2, e3⟩ := Adj.out hadj hul hml (by
    rw [← hring2]
    have : (1 :: ((p1 ++ p2) ++ 0 :: (q ++ [1]))).dropLast = 1 :: ((p1 ++ p2) ++ 0 :: q) := by
      rw [List.dropLast_cons_of_ne_nil (by simp), List.dropLast_append_of_ne_nil (by simp), List.dropLast_cons_of_ne_nil (by simp), List.dropLast_concat]
    rw [this]
    exact nd1) (by rw [← hring2]; exact nd2)
  have hl := fun i => link_at S.T.rows hul hml (i := i)
  have hlen : (link S.T.rows u m).length = S.T.rows.length := link_len _ _ _
  have hlv : S.leave x = ⟨S.most, S.c0 - 1, S.c1, ⟨link S.T.rows u m, S.T.spare, S.T.g⟩⟩ := by
    unfold St.leave
    rw [hax, e1, e2, if_pos rfl, if_pos rfl]
  have hc := h.cnt0
  rw [List.length_append, List.length_cons] at hc
  refine ⟨⟨hx, e1 ▸ hul, e2 ▸ hml, hax, by omega⟩, ?_, fun i => by rw [hlv]; exact (hl i).1⟩
  rw [hlv]
  refine ⟨by show 2 ≤ (link _ _ _).length; rw [hlen]; exact htwo, by show (link _ _ _).length ≤ _; rw [hlen]; exact h.len, ?_, h.cnt1, by rw [hring2]; exact e3, hnd2, ?_, ?_, ?_, ?_, ?_⟩
  · show S.c0 - 1 = _
    rw [List.length_append]; omega
  · intro i hi
    show i < (link _ _ _).length
    rw [hlen]
    exact h.lt i ((hmv S.T.spare).mem_iff.1 hi)
  · intro i hi
    show (rat (link _ _ _) i).a = 0
    rw [(hl i).2.1]
    exact h.a0 i (by simp only [List.mem_append, List.mem_cons] at hi ⊢; exact hi.imp id .inr)
  · intro i hi
    show (rat (link _ _ _) i).a = 1
    rw [(hl i).2.1]
    exact h.a1 i hi
  · intro k i
    show S.T.g k = some i ↔ _ ∧ (rat (link _ _ _) i).k = k
    rw [(hl i).1, h.g k i, hmv0]
  · intro i hi
    show I64 (rat (link _ _ _) i).k
    rw [(hl i).1]
    exact h.wf i ((hmv0 i).1 hi)
/-- One leaves the protected ones. -/
theorem InvF.leave1 {x : Nat} {q1 q2 : List Nat} (h : InvF S p (q1 ++ x :: q2) [] N) : (x < S.T.rows.length ∧ (rat S.T.rows x).b < S.T.rows.length ∧ (rat S.T.rows x).c < S.T.rows.length ∧ (rat S.T.rows x).a = 1 ∧ 0 < S.c1) ∧ InvF (S.leave x) p (q1 ++ q2) [x] N ∧ (∀ i, (rat (S.leave x).T.rows i).k = (rat S.T.rows i).k) := by
  have htwo := h.two
  have hnd := h.nd
  have hx : x < S.T.rows.length := h.lt x (by simp)
  have hax := h.a1 x (by simp)
  have hmv : ∀ s : List Nat, (p ++ ((q1 ++ q2) ++ ([x] ++ s))).Perm (p ++ ((q1 ++ x :: q2) ++ ([] ++ s))) := fun s => by
    simp only [List.append_assoc, List.nil_append, List.cons_append]
    refine List.Perm.append_left p (List.Perm.append_left q1 ?_)
    exact List.perm_middle
  have hmv0 : ∀ i, i ∈ p ++ ((q1 ++ q2) ++ [x]) ↔ i ∈ p ++ ((q1 ++ x :: q2) ++ []) := fun i => by simpa using (hmv []).mem_iff (a := i)
  have hnd2 : (0 :: 1 :: (p ++ ((q1 ++ q2) ++ ([x] ++ S.T.spare)))).Nodup := ((hmv S.T.spare).cons 1 |>.cons 0).nodup_iff.2 hnd
  obtain ⟨nd1, nd2⟩ := ringNd hnd2
  obtain ⟨A, u, hA⟩ := split_last 1 (p ++ 0 :: q1)
  obtain ⟨m, B, hB⟩ : ∃ m B, q2 ++ [1] = m :: B := by cases q2 <;> exact ⟨_, _, rfl⟩
  have hring : (1 :: (p ++ 0 :: ((q1 ++ x :: q2) ++ [1]))) = A ++ u :: x :: m :: B := by
    have : (1 :: (p ++ 0 :: ((q1 ++ x :: q2) ++ [1]))) = (1 :: (p ++ 0 :: q1)) ++ x :: (q2 ++ [1]) := by simp
    rw [this, hA, hB]; simp
  have hring2 : (1 :: (p ++ 0 :: ((q1 ++ q2) ++ [1]))) = A ++ u :: m :: B := by
    have : (1 :: (p ++ 0 :: ((q1 ++ q2) ++ [1]))) = (1 :: (p ++ 0 :: q1)) ++ (q2 ++ [1]) := by simp
    rw [this, hA, hB]; simp
  have hadj := h.adj
  rw [hring] at hadj
  have hmem : ∀ i, i ∈ (1 :: (p ++ 0 :: ((q1 ++ x :: q2) ++ [1]))) → i < S.T.rows.length := fun i hi => by
    simp only [List.mem_cons, List.mem_append, List.not_mem_nil, or_false] at hi
    rcases hi with rfl | e | rfl | (e | rfl | e) | rfl
    · omega
    · exact h.lt i (by simp [e])
    · omega
    · exact h.lt i (by simp [e])
    · exact hx
    · exact h.lt i (by simp [e])
    · omega
  have hul : u < S.T.rows.length := hmem u (by rw [hring]; simp)
  have hml : m < S.T.rows.length := hmem m (by rw [hring]; simp)
  obtain ⟨e1, e2, e3⟩ := Adj.out hadj hul hml (by
    rw [← hring2]
    have : (1 :: (p ++ 0 :: ((q1 ++ q2) ++ [1]))).dropLast = 1 :: (p ++ 0 :: (q1 ++ q2)) := by
      rw [List.dropLast_cons_of_ne_nil (by simp), List.dropLast_append_of_ne_nil (by simp), List.dropLast_cons_of_ne_nil (by simp), List.dropLast_concat]
    rw [this]
    exact nd1) (by rw [← hring2]; exact nd2)
  have hl := fun i => link_at S.T.rows hul hml (i := i)
  have hlen : (link S.T.rows u m).length = S.T.rows.length := link_len _ _ _
  have hlv : S.leave x = ⟨S.most, S.c0, S.c1 - 1, ⟨link S.T.rows u m, S.T.spare, S.T.g⟩⟩ := by
    unfold St.leave
    rw [hax, e1, e2, if_neg (by omega), if_neg (by omega)]
  have hc := h.cnt1
  rw [List.length_append, List.length_cons] at hc
  refine ⟨⟨hx, e1 ▸ hul, e2 ▸ hml, hax, by omega⟩, ?_, fun i => by rw [hlv]; exact (hl i).1⟩
  rw [hlv]
  refine ⟨by show 2 ≤ (link _ _ _).length; rw [hlen]; exact htwo, by show (link _ _ _).length ≤ _; rw [hlen]; exact h.len, h.cnt0, ?_, by rw [hring2]; exact e3, hnd2, ?_, ?_, ?_, ?_, ?_⟩
  · show S.c1 - 1 = _
    rw [List.length_append]; omega
  · intro i hi
    show i < (link _ _ _).length
    rw [hlen]
    exact h.lt i ((hmv S.T.spare).mem_iff.1 hi)
  · intro i hi
    show (rat (link _ _ _) i).a = 0
    rw [(hl i).2.1]
    exact h.a0 i hi
  · intro i hi
    show (rat (link _ _ _) i).a = 1
    rw [(hl i).2.1]
    exact h.a1 i (by simp only [List.mem_append, List.mem_cons] at hi ⊢; exact hi.imp id .inr)
  · intro k i
    show S.T.g k = some i ↔ _ ∧ (rat (link _ _ _) i).k = k
    rw [(hl i).1, h.g k i, hmv0]
  · intro i hi
    show I64 (rat (link _ _ _) i).k
    rw [(hl i).1]
    exact h.wf i ((hmv0 i).1 hi)
end Lr
end Go.Proofs.Ytchlemajppnehaa

/- A ring of seats: one comes in, one goes. -/
set_option maxRecDepth 100000
namespace Go.Proofs.Ytchlemajppnehaa
namespace Lr
open Tb
variable {S : St} {p q fl : List Nat} {N : Nat}
theorem rat_set {rows : List Row} {i : Nat} (h : i < rows.length) (r : Row) (j : Nat) : rat (rows.set i r) j = if j = i then r else rat rows j := by
  unfold rat
  simp only [List.getD_eq_getElem?_getD, List.getElem?_set]
  by_cases e : i = j
  · subst e; simp [h]
  · simp [e, Ne.symm e]
theorem rat_app {rows : List Row} (r : Row) {j : Nat} (h : j < rows.length) : rat (rows ++ [r]) j = rat rows j := by
  unfold rat
  simp only [List.getD_eq_getElem?_getD, List.getElem?_append_left h]
theorem InvF.ringLt (h : InvF S p q fl N) : ∀ i ∈ (1 :: (p ++ 0 :: (q ++ [1]))), i < S.T.rows.length := fun i hi => by
  have htwo := h.two
  simp only [List.mem_cons, List.mem_append, List.not_mem_nil, or_false] at hi
  rcases hi with rfl | e | rfl | e | rfl
  · omega
  · exact h.lt i (by simp [e])
  · omega
  · exact h.lt i (by simp [e])
  · omega
/-- Other rows, in which all of the ring are linked as they were. -/
theorem InvF.change (h : InvF S p q [] N) {S' : St} {fl' : List Nat} {N' : Nat} (hc : S'.c0 = S.c0 ∧ S'.c1 = S.c1) (hl : S.T.rows.length ≤ S'.T.rows.length) (hN : S'.T.rows.length ≤ N' + 2)
    (hr : ∀ i ∈ (1 :: (p ++ 0 :: (q ++ [1]))), rat S'.T.rows i = rat S.T.rows i) (hnd : (0 :: 1 :: (p ++ (q ++ (fl' ++ S'.T.spare)))).Nodup) (hlt : ∀ i ∈ fl' ++ S'.T.spare, i < S'.T.rows.length)
    (hg : ∀ k i, S'.T.g k = some i ↔ i ∈ p ++ (q ++ fl') ∧ (rat S'.T.rows i).k = k) (hwf : ∀ i ∈ fl', I64 (rat S'.T.rows i).k) : InvF S' p q fl' N' := by
  have hrp : ∀ i ∈ p, rat S'.T.rows i = rat S.T.rows i := fun i hi => hr i (by simp [hi])
  have hrq : ∀ i ∈ q, rat S'.T.rows i = rat S.T.rows i := fun i hi => hr i (by simp [hi])
  refine ⟨Nat.le_trans h.two hl, hN, hc.1.trans h.cnt0, hc.2.trans h.cnt1, h.adj.congr (fun s hs => by rw [hr s (List.dropLast_subset _ hs)]) (fun s hs => by rw [hr s (List.mem_of_mem_tail hs)]), hnd, ?_, fun i hi => by rw [hrp i hi]; exact h.a0 i hi, fun i hi => by rw [hrq i hi]; exact h.a1 i hi, hg, ?_⟩
  · intro i hi
    rw [List.mem_append, List.mem_append] at hi
    rcases hi with e | e | e
    · exact Nat.lt_of_lt_of_le (h.lt i (by simp [e])) hl
    · exact Nat.lt_of_lt_of_le (h.lt i (by simp [e])) hl
    · exact hlt i e
  · intro i hi
    rw [List.mem_append, List.mem_append] at hi
    rcases hi with e | e | e
    · rw [hrp i e]; exact h.wf i (by simp [e])
    · rw [hrq i e]; exact h.wf i (by simp [e])
    · exact hwf i e
theorem InvF.add (h : InvF S p q [] N) {k : Int} (hk : I64 k) (hg : S.T.g k = none) : InvF { S with T := S.T.add k } p q [S.T.free] (N + 1) ∧ (rat (S.T.add k).rows S.T.free).k = k ∧ (∀ i ∈ p ++ q, (rat (S.T.add k).rows i).k = (rat S.T.rows i).k) ∧ (S.T.add k).rows.length ≤ S.T.rows.length + 1 := by
  have hnd := h.nd
  have hlen := h.len
  have hring := h.ringLt
  have fin : ∀ (x : Nat) (rows' : List Row) (s : List Nat), S.T.add k = ⟨rows', s, updO S.T.g k (some x)⟩ → S.T.free = x → S.T.rows.length ≤ rows'.length → rows'.length ≤ S.T.rows.length + 1 → x < rows'.length → (rat rows' x).k = k →
      (∀ i, i < S.T.rows.length → i ≠ x → rat rows' i = rat S.T.rows i) → (0 :: 1 :: (p ++ (q ++ ([x] ++ s)))).Nodup → (∀ i ∈ s, i < rows'.length) → InvF { S with T := S.T.add k } p q [S.T.free] (N + 1) ∧ (rat (S.T.add k).rows S.T.free).k = k ∧ (∀ i ∈ p ++ q, (rat (S.T.add k).rows i).k = (rat S.T.rows i).k) ∧ (S.T.add k).rows.length ≤ S.T.rows.length + 1 := by
    intro x rows' s e1 e2 l1 l2 hx hxk hro hn hs
    rw [e1, e2]
    have hxn : x ∉ 0 :: 1 :: (p ++ q) := by
      have hp : (0 :: 1 :: (p ++ (q ++ ([x] ++ s)))).Perm (x :: (0 :: 1 :: (p ++ (q ++ s)))) := by
        have e : (0 :: 1 :: (p ++ (q ++ ([x] ++ s)))) = (0 :: 1 :: (p ++ q)) ++ x :: s := by simp
        rw [e]
        refine List.perm_middle.trans ?_
        rw [show (0 :: 1 :: (p ++ q)) ++ s = (0 :: 1 :: (p ++ (q ++ s))) by simp]
      have := (List.nodup_cons.1 (hp.nodup_iff.1 hn)).1
      intro e
      apply this
      simp only [List.mem_cons, List.mem_append] at e ⊢
      rcases e with e | e | e | e
      · exact .inl e
      · exact .inr (.inl e)
      · exact .inr (.inr (.inl e))
      · exact .inr (.inr (.inr (.inl e)))
    simp only [List.mem_cons, List.mem_append, not_or] at hxn
    obtain ⟨hx0, hx1, hxp, hxq⟩ := hxn
    have hrr : ∀ i ∈ (1 :: (p ++ 0 :: (q ++ [1]))), rat rows' i = rat S.T.rows i := fun i hi => hro i (hring i hi) (fun e => by
      subst e
      simp only [List.mem_cons, List.mem_append, List.not_mem_nil, or_false] at hi
      rcases hi with e | e | e | e | e
      · exact hx1 e
      · exact hxp e
      · exact hx0 e
      · exact hxq e
      · exact hx1 e)
    have hkk : ∀ i ∈ p ++ q, rat rows' i = rat S.T.rows i := fun i hi => hrr i (by
      rw [List.mem_append] at hi
      rcases hi with e | e <;> simp [e])
    refine ⟨h.change (S' := { S with T := ⟨rows', s, updO S.T.g k (some x)⟩ }) ⟨rfl, rfl⟩ l1 (by show rows'.length ≤ _; omega) hrr hn (fun i hi => ?_) (fun k' i => ?_) (fun i hi => ?_), hxk, fun i hi => by rw [hkk i hi], l2⟩
    · rw [List.mem_append, List.mem_singleton] at hi
      rcases hi with rfl | e
      · exact hx
      · exact hs i e
    · show updO S.T.g k (some x) k' = some i ↔ _ ∧ (rat rows' i).k = k'
      unfold updO
      by_cases e : k' = k
      · subst e
        rw [if_pos rfl]
        constructor
        · intro e; cases e; exact ⟨by simp, hxk⟩
        · rintro ⟨h1, h2⟩
          rw [← List.append_assoc, List.mem_append, List.mem_singleton] at h1
          rcases h1 with e | rfl
          · rw [hkk i e] at h2
            have := (h.g k' i).2 ⟨by simpa using e, h2⟩
            rw [hg] at this
            cases this
          · rfl
      · rw [if_neg e, h.g k' i]
        constructor
        · rintro ⟨h1, h2⟩
          have h1 : i ∈ p ++ q := by simpa using h1
          exact ⟨by rw [← List.append_assoc, List.mem_append]; exact .inl h1, by rw [hkk i h1]; exact h2⟩
        · rintro ⟨h1, h2⟩
          rw [← List.append_assoc, List.mem_append, List.mem_singleton] at h1
          rcases h1 with e1 | rfl
          · exact ⟨by simpa using e1, by rw [← hkk i e1]; exact h2⟩
          · exact absurd (h2.symm.trans hxk) e
    · rw [List.mem_singleton] at hi
      subst hi
      show I64 (rat rows' i).k
      rw [hxk]; exact hk
  rcases List.eq_nil_or_concat S.T.spare with hs | ⟨s, j, hs⟩
  · have e1 : S.T.free = S.T.rows.length := by unfold Tab.free; rw [if_pos hs]
    have e2 : S.T.add k = ⟨S.T.rows ++ [{ zero with k := k }], [], updO S.T.g k (some S.T.rows.length)⟩ := by
      unfold Tab.add Tab.room
      rw [e1, hs, if_pos rfl]
      simp
    refine fin S.T.rows.length _ _ e2 e1 (by simp) (by simp) (by simp) (by simp [rat]) (fun i hi _ => rat_app _ hi) ?_ (fun i hi => by cases hi)
    rw [hs] at hnd
    have hp : (0 :: 1 :: (p ++ (q ++ ([S.T.rows.length] ++ ([] : List Nat))))).Perm (S.T.rows.length :: (0 :: 1 :: (p ++ (q ++ ([] ++ []))))) := by
      have e : (0 :: 1 :: (p ++ (q ++ ([S.T.rows.length] ++ ([] : List Nat))))) = (0 :: 1 :: (p ++ q)) ++ [S.T.rows.length] := by simp
      rw [e]
      refine (List.perm_append_singleton _ _).trans ?_
      simp
    refine hp.nodup_iff.2 (List.nodup_cons.2 ⟨fun e => ?_, hnd⟩)
    have := h.two
    simp only [List.mem_cons, List.mem_append, List.append_nil] at e
    rcases e with e | e | e | e
    · omega
    · omega
    · have := h.lt _ (List.mem_append_left _ e); omega
    · have := h.lt _ (List.mem_append_right _ (List.mem_append_left _ e)); omega
  · have e1 : S.T.free = j := by unfold Tab.free; rw [if_neg (by simp [hs])]; simp [hs]
    have hj : j < S.T.rows.length := h.lt j (by simp [hs])
    have e2 : S.T.add k = ⟨S.T.rows.set j { rat S.T.rows j with k := k }, s, updO S.T.g k (some j)⟩ := by
      unfold Tab.add Tab.room
      rw [e1, if_neg (by simp [hs]), hs]
      simp [rat]
    refine fin j _ _ e2 e1 (by simp) (by simp) (by simpa using hj) (by rw [rat_set hj, if_pos rfl]) (fun i hi hne => by rw [rat_set hj, if_neg hne]) ?_ (fun i hi => by rw [List.length_set]; exact h.lt i (by simp [hs, hi]))
    rw [hs] at hnd
    have hp : (0 :: 1 :: (p ++ (q ++ ([j] ++ s)))).Perm (0 :: 1 :: (p ++ (q ++ ([] ++ s.concat j)))) := by
      refine (((List.Perm.append_left q ?_).append_left p).cons 1).cons 0
      simp only [List.concat_eq_append, List.nil_append, List.cons_append]
      exact (List.perm_append_singleton j s).symm
    exact hp.nodup_iff.2 hnd
theorem InvF.drop {x : Nat} (h : InvF S p q [x] N) : x < S.T.rows.length ∧ I64 (rat S.T.rows x).k ∧ InvF { S with T := S.T.drop x } p q [] N ∧ (∀ i ∈ p ++ q, (rat (S.T.drop x).rows i).k = (rat S.T.rows i).k) := by
  have hnd := h.nd
  have hx : x < S.T.rows.length := h.lt x (by simp)
  have hring := h.ringLt
  have hxn : x ∉ 0 :: 1 :: (p ++ q) := by
    have hp : (0 :: 1 :: (p ++ (q ++ ([x] ++ S.T.spare)))).Perm (x :: (0 :: 1 :: (p ++ (q ++ S.T.spare)))) := by
      have e : (0 :: 1 :: (p ++ (q ++ ([x] ++ S.T.spare)))) = (0 :: 1 :: (p ++ q)) ++ x :: S.T.spare := by simp
      rw [e]
      refine List.perm_middle.trans ?_
      rw [show (0 :: 1 :: (p ++ q)) ++ S.T.spare = (0 :: 1 :: (p ++ (q ++ S.T.spare))) by simp]
    have := (List.nodup_cons.1 (hp.nodup_iff.1 hnd)).1
    intro e
    apply this
    simp only [List.mem_cons, List.mem_append] at e ⊢
    rcases e with e | e | e | e
    · exact .inl e
    · exact .inr (.inl e)
    · exact .inr (.inr (.inl e))
    · exact .inr (.inr (.inr (.inl e)))
  simp only [List.mem_cons, List.mem_append, not_or] at hxn
  obtain ⟨hx0, hx1, hxp, hxq⟩ := hxn
  have hrr : ∀ i, i ≠ x → rat (S.T.rows.set x zero) i = rat S.T.rows i := fun i hi => by rw [rat_set hx, if_neg hi]
  have hpx : ∀ i ∈ p, i ≠ x := fun i hi e => hxp (e ▸ hi)
  have hqx : ∀ i ∈ q, i ≠ x := fun i hi e => hxq (e ▸ hi)
  have hR : ∀ i ∈ (1 :: (p ++ 0 :: (q ++ [1]))), i ≠ x := fun i hi e => by
    subst e
    simp only [List.mem_cons, List.mem_append, List.not_mem_nil, or_false] at hi
    rcases hi with e | e | e | e | e
    · exact hx1 e
    · exact hxp e
    · exact hx0 e
    · exact hxq e
    · exact hx1 e
  have hpq : ∀ i ∈ p ++ q, i ≠ x := fun i hi => by
    rw [List.mem_append] at hi
    exact hi.elim (hpx i) (hqx i)
  have hkx : S.T.g (rat S.T.rows x).k = some x := (h.g _ _).2 ⟨by simp, rfl⟩
  refine ⟨hx, h.wf x (by simp), ?_, fun i hi => by show (rat (S.T.rows.set x zero) i).k = _; rw [hrr i (hpq i hi)]⟩
  have hl : (S.T.rows.set x zero).length = S.T.rows.length := List.length_set
  refine ⟨by show 2 ≤ (S.T.rows.set x zero).length; rw [hl]; exact h.two, by show (S.T.rows.set x zero).length ≤ _; rw [hl]; exact h.len, h.cnt0, h.cnt1, h.adj.congr (fun s hs => by show (rat (S.T.rows.set x zero) s).c = _; rw [hrr s (hR s (List.dropLast_subset _ hs))]) (fun s hs => by show (rat (S.T.rows.set x zero) s).b = _; rw [hrr s (hR s (List.mem_of_mem_tail hs))]), ?_, ?_, ?_, ?_, ?_, ?_⟩
  · show (0 :: 1 :: (p ++ (q ++ ([] ++ (S.T.spare ++ [x]))))).Nodup
    have hp : (0 :: 1 :: (p ++ (q ++ ([] ++ (S.T.spare ++ [x]))))).Perm (0 :: 1 :: (p ++ (q ++ ([x] ++ S.T.spare)))) := by
      refine (((List.Perm.append_left q ?_).append_left p).cons 1).cons 0
      simp only [List.nil_append, List.cons_append]
      exact List.perm_append_singleton x S.T.spare
    exact hp.nodup_iff.2 hnd
  · intro i hi
    show i < (S.T.rows.set x zero).length
    rw [hl]
    refine h.lt i ?_
    have hi : i ∈ p ++ (q ++ ([] ++ (S.T.spare ++ [x]))) := hi
    simp only [List.mem_append, List.mem_singleton, List.nil_append] at hi ⊢
    rcases hi with e | e | e | e
    · exact .inl e
    · exact .inr (.inl e)
    · exact .inr (.inr (.inr e))
    · exact .inr (.inr (.inl e))
  · intro i hi
    show (rat (S.T.rows.set x zero) i).a = 0
    rw [hrr i (hpx i hi)]
    exact h.a0 i hi
  · intro i hi
    show (rat (S.T.rows.set x zero) i).a = 1
    rw [hrr i (hqx i hi)]
    exact h.a1 i hi
  · intro k i
    show updO S.T.g (rat S.T.rows x).k none k = some i ↔ _ ∧ (rat (S.T.rows.set x zero) i).k = k
    rw [List.append_nil]
    unfold updO
    by_cases e : k = (rat S.T.rows x).k
    · rw [if_pos e]
      constructor
      · intro e; cases e
      · rintro ⟨h1, h2⟩
        rw [hrr i (hpq i h1)] at h2
        have := (h.g k i).2 ⟨by rw [← List.append_assoc, List.mem_append]; exact .inl h1, h2⟩
        rw [e, hkx] at this
        cases this
        exact absurd rfl (hpq x h1)
    · rw [if_neg e, h.g k i]
      constructor
      · rintro ⟨h1, h2⟩
        rw [← List.append_assoc, List.mem_append, List.mem_singleton] at h1
        rcases h1 with h1 | rfl
        · exact ⟨h1, by rw [hrr i (hpq i h1)]; exact h2⟩
        · exact absurd h2.symm e
      · rintro ⟨h1, h2⟩
        rw [hrr i (hpq i h1)] at h2
        exact ⟨by rw [← List.append_assoc, List.mem_append]; exact .inl h1, h2⟩
  · intro i hi
    have hi : i ∈ p ++ q := by simpa using hi
    show I64 (rat (S.T.rows.set x zero) i).k
    rw [hrr i (hpq i hi)]
    exact h.wf i (by rw [← List.append_assoc, List.mem_append]; exact .inl hi)
end Lr
end Go.Proofs.Ytchlemajppnehaa
