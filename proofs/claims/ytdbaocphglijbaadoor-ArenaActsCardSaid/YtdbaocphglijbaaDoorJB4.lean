/- 4 texts put together: Chm, Anewh, Ahdrop, Atake. -/
import Derived.Deep.LoopGhost
import Derived.Deep.CutRange
import Derived.Test.YtdbaocphglijbaaDoorJB2
import Derived.Test.YtdbaocphglijbaaDoorJB3
/- The lists of free pieces, as a whole: what push and drop leave. -/
set_option maxRecDepth 100000
namespace Go.Proofs.YtdbaocphglijbaaDoor
namespace Ar
/-- The class of a node: of the rings' own nodes their number, of others what E says. -/
def lab (E : Nat → Option (Nat × Nat)) (i : Nat) : Option Nat := if i < 17 then some i else (E i).map Prod.fst
/-- The nodes that are in no list, one behind the other. -/
def SpL (nd : List Node) : Nat → List Nat → Prop
  | s, [] => s = 0
  | s, x :: r => s = x ∧ SpL nd (nodeAt nd x).n r
structure Ch (nd : List Node) (spare : Nat) (E : Nat → Option (Nat × Nat)) (sp : List Nat) : Prop where
  len : 17 ≤ nd.length
  low : ∀ i x, E i = some x → 17 ≤ i ∧ i < nd.length ∧ x.1 < 17
  nx : ∀ i c, lab E i = some c → lab E (nodeAt nd i).n = some c ∧ (nodeAt nd (nodeAt nd i).n).l = i
  pv : ∀ i c, lab E i = some c → lab E (nodeAt nd i).l = some c ∧ (nodeAt nd (nodeAt nd i).l).n = i
  val : ∀ i c v, E i = some (c, v) → (nodeAt nd i).v = v
  spl : SpL nd spare sp
  nodup : sp.Nodup
  spn : ∀ i ∈ sp, 17 ≤ i ∧ i < nd.length ∧ E i = none
  all : ∀ i, 17 ≤ i → i < nd.length → E i ≠ none ∨ i ∈ sp
theorem nodeAt_set (nd : List Node) (i j : Nat) (x : Node) (h : i < nd.length) : nodeAt (nd.set i x) j = if j = i then x else nodeAt nd j := by
  unfold nodeAt
  by_cases e : j = i
  · subst e; simp [h]
  · simp [List.getD, List.getElem?_set_ne (Ne.symm e), e]
theorem nodeAt_link (nd : List Node) (a b j : Nat) (ha : a < nd.length) (hb : b < nd.length) : nodeAt (link nd a b) j = ⟨(nodeAt nd j).v, if j = b then a else (nodeAt nd j).l, if j = a then b else (nodeAt nd j).n⟩ := by
  unfold link setL setN
  rw [nodeAt_set _ _ _ _ (by simpa using hb), nodeAt_set _ _ _ _ ha, nodeAt_set _ _ _ _ ha]
  by_cases h1 : j = b <;> by_cases h2 : j = a <;> by_cases h3 : b = a <;> simp_all
theorem lab_lt {nd : List Node} {spare : Nat} {E : Nat → Option (Nat × Nat)} {sp : List Nat} (h : Ch nd spare E sp) {i c : Nat} (hi : lab E i = some c) : i < nd.length ∧ c < 17 := by
  unfold lab at hi
  split at hi
  · rename_i h1
    have := h.len
    simp at hi
    omega
  · obtain ⟨x, hx, rfl⟩ := Option.map_eq_some_iff.1 hi
    have := h.low i x hx
    omega
/-- The spare nodes' order does not hang on nodes beside them. -/
theorem spL_congr {nd nd' : List Node} : ∀ {sp : List Nat} {s : Nat}, (∀ i ∈ sp, (nodeAt nd' i).n = (nodeAt nd i).n) → SpL nd s sp → SpL nd' s sp
  | [], _, _, h => h
  | x :: r, s, he, h => ⟨h.1, by rw [he x (List.mem_cons_self ..)]; exact spL_congr (fun i hi => he i (List.mem_cons_of_mem _ hi)) h.2⟩
def off (E : Nat → Option (Nat × Nat)) (i : Nat) : Nat → Option (Nat × Nat) := fun j => if j = i then none else E j
def on (E : Nat → Option (Nat × Nat)) (i : Nat) (x : Nat × Nat) : Nat → Option (Nat × Nat) := fun j => if j = i then some x else E j
theorem off_same (E : Nat → Option (Nat × Nat)) (i : Nat) : off E i i = none := if_pos rfl
theorem off_ne (E : Nat → Option (Nat × Nat)) {i j : Nat} (h : j ≠ i) : off E i j = E j := if_neg h
theorem on_same (E : Nat → Option (Nat × Nat)) (i : Nat) (x : Nat × Nat) : on E i x i = some x := if_pos rfl
theorem on_ne (E : Nat → Option (Nat × Nat)) {i j : Nat} (x : Nat × Nat) (h : j ≠ i) : on E i x j = E j := if_neg h
/-- A node is taken out. -/
theorem Ch.drop {nd : List Node} {spare : Nat} {E : Nat → Option (Nat × Nat)} {sp : List Nat} (h : Ch nd spare E sp) {i : Nat} {x : Nat × Nat} (hx : E i = some x) :
    Ch (dropN nd i spare) i (off E i) (i :: sp) := by
  obtain ⟨hi17, hil, hc⟩ := h.low i x hx
  have hlab : lab E i = some x.1 := by unfold lab; rw [if_neg (by omega), hx]; rfl
  obtain ⟨n1, n2⟩ := h.nx i _ hlab
  obtain ⟨p1, p2⟩ := h.pv i _ hlab
  have hnl := (lab_lt h n1).1
  have hpl := (lab_lt h p1).1
  have hE : ∀ j c, lab (off E i) j = some c → j ≠ i ∧ lab E j = some c := fun j c hj => by
    unfold lab at hj ⊢
    by_cases e : j = i
    · rw [e, if_neg (by omega), off_same] at hj; cases hj
    · rw [off_ne E e] at hj; exact ⟨e, hj⟩
  have hE2 : ∀ j c, j ≠ i → lab E j = some c → lab (off E i) j = some c := fun j c e hj => by
    unfold lab at hj ⊢
    rw [off_ne E e]; exact hj
  have hat : ∀ j, j ≠ i → nodeAt (dropN nd i spare) j = ⟨(nodeAt nd j).v, if j = (nodeAt nd i).n then (nodeAt nd i).l else (nodeAt nd j).l, if j = (nodeAt nd i).l then (nodeAt nd i).n else (nodeAt nd j).n⟩ := fun j e => by
    unfold dropN
    rw [nodeAt_set _ _ _ _ (by rw [link_len]; exact hil), if_neg e, nodeAt_link _ _ _ _ hpl hnl]
  have hai : nodeAt (dropN nd i spare) i = ⟨0, 0, spare⟩ := by
    unfold dropN
    rw [nodeAt_set _ _ _ _ (by rw [link_len]; exact hil), if_pos rfl]
  refine ⟨by rw [dropN_len]; exact h.len, ?_, ?_, ?_, ?_, ⟨rfl, ?_⟩, ?_, ?_, ?_⟩
  · intro j y hj
    rw [dropN_len]
    by_cases e : j = i
    · rw [e, off_same] at hj; cases hj
    · rw [off_ne E e] at hj; exact h.low j y hj
  · intro j c hj
    obtain ⟨e, hj⟩ := hE j c hj
    obtain ⟨a1, a2⟩ := h.nx j c hj
    rw [hat j e]
    simp only
    by_cases e2 : j = (nodeAt nd i).l
    · rw [if_pos e2]
      have hn1 : (nodeAt nd i).n ≠ i := fun e3 => by
        have : (nodeAt nd i).l = i := by rw [e3] at n2; exact n2
        exact e (e2.trans this)
      have hc2 : x.1 = c := by rw [← e2] at p1; exact Option.some.inj (p1.symm.trans hj)
      rw [hat _ hn1]
      simp only [if_true]
      exact ⟨hE2 _ _ hn1 (by rw [← hc2]; exact n1), e2.symm⟩
    · rw [if_neg e2]
      have hn1 : (nodeAt nd j).n ≠ i := fun e3 => e2 (by rw [e3] at a2; exact a2.symm)
      rw [hat _ hn1]
      simp only
      refine ⟨hE2 _ _ hn1 a1, ?_⟩
      rw [if_neg (fun e3 => e (by rw [e3] at a2; exact (a2.symm.trans n2)))]
      exact a2
  · intro j c hj
    obtain ⟨e, hj⟩ := hE j c hj
    obtain ⟨a1, a2⟩ := h.pv j c hj
    rw [hat j e]
    simp only
    by_cases e2 : j = (nodeAt nd i).n
    · rw [if_pos e2]
      have hn1 : (nodeAt nd i).l ≠ i := fun e3 => by
        have : (nodeAt nd i).n = i := by rw [e3] at p2; exact p2
        exact e (e2.trans this)
      have hc2 : x.1 = c := by rw [← e2] at n1; exact Option.some.inj (n1.symm.trans hj)
      rw [hat _ hn1]
      simp only [if_true]
      exact ⟨hE2 _ _ hn1 (by rw [← hc2]; exact p1), e2.symm⟩
    · rw [if_neg e2]
      have hn1 : (nodeAt nd j).l ≠ i := fun e3 => e2 (by rw [e3] at a2; exact a2.symm)
      rw [hat _ hn1]
      simp only
      refine ⟨hE2 _ _ hn1 a1, ?_⟩
      rw [if_neg (fun e3 => e (by rw [e3] at a2; exact (a2.symm.trans p2)))]
      exact a2
  · intro j c v hj
    by_cases e : j = i
    · rw [e, off_same] at hj; cases hj
    · rw [off_ne E e] at hj
      rw [hat j e]
      exact h.val j c v hj
  · rw [hai]
    refine spL_congr (fun j hj => ?_) h.spl
    obtain ⟨s1, s2, s3⟩ := h.spn j hj
    have e : j ≠ i := fun e => by subst e; rw [s3] at hx; cases hx
    rw [hat j e]
    simp only
    rw [if_neg (fun e3 => by
      have : lab E j = some x.1 := by rw [e3]; exact p1
      unfold lab at this
      rw [if_neg (by omega), s3] at this
      cases this)]
  · exact List.nodup_cons.2 ⟨fun hm => (by have := (h.spn i hm).2.2; rw [this] at hx; cases hx), h.nodup⟩
  · intro j hj
    rw [dropN_len]
    rcases List.mem_cons.1 hj with rfl | hj
    · exact ⟨hi17, hil, off_same _ _⟩
    · obtain ⟨s1, s2, s3⟩ := h.spn j hj
      refine ⟨s1, s2, ?_⟩
      by_cases e : j = i
      · rw [e, off_same]
      · rw [off_ne E e]; exact s3
  · intro j h1 h2
    rw [dropN_len] at h2
    by_cases e : j = i
    · right; rw [e]; exact List.mem_cons_self ..
    · rcases h.all j h1 h2 with h3 | h3
      · left; rw [off_ne E e]; exact h3
      · right; exact List.mem_cons_of_mem _ h3
theorem nodeAt_snoc (nd : List Node) (j : Nat) : nodeAt (nd ++ [⟨0, 0, 0⟩]) j = nodeAt nd j := by
  unfold nodeAt
  simp only [List.getD]
  by_cases h : j < nd.length
  · rw [List.getElem?_append_left h]
  · rw [List.getElem?_append_right (by omega), List.getElem?_eq_none (l := nd) (by omega)]
    by_cases h2 : j - nd.length = 0
    · rw [h2]; rfl
    · rw [List.getElem?_eq_none (by simp; omega)]
theorem Ch.spare0 {nd : List Node} {spare : Nat} {E : Nat → Option (Nat × Nat)} {sp : List Nat} (h : Ch nd spare E sp) : (spare = 0 ∧ sp = []) ∨ (∃ r, sp = spare :: r ∧ 17 ≤ spare ∧ spare < nd.length ∧ E spare = none ∧ SpL nd (nodeAt nd spare).n r) := by
  cases hs : sp with
  | nil => left; have := h.spl; rw [hs] at this; exact ⟨this, rfl⟩
  | cons x r =>
    right
    have h1 := h.spl
    rw [hs] at h1
    obtain ⟨rfl, h2⟩ := h1
    have h3 := h.spn spare (by rw [hs]; exact List.mem_cons_self ..)
    exact ⟨r, rfl, h3.1, h3.2.1, h3.2.2, h2⟩
theorem Ch.spare_lt {nd : List Node} {spare : Nat} {E : Nat → Option (Nat × Nat)} {sp : List Nat} (h : Ch nd spare E sp) : spare < nd.length := by
  rcases h.spare0 with ⟨h1, _⟩ | ⟨r, _, _, h2, _⟩
  · have := h.len; omega
  · exact h2
/-- The node that push takes. -/
theorem Ch.fresh {nd : List Node} {spare : Nat} {E : Nat → Option (Nat × Nat)} {sp : List Nat} (h : Ch nd spare E sp) (c v : Nat) :
    17 ≤ (push nd spare c v).k ∧ E (push nd spare c v).k = none ∧ nd.length ≤ (push nd spare c v).nd.length ∧ (push nd spare c v).nd.length ≤ nd.length + 1 ∧ (push nd spare c v).k < (push nd spare c v).nd.length := by
  have hl := h.len
  rcases h.spare0 with ⟨h1, _⟩ | ⟨r, _, h1, h2, h3, _⟩
  · subst h1
    simp only [push, if_true, link_len, setV_len, List.length_append, List.length_singleton]
    refine ⟨hl, ?_, by omega, by omega, by omega⟩
    cases he : E nd.length with
    | none => rfl
    | some x => have := (h.low _ x he).2.1; omega
  · simp only [push, if_neg (show ¬ spare = 0 by omega), link_len, setV_len]
    exact ⟨h1, h3, by omega, by omega, h2⟩
theorem Ch.push_at {nd : List Node} {spare : Nat} {E : Nat → Option (Nat × Nat)} {sp : List Nat} (h : Ch nd spare E sp) {c : Nat} (v : Nat) (hc : c < 17) (j : Nat) :
    nodeAt (push nd spare c v).nd j = ⟨if j = (push nd spare c v).k then v else (nodeAt nd j).v, if j = (push nd spare c v).k then c else if j = (nodeAt nd c).n then (push nd spare c v).k else (nodeAt nd j).l, if j = c then (push nd spare c v).k else if j = (push nd spare c v).k then (nodeAt nd c).n else (nodeAt nd j).n⟩ := by
  have hl := h.len
  obtain ⟨f1, f2, f3, f4, f5⟩ := h.fresh c v
  have hlab : lab E c = some c := by unfold lab; rw [if_pos hc]
  have hm := h.nx c c hlab
  have hmk : (nodeAt nd c).n ≠ (push nd spare c v).k := fun e => by
    have := hm.1
    rw [e] at this
    unfold lab at this
    rw [if_neg (by omega), f2] at this
    cases this
  have hml := (lab_lt h hm.1).1
  have hck : c ≠ (push nd spare c v).k := by omega
  have key : ∀ (nd1 : List Node) (k : Nat), (∀ j, nodeAt nd1 j = nodeAt nd j) → k < nd1.length → nd.length ≤ nd1.length → (nodeAt nd c).n ≠ k → c ≠ k → nodeAt (link (link (setV nd1 k v) k (nodeAt (setV nd1 k v) c).n) c k) j = ⟨if j = k then v else (nodeAt nd j).v, if j = k then c else if j = (nodeAt nd c).n then k else (nodeAt nd j).l, if j = c then k else if j = k then (nodeAt nd c).n else (nodeAt nd j).n⟩ := fun nd1 k h1 h2 h3 h4 h5 => by
    have hv : ∀ j, nodeAt (setV nd1 k v) j = ⟨if j = k then v else (nodeAt nd j).v, (nodeAt nd j).l, (nodeAt nd j).n⟩ := fun j => by
      unfold setV
      rw [nodeAt_set _ _ _ _ h2, h1]
      by_cases e : j = k
      · subst e; simp
      · simp [e, h1]
    rw [nodeAt_link _ _ _ _ (by rw [link_len, setV_len]; omega) (by rw [link_len, setV_len]; exact h2), hv c, nodeAt_link _ _ _ _ (by rw [setV_len]; exact h2) (by rw [setV_len]; show (nodeAt nd c).n < _; omega), hv j]
  rcases h.spare0 with ⟨h1, _⟩ | ⟨r, _, h1, h2, h3, _⟩
  · subst h1
    simp only [push, if_true] at f1 f5 hmk hck ⊢
    exact key _ _ (nodeAt_snoc nd) (by simp) (by simp) hmk hck
  · simp only [push, if_neg (show ¬ spare = 0 by omega)] at f1 f5 hmk hck ⊢
    exact key _ _ (fun _ => rfl) h2 (Nat.le_refl _) hmk hck
/-- A value is put. -/
theorem Ch.push {nd : List Node} {spare : Nat} {E : Nat → Option (Nat × Nat)} {sp : List Nat} (h : Ch nd spare E sp) {c : Nat} (v : Nat) (hc : c < 17) :
    ∃ sp', Ch (push nd spare c v).nd (push nd spare c v).spare (on E (push nd spare c v).k (c, v)) sp' := by
  have hl := h.len
  obtain ⟨f1, f2, f3, f4, f5⟩ := h.fresh c v
  have hat := h.push_at v hc
  have hlab : lab E c = some c := by unfold lab; rw [if_pos hc]
  have hm := h.nx c c hlab
  have hm2 := h.pv c c hlab
  have hnone : ∀ j x, lab E j = some x → j ≠ (Ar.push nd spare c v).k := fun j x hj e => by
    rw [e] at hj
    unfold lab at hj
    rw [if_neg (by omega), f2] at hj
    cases hj
  have hmk := hnone _ _ hm.1
  have hck := hnone _ _ hlab
  -- what the spare nodes are
  have hsp : ∃ sp', SpL nd (Ar.push nd spare c v).spare sp' ∧ sp'.Nodup ∧ (∀ i ∈ sp', i ∈ sp ∧ i ≠ (Ar.push nd spare c v).k) ∧ (∀ i, 17 ≤ i → i < (Ar.push nd spare c v).nd.length → i = (Ar.push nd spare c v).k ∨ i < nd.length) ∧ (∀ i ∈ sp, i = (Ar.push nd spare c v).k ∨ i ∈ sp') := by
    rcases h.spare0 with ⟨h1, h2⟩ | ⟨r, h0, h1, h2, h3, h4⟩
    · subst h1
      subst h2
      refine ⟨[], by simp [Ar.push, SpL], List.nodup_nil, by simp, fun i hi hlt => ?_, by simp⟩
      simp only [Ar.push, if_true, link_len, setV_len, List.length_append, List.length_singleton] at hlt ⊢
      omega
    · have hn := h.nodup
      rw [h0] at hn
      obtain ⟨hn1, hn2⟩ := List.nodup_cons.1 hn
      simp only [Ar.push, if_neg (show ¬ spare = 0 by omega), link_len, setV_len]
      refine ⟨r, h4, hn2, fun i hi => ⟨by rw [h0]; exact List.mem_cons_of_mem _ hi, fun e => hn1 (e ▸ hi)⟩, fun i _ hlt => .inr hlt, fun i hi => ?_⟩
      rw [h0] at hi
      exact (List.mem_cons.1 hi)
  obtain ⟨sp', s1, s2, s3, s4, s5⟩ := hsp
  generalize Ar.push nd spare c v = R at *
  have hL : ∀ j, lab (on E R.k (c, v)) j = if j = R.k then some c else lab E j := fun j => by
    unfold lab
    by_cases e : j = R.k
    · rw [if_pos e, e, if_neg (by omega), on_same]; rfl
    · rw [if_neg e, on_ne E _ e]
  refine ⟨sp', ⟨by omega, ?_, ?_, ?_, ?_, ?_, s2, ?_, ?_⟩⟩
  · intro i x hi
    by_cases e : i = R.k
    · rw [e, on_same] at hi
      cases hi
      exact ⟨by omega, by omega, hc⟩
    · rw [on_ne E _ e] at hi
      have := h.low i x hi
      exact ⟨this.1, by omega, this.2.2⟩
  · intro i x hi
    rw [hL] at hi
    rw [hat i]
    simp only
    by_cases e1 : i = R.k
    · rw [if_pos e1] at hi
      cases hi
      rw [if_neg (show ¬ i = c by omega), if_pos e1, hL, if_neg hmk, hat]
      simp only
      rw [if_neg hmk, if_pos trivial]
      exact ⟨hm.1, e1.symm⟩
    · rw [if_neg e1] at hi
      obtain ⟨a1, a2⟩ := h.nx i x hi
      by_cases e2 : i = c
      · rw [if_pos e2, hL, if_pos rfl, hat]
        simp only
        rw [if_pos trivial]
        rw [e2] at hi ⊢
        exact ⟨hlab.symm.trans hi, rfl⟩
      · rw [if_neg e2, if_neg e1, hL, if_neg (hnone _ _ a1), hat]
        simp only
        rw [if_neg (hnone _ _ a1), if_neg (fun e3 => e2 (by rw [e3] at a2; exact a2.symm.trans hm.2))]
        exact ⟨a1, a2⟩
  · intro i x hi
    rw [hL] at hi
    rw [hat i]
    simp only
    by_cases e1 : i = R.k
    · rw [if_pos e1] at hi
      cases hi
      rw [if_pos e1, hL, if_neg hck, hat]
      simp only
      rw [if_pos trivial]
      exact ⟨hlab, e1.symm⟩
    · rw [if_neg e1] at hi
      obtain ⟨a1, a2⟩ := h.pv i x hi
      rw [if_neg e1]
      by_cases e2 : i = (nodeAt nd c).n
      · rw [if_pos e2, hL, if_pos rfl, hat]
        simp only
        rw [if_neg (fun e3 => hck e3.symm), if_pos trivial]
        rw [e2] at hi ⊢
        exact ⟨hm.1.symm.trans hi, rfl⟩
      · rw [if_neg e2, hL, if_neg (hnone _ _ a1), hat]
        simp only
        rw [if_neg (fun e3 => e2 (by rw [e3] at a2; exact a2.symm)), if_neg (hnone _ _ a1)]
        exact ⟨a1, a2⟩
  · intro i x y hi
    rw [hat i]
    simp only
    by_cases e : i = R.k
    · rw [e, on_same] at hi
      cases hi
      rw [if_pos e]
    · rw [on_ne E _ e] at hi
      rw [if_neg e]
      exact h.val i x y hi
  · refine spL_congr (fun i hi => ?_) s1
    obtain ⟨m1, m2⟩ := s3 i hi
    have := h.spn i m1
    rw [hat i]
    simp only
    rw [if_neg (by omega), if_neg m2]
  · intro i hi
    obtain ⟨m1, m2⟩ := s3 i hi
    have := h.spn i m1
    exact ⟨this.1, by omega, by rw [on_ne E _ m2]; exact this.2.2⟩
  · intro i h1 h2
    by_cases e : i = R.k
    · left; rw [e, on_same]; intro h; cases h
    · rw [on_ne E _ e]
      rcases s4 i h1 h2 with h3 | h3
      · exact absurd h3 e
      · rcases h.all i h1 h3 with h4 | h4
        · exact .inl h4
        · exact (s5 i h4).imp (fun h5 => absurd h5 e) id
theorem Ch.ring0 : Ch Ar.ring0 0 (fun _ => none) [] := by
  have hn : ∀ i : Fin 17, nodeAt (ring 17) i.1 = ⟨0, i.1, i.1⟩ := by decide +kernel
  have hl : Ar.ring0.length = 17 := ring_len 17
  have hlab : ∀ i c, lab (fun _ => none) i = some c → i < 17 ∧ c = i := fun i c h => by
    unfold lab at h
    split at h
    · cases h; exact ⟨by assumption, rfl⟩
    · cases h
  refine ⟨by omega, ?_, ?_, ?_, ?_, rfl, List.nodup_nil, ?_, ?_⟩
  · intro i x h; cases h
  · intro i c h
    obtain ⟨h1, rfl⟩ := hlab i c h
    have := hn ⟨c, h1⟩
    unfold Ar.ring0
    simp only at this
    rw [this]
    simp only
    rw [this]
    exact ⟨h, rfl⟩
  · intro i c h
    obtain ⟨h1, rfl⟩ := hlab i c h
    have := hn ⟨c, h1⟩
    unfold Ar.ring0
    simp only at this
    rw [this]
    simp only
    rw [this]
    exact ⟨h, rfl⟩
  · intro i c v h; cases h
  · intro i h; cases h
  · intro i h1 h2; omega
end Ar
end Go.Proofs.YtdbaocphglijbaaDoor

/- newHandles. -/
set_option maxRecDepth 100000
namespace Go.Proofs.YtdbaocphglijbaaDoor
open Go.RowKit Go.Shelf
theorem make_one {t e : TypeId} {z : Value} {bytes : Nat} (h1 : Tryd.prog.underlying t = some (.slice e)) (h2 : (Tryd.prog.info? e).map (fun i => (i.zero, i.size, i.bytes)) = some (some z, 1, bytes)) (hb : bytes ≤ 8) (hz : z.cells = #[z]) (c : Int) (n : Nat) (hc : c = (n : Int)) (hn : n ≤ 10000000) (w : World) :
    (Instr.makeSlice t (.int .i64 c) (.int .i64 c)).run Tryd.prog w = .ok (.slice (some ⟨w.heap.size, 0, none⟩) n n) (w.alloc (.cells (List.replicate n z).toArray e)) := by
  subst hc
  obtain ⟨i, hi, hz0, hz1, hz2⟩ := info_parts h2
  have hle : (bytes : Int) * (n : Int) ≤ 281474976710656 := by
    rw [← Int.natCast_mul]
    have : bytes * n ≤ 8 * 10000000 := Nat.mul_le_mul hb hn
    omega
  have h := run_make (P := Tryd.prog) w t e i z h1 hi hz0 .i64 .i64 n n (by omega) (by omega) (by rw [hz2]; exact hle) (by omega)
  rw [h, hz1, hz]
  have e2 : madeCells #[z] ((n : Int).toNat * 1) = (List.replicate n z).toArray := by
    apply Array.toList_inj.1
    rw [toList_madeCells_one]
    simp
  rw [e2]
  rfl
theorem infoI32 : (Tryd.prog.info? 21).map (fun i => (i.zero, i.size, i.bytes)) = some (some (.int .i32 0), 1, 4) := by kernel_rfl
theorem infoU64 : (Tryd.prog.info? 126).map (fun i => (i.zero, i.size, i.bytes)) = some (some (.int .u64 0), 1, 8) := by kernel_rfl
theorem infoU8 : (Tryd.prog.info? 5).map (fun i => (i.zero, i.size, i.bytes)) = some (some (.int .u8 0), 1, 1) := by kernel_rfl
theorem Blk.at1 (w : World) (o : Obj) (l : List Value) (t : TypeId) : Blk ((w.alloc o).alloc (.cells l.toArray t)) (w.heap.size + 1) l t := by
  have := Blk.new (w.alloc o) l t
  rwa [World.size_alloc] at this
theorem Blk.at2 (w : World) (o o2 : Obj) (l : List Value) (t : TypeId) : Blk (((w.alloc o).alloc o2).alloc (.cells l.toArray t)) (w.heap.size + 1 + 1) l t := by
  have := Blk.new ((w.alloc o).alloc o2) l t
  rwa [World.size_alloc, World.size_alloc] at this
def HandRet (k : Nat) (w : World) (e : Ending) (w' : World) : Prop := ∃ P U, e = .returned (.agg #[.slice (some ⟨P, 0, none⟩) (k * 64) (k * 64), .slice (some ⟨U, 0, none⟩) k k, .int .i64 0]) ∧ Blk w' P (List.replicate (k * 64) (.int .i32 0)) 21 ∧ Blk w' U (List.replicate k (.int .u64 0)) 126 ∧ w.heap.size ≤ P ∧ w.heap.size ≤ U ∧ Below w.heap.size w w'
set_option maxHeartbeats 4000000 in
theorem newHandles_any (z : Int) (most k : Nat) (w : World) (hz : z = (most : Int)) (hm : most ≤ 65536) (hk : k = (most + 63) / 64) : Calls Tryd.prog 50 #[.int .i64 z] w (HandRet k w) := by
  subst hz
  have e1 : ((most : Int) + 64 - 1) / 64 = (k : Int) := by omega
  have hk2 : k ≤ 1024 := by omega
  have m1 := make_one Tryd.underlying85 infoI32 (by omega) rfl ((k : Int) * 64) (k * 64) (by omega) (by omega)
  have m2 := make_one Tryd.underlying86 infoU64 (by omega) rfl (k : Int) k rfl (by omega)
  have hw1 : IntKind.i64.wrap ((k : Int) * 64) = (k : Int) * 64 := by rw [IntKind.wrap_i64]; omega
  have E1 := Lib.hid e1
  clear e1 hk
  go_enter Tryd.func50, Tryd.ntmps50
  go_wp2
  rw [E1.out]
  go_region
  · go_wp2
    simp only [← List.toArray_replicate]
    refine bodyPost_ret (v := .agg #[.slice (some ⟨w.heap.size + 1, 0, none⟩) (k * 64) (k * 64), .slice (some ⟨w.heap.size + 1 + 1, 0, none⟩) k k, .int .i64 0]) (by simp [results, Tryd.results50, go_sem]) rfl ⟨_, _, rfl, ?_, ?_, by omega, by omega, ?_⟩
    · exact ((Blk.at1 w _ (List.replicate (k * 64) (.int .i32 0)) 21).alloc _)
    · exact (Blk.at2 w _ _ (List.replicate k (.int .u64 0)) 126)
    · exact ((((Below.refl _ _).alloc (Nat.le_refl _) _).alloc (by simp) _).alloc (by simp; omega) _).drew
  · go_wp2
    simp only [← List.toArray_replicate]
    refine bodyPost_ret (v := .agg #[.slice (some ⟨w.heap.size + 1 + 1, 0, none⟩) (k * 64) (k * 64), .slice (some ⟨w.heap.size + 1, 0, none⟩) k k, .int .i64 0]) (by simp [results, Tryd.results50, go_sem]) rfl ⟨_, _, rfl, ?_, ?_, by omega, by omega, ?_⟩
    · exact (Blk.at2 w _ _ (List.replicate (k * 64) (.int .i32 0)) 21)
    · exact ((Blk.at1 w _ (List.replicate k (.int .u64 0)) 126).alloc _)
    · exact ((((Below.refl _ _).alloc (Nat.le_refl _) _).alloc (by simp) _).alloc (by simp; omega) _).drew
end Go.Proofs.YtdbaocphglijbaaDoor

/- A handle is given back. -/
set_option maxRecDepth 100000
namespace Go.Proofs.YtdbaocphglijbaaDoor
open Go.RowKit Go.Shelf
namespace Ar
def dropHd (S : St) (k : Nat) : St := { S with us := S.us.set (k / 64) (S.us.getD (k / 64) 0 &&& (18446744073709551615 - 2 ^ (k % 64))), low := min S.low (k / 64) }
end Ar
set_option maxHeartbeats 2000000 in
theorem hdrop_any (A : Nat) (L : Loc) (S : Ar.St) (f : Nat → Prop) (z : Int) (k : Nat) (w : World) (hz : z = (k : Int) + 1) (hA : ArE A L S f w) (hk : k < S.pl.length) (h3 : S.pl.length ≤ 1000000) (h4 : S.pl.length = 64 * S.us.length) (h5 : ∀ x ∈ S.us, x < 18446744073709551616) (_h6 : S.low ≤ 1000000) :
    Calls Tryd.prog 61 #[.pointer (some ⟨A, 2, none⟩), .int .i64 z] w fun e w' => e = .returned (.tuple #[]) ∧ Trn f w w' ∧ ArE A L (Ar.dropHd S k) f w' := by
  subst hz
  have hc3 := hA.cells.2.2.2.1
  have hc4 := hA.cells.2.2.2.2.1
  have hf4 := hA.box.frozen 4
  have hk2 : k / 64 < S.us.length := by omega
  have hu := hA.us.cell (i := k / 64) (v := encU (S.us.getD (k / 64) 0)) (by simp [hk2])
  have hfu := hA.us.frozen (k / 64)
  have hu64 : S.us.getD (k / 64) 0 < 18446744073709551616 := by simp only [List.getD, List.getElem?_eq_getElem hk2, Option.getD_some]; exact h5 _ (List.getElem_mem hk2)
  have hUA : A ≠ L.U := hA.box.ne hA.us (by decide)
  unfold encU at hu
  unfold encI at hc4
  have H4 := Lib.hid h4
  clear h4
  have hp := pow_lt64 (Nat.mod_lt k (show 0 < 64 by decide))
  have R : ∀ m : Nat, m = 2 ^ (k % 64) → bits .andNot .u64 ((S.us.getD (k / 64) 0 : Nat) : Int) (m : Int) = ((S.us.getD (k / 64) 0 &&& (18446744073709551615 - m) : Nat) : Int) := fun m e => u64_andNot_nat _ _ hu64 (e ▸ hp)
  have fin : ∀ m n : Nat, m = 2 ^ (k % 64) → Trn f w ((((w.drewN n).setCell ⟨L.U, k / 64, none⟩ (encU (S.us.getD (k / 64) 0 &&& (18446744073709551615 - m)))).setCell ⟨A, 4, none⟩ (encI (min S.low (k / 64))))) ∧ ArE A L (Ar.dropHd S k) f ((((w.drewN n).setCell ⟨L.U, k / 64, none⟩ (encU (S.us.getD (k / 64) 0 &&& (18446744073709551615 - m)))).setCell ⟨A, 4, none⟩ (encI (min S.low (k / 64))))) := fun m n e => by
    subst e
    have hA1 := hA.drew n
    have hb := hA1.us.set (k / 64) (encU (S.us.getD (k / 64) 0 &&& (18446744073709551615 - 2 ^ (k % 64))))
    rw [← List.map_set] at hb
    have hA2 := hA1.setUs hb (by simp) (fun j hj _ => Below.heap_setCell (w.drewN n) ⟨L.U, k / 64, none⟩ _ j hj) (by simp [World.setCell])
    have t2 : Trn f w ((w.drewN n).setCell ⟨L.U, k / 64, none⟩ (encU (S.us.getD (k / 64) 0 &&& (18446744073709551615 - 2 ^ (k % 64))))) := (Trn.drew w n).trans (Trn.set hA1.us (.inl hA.fU) _ _)
    refine ⟨t2.trans (Trn.set hA2.box (.inl hA.fA) _ _), hA2.setBox 4 _ ?_ rfl rfl rfl rfl⟩
    unfold arBox Ar.dropHd
    simp
  have Fin := Lib.hid fin
  have HR := Lib.hid R
  clear fin R
  have hmin : ((min S.low (k / 64) : Nat) : Int) = min (S.low : Int) ((k : Int) / 64) := by omega
  have Hmin := Lib.hid hmin
  clear hmin
  generalize hxx : S.us.getD (k / 64) 0 = x at hu hu64 Fin HR
  clear hxx
  go_enter Tryd.func61, Tryd.ntmps61
  go_wp2_with (go_at_call 88; (with_reducible refine (bit_any _ k _ rfl (by omega)).mono ?_); rintro e w' ⟨m, hm, rfl, n, rfl⟩; have hbm := HR.out m hm.out; have hfin := Lib.hid (Fin.out m n hm.out))
  go_end0
  have e := hfin.out
  unfold encU encI at e
  rw [Hmin.out] at e
  exact ⟨rfl, e⟩
end Go.Proofs.YtdbaocphglijbaaDoor

/- The least handle that is free. -/
set_option maxRecDepth 100000
namespace Go.Proofs.YtdbaocphglijbaaDoor
open Go.RowKit Go.Shelf
namespace Ar
/-- The word l has a bit that is not set: its lowest one is taken. -/
def takeH (S : St) (l place : Nat) : St :=
  { S with us := S.us.set l (S.us.getD l 0 ||| 2 ^ Lib.ctz 64 (18446744073709551615 - S.us.getD l 0)), low := l, pl := S.pl.set (l * 64 + Lib.ctz 64 (18446744073709551615 - S.us.getD l 0)) place }
end Ar
/-- The table of math/bits. -/
def TabOk (w : World) : Prop := TabAt 0 Lib.deBruijn64tab w
theorem cell_lt {W : World} {a : Addr} {v : Value} (h : W.cell? a = some v) : a.block < W.heap.size := by
  rcases Nat.lt_or_ge a.block W.heap.size with h' | h'
  · exact h'
  · simp [World.cell?, Array.getElem?_eq_none h'] at h
theorem TabOk.trn {f : Nat → Prop} {w W : World} (h : TabOk w) (ht : Trn f w W) (hG : ¬ f 0) : TabOk W := fun j hj =>
  (World.cell?_of_block (a := ⟨0, j, none⟩) (ht.block _ (cell_lt (h j hj)) hG)).trans (h j hj)
theorem TabOk.drew {w : World} (h : TabOk w) (n : Nat) : TabOk (w.drewN n) := h
theorem xor_max (x : Nat) (hx : x < 18446744073709551616) : bits .xor .u64 (if IntKind.u64.signed = true then -1 else IntKind.u64.max) (x : Int) = ((18446744073709551615 - x : Nat) : Int) := by
  have e : (if IntKind.u64.signed = true then (-1 : Int) else IntKind.u64.max) = ((18446744073709551615 : Nat) : Int) := by decide
  have e2 : 18446744073709551615 ^^^ x = 18446744073709551615 - x := by
    apply Nat.eq_of_testBit_eq
    intro i
    have h1 := Nat.testBit_two_pow_sub_succ (n := 64) (x := x) hx i
    have h2 := Nat.testBit_two_pow_sub_one 64 i
    rw [show (2 : Nat) ^ 64 - (x + 1) = 18446744073709551615 - x by omega] at h1
    rw [show (2 : Nat) ^ 64 - 1 = 18446744073709551615 by decide] at h2
    rw [h1, Nat.testBit_xor, h2]
    by_cases hi : i < 64
    · simp [hi]
    · have : x.testBit i = false := Nat.testBit_lt_two_pow (Nat.lt_of_lt_of_le hx (Nat.pow_le_pow_right (show 0 < 2 by decide) (show 64 ≤ i by omega)))
      simp [hi, this]
  rw [e, bits_xor_u64_nat _ _ (by decide) hx, e2]
theorem tz_any (x : Nat) (z : Int) (w : World) (hz : z = (x : Int)) (hx : x < 18446744073709551616) (hT : TabOk w) :
    Calls Tryd.prog 87 #[.int .u64 z] w fun e w' => e = .returned (.int .i64 (Lib.ctz 64 x : Int)) ∧ w = w' := by
  subst hz
  exact (Any7.bits_TrailingZeros64 Tryd.lays29 x hx w (fun _ => hT)).mono fun e w' ⟨h1, h2⟩ => ⟨h1, h2.symm⟩
theorem ctz_lt {x : Nat} (h0 : x ≠ 0) (h : x < 18446744073709551616) : Lib.ctz 64 x < 64 := by
  unfold Lib.ctz
  rw [if_neg h0]
  obtain ⟨m, _, hk⟩ := Lib.ctzFrom_spec 64 x (by omega) h
  exact hk
set_option maxHeartbeats 4000000 in
theorem take_any (A : Nat) (L : Loc) (S : Ar.St) (f : Nat → Prop) (l place : Nat) (w : World) (hA : ArE A L S f w) (hl : l < S.us.length) (hlow : S.low ≤ l) (hfull : ∀ j, S.low ≤ j → j < l → S.us.getD j 0 = 18446744073709551615) (hfree : S.us.getD l 0 < 18446744073709551615) (h3 : S.pl.length ≤ 1000000) (h4 : S.pl.length = 64 * S.us.length) (hp : place ≤ 1048576) (hT : TabOk w) (hG : ¬ f 0) :
    Calls Tryd.prog 55 #[.pointer (some ⟨A, 2, none⟩), .int .i64 (place : Int)] w fun e w' => e = .returned (.int .i64 ((l * 64 + Lib.ctz 64 (18446744073709551615 - S.us.getD l 0) + 1 : Nat) : Int)) ∧ Trn f w w' ∧ ArE A L (Ar.takeH S l place) f w' := by
  have hub : S.us.length ≤ 1000000 := by omega
  have H4 := Lib.hid h4
  have HFull := Lib.hid hfull
  clear hfull h4
  have HA := Lib.hid hA
  clear hA
  go_enter Tryd.func55, Tryd.ntmps55
  go_wp2
  go_loopg [] (l - S.low) (fun g wr => ∃ j : Nat, S.low ≤ j ∧ j ≤ l ∧ g = l - j ∧ Hid (Trn f w wr) ∧ Hid (ArE A L { S with low := j } f wr))
  case atStart => exact ⟨S.low, by omega, hlow, rfl, Lib.hid (Trn.refl f w), HA⟩
  case round =>
    obtain ⟨j, hj1, hj2, rfl, ht, hA⟩ := hrel
    by_cases hlt : j < l
    · have hc3 := hA.out.cells.2.2.2.1
      have hc4 := hA.out.cells.2.2.2.2.1
      have hf4 := hA.out.box.frozen 4
      have hj3 : j < S.us.length := by omega
      have hu := hA.out.us.cell (i := j) (v := encU (S.us.getD j 0)) (by simp [hj3])
      rw [HFull.out j hj1 hlt] at hu
      unfold encU at hu
      unfold encI at hc4
      simp only at hc3 hc4
      go_wp2
      go_quiet (fail)
      generalize hW1 : wr.drewN nq = W1
      have hA1 := hW1 ▸ hA.out.drew nq
      have ht1 := hW1 ▸ ht.out.trans (Trn.drew wr nq)
      have hc4 := hA1.cells.2.2.2.2.1
      have hf4 := hA1.box.frozen 4
      unfold encI at hc4
      simp only at hc4
      have hA2 := hA1.setBox (S' := { S with low := j + 1 }) 4 (encI (j + 1)) rfl rfl rfl rfl rfl
      have ht2 := ht1.trans (Trn.set hA1.box (.inl hA1.fA) 4 (encI (j + 1)))
      have R := Lib.hid (And.intro ht2 hA2)
      clear hW1 ht2 hA2 ht1 hA1 ht hA
      unfold encI at R
      go_wp2
      go_roundg (l - (j + 1))
      case rel => exact ⟨j + 1, by omega, by omega, rfl, Lib.hid R.out.1, Lib.hid R.out.2⟩
      case measure => omega
    · obtain rfl : j = l := by omega
      have hc3 := hA.out.cells.2.2.2.1
      have hc4 := hA.out.cells.2.2.2.2.1
      have hu := hA.out.us.cell (i := j) (v := encU (S.us.getD j 0)) (by simp [hl])
      have hmx := hfree
      generalize hx : S.us.getD j 0 = x at hu hfree hmx ⊢
      have hne : ((x : Int) == 18446744073709551615) = false := by rw [beq_eq_false_iff_ne]; omega
      unfold encU at hu
      unfold encI at hc4
      simp only at hc3 hc4
      have Hx := Lib.hid hx
      clear hx
      go_wp2
      go_quiet (fail)
      generalize hW1 : wr.drewN nq = W1
      have hA1 := hW1 ▸ hA.out.drew nq
      have ht1 := hW1 ▸ ht.out.trans (Trn.drew wr nq)
      clear hc3 hc4 hu hne
      have hc3 := hA1.cells.2.2.2.1
      have hc4 := hA1.cells.2.2.2.2.1
      have hu := hA1.us.cell (i := j) (v := encU x) (by rw [← Hx.out]; simp [hl])
      have hT1 := hT.trn ht1 hG
      unfold encU at hu
      unfold encI at hc4
      simp only at hc3 hc4
      have HA1 := Lib.hid hA1
      have HT1 := Lib.hid ht1
      clear hA1 ht1 hA ht
      have HTZ : Hid (∀ (z : Int) (W : World), z = bits .xor .u64 (if IntKind.u64.signed = true then -1 else IntKind.u64.max) (x : Int) → TabOk W → Calls Tryd.prog 87 #[.int .u64 z] W fun e w' => e = .returned (.int .i64 (Lib.ctz 64 (18446744073709551615 - x) : Int)) ∧ w' = W) := Lib.hid (fun z W hz hT => (tz_any (18446744073709551615 - x) z W (hz.trans (xor_max x (by omega))) (by omega) hT).mono fun _ _ h => ⟨h.1, h.2.symm⟩)
      have hc64 : Lib.ctz 64 (18446744073709551615 - x) < 64 := ctz_lt (by omega) (by omega)
      have HS : Hid (Ar.takeH S j place = { S with us := S.us.set j (x ||| 2 ^ Lib.ctz 64 (18446744073709551615 - x)), low := j, pl := S.pl.set (j * 64 + Lib.ctz 64 (18446744073709551615 - x)) place }) := Lib.hid (by rw [← Hx.out]; rfl)
      have HC : Hid (Lib.ctz 64 (18446744073709551615 - S.us.getD j 0) = Lib.ctz 64 (18446744073709551615 - x)) := Lib.hid (by rw [Hx.out])
      generalize Lib.ctz 64 (18446744073709551615 - x) = c at HTZ hc64 HS HC
      have hkl : j * 64 + c < S.pl.length := by have := H4.out; omega
      have hjc : j * 64 + c ≤ 1000000 := by have := H4.out; omega
      have HOR : Hid (∀ m : Nat, m = 2 ^ ((j * 64 + c) % 64) → bits .or .u64 (x : Int) (m : Int) = ((x ||| 2 ^ c : Nat) : Int)) := Lib.hid fun m e => by
        rw [show (j * 64 + c) % 64 = c by omega] at e
        subst e
        exact u64_or_nat _ _ (by omega) (pow_lt64 hc64)
      go_wp2
      go_quiet ((go_at_call 87; exact Calls.quiet_of_same (HTZ.out _ _ rfl (hT1.drew _))))
      generalize hW2 : W1.drewN nq = W2
      have hA2 := hW2 ▸ HA1.out.drew nq
      have ht2 := hW2 ▸ HT1.out.trans (Trn.drew W1 nq)
      clear hc3 hc4 hu HA1 HT1 hW2
      go_wp2_with (go_at_call 88; (with_reducible refine (bit_any _ (j * 64 + c) _ (by omega) (by omega)).mono ?_); rintro e w' ⟨m, hm, rfl, n, rfl⟩; have hor := HOR.out m hm.out; refine Hid.out ?_)
      refine Lib.hid ?_
      generalize hW3 : W2.drewN n = W3
      have hA3 := hW3 ▸ hA2.drew n
      have ht3 := hW3 ▸ ht2.trans (Trn.drew W2 n)
      clear hA2 ht2 hW3
      have hc3 := hA3.cells.2.2.2.1
      have hc4 := hA3.cells.2.2.2.2.1
      have hu := hA3.us.cell (i := j) (v := encU x) (by rw [← Hx.out]; simp [hl])
      have hfu := hA3.us.frozen j
      unfold encU at hu
      unfold encI at hc4
      simp only at hc3 hc4
      have HA3 := Lib.hid hA3
      have HT3 := Lib.hid ht3
      clear hA3 ht3
      go_wp2
      have hb := HA3.out.us.set j (encU (x ||| 2 ^ c))
      rw [← List.map_set] at hb
      have hA4 := (HA3.out.setUs hb (by simp) (fun i hi _ => Below.heap_setCell W3 ⟨L.U, j, none⟩ _ i hi) (by simp [World.setCell])).drw
      have ht4 := (HT3.out.trans (Trn.set HA3.out.us (.inl HA3.out.fU) j (encU (x ||| 2 ^ c)))).trans (Trn.drw _)
      unfold encU at hA4 ht4
      have HA4 := Lib.hid hA4
      have HT4 := Lib.hid ht4
      clear hA4 ht4 hb
      go_region
      generalize World.drew _ = W4 at HA4 HT4 ⊢
      go_wp2_with (go_at_call 89; (with_reducible refine (move_any A L _ f ((j : Int) * 64 + (c : Int) + 1) (j * 64 + c) place _ HA4.out (by omega) hkl h3 hp).mono ?_); rintro e w' ⟨rfl, ht5, hA5⟩)
      go_ret
      refine ⟨ret_int (by rw [HC.out]; omega), HT4.out.trans (ht5.mono (fun _ _ e => .inl e)), ?_⟩
      rw [HS.out]
      exact hA5
end Go.Proofs.YtdbaocphglijbaaDoor
