/- The lists of free pieces, as a whole: what push and drop leave. -/
import Derived.Test.YtkndbldjablhoaaDoorApush
import Derived.Test.YtkndbldjablhoaaDoorAnewc
set_option maxRecDepth 100000
namespace Go.Proofs.YtkndbldjablhoaaDoor
namespace Ar
/-- The class of a node: of the rings' own nodes their number, of others what E says. -/
def lab (E : Nat → Option (Nat × Nat)) (i : Nat) : Option Nat := if i < 17 then some i else (E i).map Prod.fst
/-- The nodes that are in no list, one behind the other. -/
def SpL (nd : List Node) : Nat → List Nat → Prop
  | s, [] => s = 0
  | s, x :: r => s = x ∧ SpL nd (nodeAt nd x).n r
structure Ch (nd : List Node) (spare : Nat) (E : Nat → Option (Nat × Nat)) (sp : List Nat) : Prop where
  len : 17 ≤ nd.length
  low : ∀ i x, E i = some x → 17 ≤ i ∧ i < nd.length ∧ x.1 < 17
  nx : ∀ i c, lab E i = some c → lab E (nodeAt nd i).n = some c ∧ (nodeAt nd (nodeAt nd i).n).l = i
  pv : ∀ i c, lab E i = some c → lab E (nodeAt nd i).l = some c ∧ (nodeAt nd (nodeAt nd i).l).n = i
  val : ∀ i c v, E i = some (c, v) → (nodeAt nd i).v = v
  spl : SpL nd spare sp
  nodup : sp.Nodup
  spn : ∀ i ∈ sp, 17 ≤ i ∧ i < nd.length ∧ E i = none
  all : ∀ i, 17 ≤ i → i < nd.length → E i ≠ none ∨ i ∈ sp
theorem nodeAt_set (nd : List Node) (i j : Nat) (x : Node) (h : i < nd.length) : nodeAt (nd.set i x) j = if j = i then x else nodeAt nd j := by
  unfold nodeAt
  by_cases e : j = i
  · subst e; simp [h]
  · simp [List.getD, List.getElem?_set_ne (Ne.symm e), e]
theorem nodeAt_link (nd : List Node) (a b j : Nat) (ha : a < nd.length) (hb : b < nd.length) : nodeAt (link nd a b) j = ⟨(nodeAt nd j).v, if j = b then a else (nodeAt nd j).l, if j = a then b else (nodeAt nd j).n⟩ := by
  unfold link setL setN
  rw [nodeAt_set _ _ _ _ (by simpa using hb), nodeAt_set _ _ _ _ ha, nodeAt_set _ _ _ _ ha]
  by_cases h1 : j = b <;> by_cases h2 : j = a <;> by_cases h3 : b = a <;> simp_all
theorem lab_lt {nd : List Node} {spare : Nat} {E : Nat → Option (Nat × Nat)} {sp : List Nat} (h : Ch nd spare E sp) {i c : Nat} (hi : lab E i = some c) : i < nd.length ∧ c < 17 := by
  unfold lab at hi
  split at hi
  · rename_i h1
    have := h.len
    simp at hi
    omega
  · obtain ⟨x, hx, rfl⟩ := Option.map_eq_some_iff.1 hi
    have := h.low i x hx
    omega
/-- The spare nodes' order does not hang on nodes beside them. -/
theorem spL_congr {nd nd' : List Node} : ∀ {sp : List Nat} {s : Nat}, (∀ i ∈ sp, (nodeAt nd' i).n = (nodeAt nd i).n) → SpL nd s sp → SpL nd' s sp
  | [], _, _, h => h
  | x :: r, s, he, h => ⟨h.1, by rw [he x (List.mem_cons_self ..)]; exact spL_congr (fun i hi => he i (List.mem_cons_of_mem _ hi)) h.2⟩
def off (E : Nat → Option (Nat × Nat)) (i : Nat) : Nat → Option (Nat × Nat) := fun j => if j = i then none else E j
def on (E : Nat → Option (Nat × Nat)) (i : Nat) (x : Nat × Nat) : Nat → Option (Nat × Nat) := fun j => if j = i then some x else E j
theorem off_same (E : Nat → Option (Nat × Nat)) (i : Nat) : off E i i = none := if_pos rfl
theorem off_ne (E : Nat → Option (Nat × Nat)) {i j : Nat} (h : j ≠ i) : off E i j = E j := if_neg h
theorem on_same (E : Nat → Option (Nat × Nat)) (i : Nat) (x : Nat × Nat) : on E i x i = some x := if_pos rfl
theorem on_ne (E : Nat → Option (Nat × Nat)) {i j : Nat} (x : Nat × Nat) (h : j ≠ i) : on E i x j = E j := if_neg h
/-- A node is taken out. -/
theorem Ch.drop {nd : List Node} {spare : Nat} {E : Nat → Option (Nat × Nat)} {sp : List Nat} (h : Ch nd spare E sp) {i : Nat} {x : Nat × Nat} (hx : E i = some x) :
    Ch (dropN nd i spare) i (off E i) (i :: sp) := by
  obtain ⟨hi17, hil, hc⟩ := h.low i x hx
  have hlab : lab E i = some x.1 := by unfold lab; rw [if_neg (by omega), hx]; rfl
  obtain ⟨n1, n2⟩ := h.nx i _ hlab
  obtain ⟨p1, p2⟩ := h.pv i _ hlab
  have hnl := (lab_lt h n1).1
  have hpl := (lab_lt h p1).1
  have hE : ∀ j c, lab (off E i) j = some c → j ≠ i ∧ lab E j = some c := fun j c hj => by
    unfold lab at hj ⊢
    by_cases e : j = i
    · rw [e, if_neg (by omega), off_same] at hj; cases hj
    · rw [off_ne E e] at hj; exact ⟨e, hj⟩
  have hE2 : ∀ j c, j ≠ i → lab E j = some c → lab (off E i) j = some c := fun j c e hj => by
    unfold lab at hj ⊢
    rw [off_ne E e]; exact hj
  have hat : ∀ j, j ≠ i → nodeAt (dropN nd i spare) j = ⟨(nodeAt nd j).v, if j = (nodeAt nd i).n then (nodeAt nd i).l else (nodeAt nd j).l, if j = (nodeAt nd i).l then (nodeAt nd i).n else (nodeAt nd j).n⟩ := fun j e => by
    unfold dropN
    rw [nodeAt_set _ _ _ _ (by rw [link_len]; exact hil), if_neg e, nodeAt_link _ _ _ _ hpl hnl]
  have hai : nodeAt (dropN nd i spare) i = ⟨0, 0, spare⟩ := by
    unfold dropN
    rw [nodeAt_set _ _ _ _ (by rw [link_len]; exact hil), if_pos rfl]
  refine ⟨by rw [dropN_len]; exact h.len, ?_, ?_, ?_, ?_, ⟨rfl, ?_⟩, ?_, ?_, ?_⟩
  · intro j y hj
    rw [dropN_len]
    by_cases e : j = i
    · rw [e, off_same] at hj; cases hj
    · rw [off_ne E e] at hj; exact h.low j y hj
  · intro j c hj
    obtain ⟨e, hj⟩ := hE j c hj
    obtain ⟨a1, a2⟩ := h.nx j c hj
    rw [hat j e]
    simp only
    by_cases e2 : j = (nodeAt nd i).l
    · rw [if_pos e2]
      have hn1 : (nodeAt nd i).n ≠ i := fun e3 => by
        have : (nodeAt nd i).l = i := by rw [e3] at n2; exact n2
        exact e (e2.trans this)
      have hc2 : x.1 = c := by rw [← e2] at p1; exact Option.some.inj (p1.symm.trans hj)
      rw [hat _ hn1]
      simp only [if_true]
      exact ⟨hE2 _ _ hn1 (by rw [← hc2]; exact n1), e2.symm⟩
    · rw [if_neg e2]
      have hn1 : (nodeAt nd j).n ≠ i := fun e3 => e2 (by rw [e3] at a2; exact a2.symm)
      rw [hat _ hn1]
      simp only
      refine ⟨hE2 _ _ hn1 a1, ?_⟩
      rw [if_neg (fun e3 => e (by rw [e3] at a2; exact (a2.symm.trans n2)))]
      exact a2
  · intro j c hj
    obtain ⟨e, hj⟩ := hE j c hj
    obtain ⟨a1, a2⟩ := h.pv j c hj
    rw [hat j e]
    simp only
    by_cases e2 : j = (nodeAt nd i).n
    · rw [if_pos e2]
      have hn1 : (nodeAt nd i).l ≠ i := fun e3 => by
        have : (nodeAt nd i).n = i := by rw [e3] at p2; exact p2
        exact e (e2.trans this)
      have hc2 : x.1 = c := by rw [← e2] at n1; exact Option.some.inj (n1.symm.trans hj)
      rw [hat _ hn1]
      simp only [if_true]
      exact ⟨hE2 _ _ hn1 (by rw [← hc2]; exact p1), e2.symm⟩
    · rw [if_neg e2]
      have hn1 : (nodeAt nd j).l ≠ i := fun e3 => e2 (by rw [e3] at a2; exact a2.symm)
      rw [hat _ hn1]
      simp only
      refine ⟨hE2 _ _ hn1 a1, ?_⟩
      rw [if_neg (fun e3 => e (by rw [e3] at a2; exact (a2.symm.trans p2)))]
      exact a2
  · intro j c v hj
    by_cases e : j = i
    · rw [e, off_same] at hj; cases hj
    · rw [off_ne E e] at hj
      rw [hat j e]
      exact h.val j c v hj
  · rw [hai]
    refine spL_congr (fun j hj => ?_) h.spl
    obtain ⟨s1, s2, s3⟩ := h.spn j hj
    have e : j ≠ i := fun e => by subst e; rw [s3] at hx; cases hx
    rw [hat j e]
    simp only
    rw [if_neg (fun e3 => by
      have : lab E j = some x.1 := by rw [e3]; exact p1
      unfold lab at this
      rw [if_neg (by omega), s3] at this
      cases this)]
  · exact List.nodup_cons.2 ⟨fun hm => (by have := (h.spn i hm).2.2; rw [this] at hx; cases hx), h.nodup⟩
  · intro j hj
    rw [dropN_len]
    rcases List.mem_cons.1 hj with rfl | hj
    · exact ⟨hi17, hil, off_same _ _⟩
    · obtain ⟨s1, s2, s3⟩ := h.spn j hj
      refine ⟨s1, s2, ?_⟩
      by_cases e : j = i
      · rw [e, off_same]
      · rw [off_ne E e]; exact s3
  · intro j h1 h2
    rw [dropN_len] at h2
    by_cases e : j = i
    · right; rw [e]; exact List.mem_cons_self ..
    · rcases h.all j h1 h2 with h3 | h3
      · left; rw [off_ne E e]; exact h3
      · right; exact List.mem_cons_of_mem _ h3
theorem nodeAt_snoc (nd : List Node) (j : Nat) : nodeAt (nd ++ [⟨0, 0, 0⟩]) j = nodeAt nd j := by
  unfold nodeAt
  simp only [List.getD]
  by_cases h : j < nd.length
  · rw [List.getElem?_append_left h]
  · rw [List.getElem?_append_right (by omega), List.getElem?_eq_none (l := nd) (by omega)]
    by_cases h2 : j - nd.length = 0
    · rw [h2]; rfl
    · rw [List.getElem?_eq_none (by simp; omega)]
theorem Ch.spare0 {nd : List Node} {spare : Nat} {E : Nat → Option (Nat × Nat)} {sp : List Nat} (h : Ch nd spare E sp) : (spare = 0 ∧ sp = []) ∨ (∃ r, sp = spare :: r ∧ 17 ≤ spare ∧ spare < nd.length ∧ E spare = none ∧ SpL nd (nodeAt nd spare).n r) := by
  cases hs : sp with
  | nil => left; have := h.spl; rw [hs] at this; exact ⟨this, rfl⟩
  | cons x r =>
    right
    have h1 := h.spl
    rw [hs] at h1
    obtain ⟨rfl, h2⟩ := h1
    have h3 := h.spn spare (by rw [hs]; exact List.mem_cons_self ..)
    exact ⟨r, rfl, h3.1, h3.2.1, h3.2.2, h2⟩
theorem Ch.spare_lt {nd : List Node} {spare : Nat} {E : Nat → Option (Nat × Nat)} {sp : List Nat} (h : Ch nd spare E sp) : spare < nd.length := by
  rcases h.spare0 with ⟨h1, _⟩ | ⟨r, _, _, h2, _⟩
  · have := h.len; omega
  · exact h2
/-- The node that push takes. -/
theorem Ch.fresh {nd : List Node} {spare : Nat} {E : Nat → Option (Nat × Nat)} {sp : List Nat} (h : Ch nd spare E sp) (c v : Nat) :
    17 ≤ (push nd spare c v).k ∧ E (push nd spare c v).k = none ∧ nd.length ≤ (push nd spare c v).nd.length ∧ (push nd spare c v).nd.length ≤ nd.length + 1 ∧ (push nd spare c v).k < (push nd spare c v).nd.length := by
  have hl := h.len
  rcases h.spare0 with ⟨h1, _⟩ | ⟨r, _, h1, h2, h3, _⟩
  · subst h1
    simp only [push, if_true, link_len, setV_len, List.length_append, List.length_singleton]
    refine ⟨hl, ?_, by omega, by omega, by omega⟩
    cases he : E nd.length with
    | none => rfl
    | some x => have := (h.low _ x he).2.1; omega
  · simp only [push, if_neg (show ¬ spare = 0 by omega), link_len, setV_len]
    exact ⟨h1, h3, by omega, by omega, h2⟩
theorem Ch.push_at {nd : List Node} {spare : Nat} {E : Nat → Option (Nat × Nat)} {sp : List Nat} (h : Ch nd spare E sp) {c : Nat} (v : Nat) (hc : c < 17) (j : Nat) :
    nodeAt (push nd spare c v).nd j = ⟨if j = (push nd spare c v).k then v else (nodeAt nd j).v, if j = (push nd spare c v).k then c else if j = (nodeAt nd c).n then (push nd spare c v).k else (nodeAt nd j).l, if j = c then (push nd spare c v).k else if j = (push nd spare c v).k then (nodeAt nd c).n else (nodeAt nd j).n⟩ := by
  have hl := h.len
  obtain ⟨f1, f2, f3, f4, f5⟩ := h.fresh c v
  have hlab : lab E c = some c := by unfold lab; rw [if_pos hc]
  have hm := h.nx c c hlab
  have hmk : (nodeAt nd c).n ≠ (push nd spare c v).k := fun e => by
    have := hm.1
    rw [e] at this
    unfold lab at this
    rw [if_neg (by omega), f2] at this
    cases this
  have hml := (lab_lt h hm.1).1
  have hck : c ≠ (push nd spare c v).k := by omega
  have key : ∀ (nd1 : List Node) (k : Nat), (∀ j, nodeAt nd1 j = nodeAt nd j) → k < nd1.length → nd.length ≤ nd1.length → (nodeAt nd c).n ≠ k → c ≠ k → nodeAt (link (link (setV nd1 k v) k (nodeAt (setV nd1 k v) c).n) c k) j = ⟨if j = k then v else (nodeAt nd j).v, if j = k then c else if j = (nodeAt nd c).n then k else (nodeAt nd j).l, if j = c then k else if j = k then (nodeAt nd c).n else (nodeAt nd j).n⟩ := fun nd1 k h1 h2 h3 h4 h5 => by
    have hv : ∀ j, nodeAt (setV nd1 k v) j = ⟨if j = k then v else (nodeAt nd j).v, (nodeAt nd j).l, (nodeAt nd j).n⟩ := fun j => by
      unfold setV
      rw [nodeAt_set _ _ _ _ h2, h1]
      by_cases e : j = k
      · subst e; simp
      · simp [e, h1]
    rw [nodeAt_link _ _ _ _ (by rw [link_len, setV_len]; omega) (by rw [link_len, setV_len]; exact h2), hv c, nodeAt_link _ _ _ _ (by rw [setV_len]; exact h2) (by rw [setV_len]; show (nodeAt nd c).n < _; omega), hv j]
  rcases h.spare0 with ⟨h1, _⟩ | ⟨r, _, h1, h2, h3, _⟩
  · subst h1
    simp only [push, if_true] at f1 f5 hmk hck ⊢
    exact key _ _ (nodeAt_snoc nd) (by simp) (by simp) hmk hck
  · simp only [push, if_neg (show ¬ spare = 0 by omega)] at f1 f5 hmk hck ⊢
    exact key _ _ (fun _ => rfl) h2 (Nat.le_refl _) hmk hck
/-- A value is put. -/
theorem Ch.push {nd : List Node} {spare : Nat} {E : Nat → Option (Nat × Nat)} {sp : List Nat} (h : Ch nd spare E sp) {c : Nat} (v : Nat) (hc : c < 17) :
    ∃ sp', Ch (push nd spare c v).nd (push nd spare c v).spare (on E (push nd spare c v).k (c, v)) sp' := by
  have hl := h.len
  obtain ⟨f1, f2, f3, f4, f5⟩ := h.fresh c v
  have hat := h.push_at v hc
  have hlab : lab E c = some c := by unfold lab; rw [if_pos hc]
  have hm := h.nx c c hlab
  have hm2 := h.pv c c hlab
  have hnone : ∀ j x, lab E j = some x → j ≠ (Ar.push nd spare c v).k := fun j x hj e => by
    rw [e] at hj
    unfold lab at hj
    rw [if_neg (by omega), f2] at hj
    cases hj
  have hmk := hnone _ _ hm.1
  have hck := hnone _ _ hlab
  -- what the spare nodes are
  have hsp : ∃ sp', SpL nd (Ar.push nd spare c v).spare sp' ∧ sp'.Nodup ∧ (∀ i ∈ sp', i ∈ sp ∧ i ≠ (Ar.push nd spare c v).k) ∧ (∀ i, 17 ≤ i → i < (Ar.push nd spare c v).nd.length → i = (Ar.push nd spare c v).k ∨ i < nd.length) ∧ (∀ i ∈ sp, i = (Ar.push nd spare c v).k ∨ i ∈ sp') := by
    rcases h.spare0 with ⟨h1, h2⟩ | ⟨r, h0, h1, h2, h3, h4⟩
    · subst h1
      subst h2
      refine ⟨[], by simp [Ar.push, SpL], List.nodup_nil, by simp, fun i hi hlt => ?_, by simp⟩
      simp only [Ar.push, if_true, link_len, setV_len, List.length_append, List.length_singleton] at hlt ⊢
      omega
    · have hn := h.nodup
      rw [h0] at hn
      obtain ⟨hn1, hn2⟩ := List.nodup_cons.1 hn
      simp only [Ar.push, if_neg (show ¬ spare = 0 by omega), link_len, setV_len]
      refine ⟨r, h4, hn2, fun i hi => ⟨by rw [h0]; exact List.mem_cons_of_mem _ hi, fun e => hn1 (e ▸ hi)⟩, fun i _ hlt => .inr hlt, fun i hi => ?_⟩
      rw [h0] at hi
      exact (List.mem_cons.1 hi)
  obtain ⟨sp', s1, s2, s3, s4, s5⟩ := hsp
  generalize Ar.push nd spare c v = R at *
  have hL : ∀ j, lab (on E R.k (c, v)) j = if j = R.k then some c else lab E j := fun j => by
    unfold lab
    by_cases e : j = R.k
    · rw [if_pos e, e, if_neg (by omega), on_same]; rfl
    · rw [if_neg e, on_ne E _ e]
  refine ⟨sp', ⟨by omega, ?_, ?_, ?_, ?_, ?_, s2, ?_, ?_⟩⟩
  · intro i x hi
    by_cases e : i = R.k
    · rw [e, on_same] at hi
      cases hi
      exact ⟨by omega, by omega, hc⟩
    · rw [on_ne E _ e] at hi
      have := h.low i x hi
      exact ⟨this.1, by omega, this.2.2⟩
  · intro i x hi
    rw [hL] at hi
    rw [hat i]
    simp only
    by_cases e1 : i = R.k
    · rw [if_pos e1] at hi
      cases hi
      rw [if_neg (show ¬ i = c by omega), if_pos e1, hL, if_neg hmk, hat]
      simp only
      rw [if_neg hmk, if_pos trivial]
      exact ⟨hm.1, e1.symm⟩
    · rw [if_neg e1] at hi
      obtain ⟨a1, a2⟩ := h.nx i x hi
      by_cases e2 : i = c
      · rw [if_pos e2, hL, if_pos rfl, hat]
        simp only
        rw [if_pos trivial]
        rw [e2] at hi ⊢
        exact ⟨hlab.symm.trans hi, rfl⟩
      · rw [if_neg e2, if_neg e1, hL, if_neg (hnone _ _ a1), hat]
        simp only
        rw [if_neg (hnone _ _ a1), if_neg (fun e3 => e2 (by rw [e3] at a2; exact a2.symm.trans hm.2))]
        exact ⟨a1, a2⟩
  · intro i x hi
    rw [hL] at hi
    rw [hat i]
    simp only
    by_cases e1 : i = R.k
    · rw [if_pos e1] at hi
      cases hi
      rw [if_pos e1, hL, if_neg hck, hat]
      simp only
      rw [if_pos trivial]
      exact ⟨hlab, e1.symm⟩
    · rw [if_neg e1] at hi
      obtain ⟨a1, a2⟩ := h.pv i x hi
      rw [if_neg e1]
      by_cases e2 : i = (nodeAt nd c).n
      · rw [if_pos e2, hL, if_pos rfl, hat]
        simp only
        rw [if_neg (fun e3 => hck e3.symm), if_pos trivial]
        rw [e2] at hi ⊢
        exact ⟨hm.1.symm.trans hi, rfl⟩
      · rw [if_neg e2, hL, if_neg (hnone _ _ a1), hat]
        simp only
        rw [if_neg (fun e3 => e2 (by rw [e3] at a2; exact a2.symm)), if_neg (hnone _ _ a1)]
        exact ⟨a1, a2⟩
  · intro i x y hi
    rw [hat i]
    simp only
    by_cases e : i = R.k
    · rw [e, on_same] at hi
      cases hi
      rw [if_pos e]
    · rw [on_ne E _ e] at hi
      rw [if_neg e]
      exact h.val i x y hi
  · refine spL_congr (fun i hi => ?_) s1
    obtain ⟨m1, m2⟩ := s3 i hi
    have := h.spn i m1
    rw [hat i]
    simp only
    rw [if_neg (by omega), if_neg m2]
  · intro i hi
    obtain ⟨m1, m2⟩ := s3 i hi
    have := h.spn i m1
    exact ⟨this.1, by omega, by rw [on_ne E _ m2]; exact this.2.2⟩
  · intro i h1 h2
    by_cases e : i = R.k
    · left; rw [e, on_same]; intro h; cases h
    · rw [on_ne E _ e]
      rcases s4 i h1 h2 with h3 | h3
      · exact absurd h3 e
      · rcases h.all i h1 h3 with h4 | h4
        · exact .inl h4
        · exact (s5 i h4).imp (fun h5 => absurd h5 e) id
theorem Ch.ring0 : Ch Ar.ring0 0 (fun _ => none) [] := by
  have hn : ∀ i : Fin 17, nodeAt (ring 17) i.1 = ⟨0, i.1, i.1⟩ := by decide +kernel
  have hl : Ar.ring0.length = 17 := ring_len 17
  have hlab : ∀ i c, lab (fun _ => none) i = some c → i < 17 ∧ c = i := fun i c h => by
    unfold lab at h
    split at h
    · cases h; exact ⟨by assumption, rfl⟩
    · cases h
  refine ⟨by omega, ?_, ?_, ?_, ?_, rfl, List.nodup_nil, ?_, ?_⟩
  · intro i x h; cases h
  · intro i c h
    obtain ⟨h1, rfl⟩ := hlab i c h
    have := hn ⟨c, h1⟩
    unfold Ar.ring0
    simp only at this
    rw [this]
    simp only
    rw [this]
    exact ⟨h, rfl⟩
  · intro i c h
    obtain ⟨h1, rfl⟩ := hlab i c h
    have := hn ⟨c, h1⟩
    unfold Ar.ring0
    simp only at this
    rw [this]
    simp only
    rw [this]
    exact ⟨h, rfl⟩
  · intro i c v h; cases h
  · intro i h; cases h
  · intro i h1 h2; omega
end Ar
end Go.Proofs.YtkndbldjablhoaaDoor
