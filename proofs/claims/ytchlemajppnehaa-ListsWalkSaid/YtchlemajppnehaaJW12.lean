/- A Due's table, heap and turns: the mathematics. -/
import Derived.Test.YtchlemajppnehaaJW5
import Derived.Test.YtchlemajppnehaaJW11
/- A Due's table, heap and turns: the mathematics. -/
set_option maxRecDepth 100000
namespace Go.Proofs.Ytchlemajppnehaa
namespace Du
open Tb Lr
structure TabI (T : Tab) (o : List Nat) (N : Nat) : Prop where
  len : T.rows.length ≤ N
  nd : (o ++ T.spare).Nodup
  lt : ∀ i ∈ o ++ T.spare, i < T.rows.length
  g : ∀ k i, T.g k = some i ↔ i ∈ o ∧ (rat T.rows i).k = k
  wf : ∀ i ∈ o, I64 (rat T.rows i).k
variable {T : Tab} {o : List Nat} {N : Nat}
theorem TabI.bounds (h : TabI T o N) : o.length + T.spare.length ≤ T.rows.length := by
  have := pigeon T.rows.length _ h.nd h.lt
  simpa using this
theorem TabI.add (h : TabI T o N) {k : Int} (hk : I64 k) (hg : T.g k = none) : TabI (T.add k) (o ++ [T.free]) (N + 1) ∧ (rat (T.add k).rows T.free).k = k ∧ (∀ i ∈ o, rat (T.add k).rows i = rat T.rows i) ∧ T.free ∉ o ∧ T.rows.length ≤ (T.add k).rows.length := by
  have hnd := h.nd
  have hlen := h.len
  have fin : ∀ (x : Nat) (rows' : List Row) (s : List Nat), T.add k = ⟨rows', s, updO T.g k (some x)⟩ → T.free = x → T.rows.length ≤ rows'.length → rows'.length ≤ T.rows.length + 1 → x < rows'.length → (rat rows' x).k = k →
      (∀ i, i < T.rows.length → i ≠ x → rat rows' i = rat T.rows i) → x ∉ o → ((o ++ [x]) ++ s).Nodup → (∀ i ∈ s, i < rows'.length) → TabI (T.add k) (o ++ [T.free]) (N + 1) ∧ (rat (T.add k).rows T.free).k = k ∧ (∀ i ∈ o, rat (T.add k).rows i = rat T.rows i) ∧ T.free ∉ o ∧ T.rows.length ≤ (T.add k).rows.length := by
    intro x rows' s e1 e2 l1 l2 hx hxk hro hxo hn hs
    rw [e1, e2]
    have hkk : ∀ i ∈ o, rat rows' i = rat T.rows i := fun i hi => hro i (h.lt i (by simp [hi])) (fun e => hxo (e ▸ hi))
    refine ⟨⟨by show rows'.length ≤ _; omega, hn, fun i hi => ?_, fun k' i => ?_, fun i hi => ?_⟩, hxk, hkk, hxo, l1⟩
    · show i < rows'.length
      rw [List.mem_append, List.mem_append, List.mem_singleton] at hi
      rcases hi with (e | rfl) | e
      · have := h.lt i (by simp [e]); omega
      · exact hx
      · exact hs i e
    · show updO T.g k (some x) k' = some i ↔ _ ∧ (rat rows' i).k = k'
      unfold updO
      rw [List.mem_append, List.mem_singleton]
      by_cases e : k' = k
      · subst e
        rw [if_pos rfl]
        constructor
        · intro e; cases e; exact ⟨.inr rfl, hxk⟩
        · rintro ⟨e | rfl, h2⟩
          · rw [hkk i e] at h2
            have := (h.g k' i).2 ⟨e, h2⟩
            rw [hg] at this
            cases this
          · rfl
      · rw [if_neg e, h.g k' i]
        constructor
        · rintro ⟨h1, h2⟩
          exact ⟨.inl h1, by rw [hkk i h1]; exact h2⟩
        · rintro ⟨e1 | rfl, h2⟩
          · exact ⟨e1, by rw [← hkk i e1]; exact h2⟩
          · exact absurd (h2.symm.trans hxk) e
    · show I64 (rat rows' i).k
      rw [List.mem_append, List.mem_singleton] at hi
      rcases hi with e | rfl
      · rw [hkk i e]; exact h.wf i e
      · rw [hxk]; exact hk
  rcases List.eq_nil_or_concat T.spare with hs | ⟨s, j, hs⟩
  · have e1 : T.free = T.rows.length := by unfold Tab.free; rw [if_pos hs]
    have e2 : T.add k = ⟨T.rows ++ [{ zero with k := k }], [], updO T.g k (some T.rows.length)⟩ := by
      unfold Tab.add Tab.room
      rw [e1, hs, if_pos rfl]
      simp
    have hno : T.rows.length ∉ o := fun e => by have := h.lt _ (List.mem_append_left _ e); omega
    refine fin T.rows.length _ _ e2 e1 (by simp) (by simp) (by simp) (by simp [rat]) (fun i hi _ => rat_app _ hi) hno ?_ (fun i hi => by cases hi)
    rw [List.append_nil]
    exact (List.perm_append_singleton _ _).nodup_iff.2 (List.nodup_cons.2 ⟨hno, (List.nodup_append.1 hnd).1⟩)
  · have e1 : T.free = j := by unfold Tab.free; rw [if_neg (by simp [hs])]; simp [hs]
    have hj : j < T.rows.length := h.lt j (by simp [hs])
    have e2 : T.add k = ⟨T.rows.set j { rat T.rows j with k := k }, s, updO T.g k (some j)⟩ := by
      unfold Tab.add Tab.room
      rw [e1, if_neg (by simp [hs]), hs]
      simp [rat]
    rw [hs, List.concat_eq_append] at hnd
    refine fin j _ _ e2 e1 (by simp) (by simp) (by simpa using hj) (by rw [rat_set hj, if_pos rfl]) (fun i hi hne => by rw [rat_set hj, if_neg hne]) (fun e => (List.nodup_append.1 hnd).2.2 j e j (by simp) rfl) ?_ (fun i hi => by rw [List.length_set]; exact h.lt i (by simp [hs, hi]))
    rw [List.append_assoc]
    refine (List.Perm.append_left o ?_).nodup_iff.2 hnd
    exact (List.perm_append_singleton j s).symm
theorem TabI.drop (h : TabI T o N) {x : Nat} (hx : x ∈ o) : TabI (T.drop x) (o.erase x) N ∧ (∀ i ∈ o.erase x, i ∈ o ∧ i ≠ x ∧ rat (T.drop x).rows i = rat T.rows i) ∧ (T.drop x).rows.length = T.rows.length := by
  have hnd := h.nd
  have ho : o.Nodup := (List.nodup_append.1 hnd).1
  have hxl : x < T.rows.length := h.lt x (by simp [hx])
  have hrr : ∀ i, i ≠ x → rat (T.rows.set x zero) i = rat T.rows i := fun i hi => by rw [rat_set hxl, if_neg hi]
  have hme : ∀ i, i ∈ o.erase x ↔ i ≠ x ∧ i ∈ o := fun i => ho.mem_erase_iff
  have hl : (T.rows.set x zero).length = T.rows.length := List.length_set
  have hp : (o.erase x ++ (T.spare ++ [x])).Perm (o ++ T.spare) := by
    have h1 : (o.erase x ++ (T.spare ++ [x])).Perm (o.erase x ++ (x :: T.spare)) := List.Perm.append_left _ (List.perm_append_singleton x T.spare)
    exact h1.trans (List.perm_middle.trans ((List.perm_cons_erase hx).symm.append_right T.spare))
  refine ⟨⟨by show (T.rows.set x zero).length ≤ N; rw [hl]; exact h.len, hp.nodup_iff.2 hnd, fun i hi => by show i < (T.rows.set x zero).length; rw [hl]; exact h.lt i (hp.mem_iff.1 hi), fun k i => ?_, fun i hi => ?_⟩, fun i hi => ⟨((hme i).1 hi).2, ((hme i).1 hi).1, hrr i ((hme i).1 hi).1⟩, hl⟩
  · show updO T.g (T.at_ x).k none k = some i ↔ i ∈ o.erase x ∧ (rat (T.rows.set x zero) i).k = k
    have hkx : T.g (rat T.rows x).k = some x := (h.g _ _).2 ⟨hx, rfl⟩
    unfold updO
    rw [hme i]
    by_cases e : k = (T.at_ x).k
    · rw [if_pos e]
      constructor
      · intro e; cases e
      · rintro ⟨⟨h1, h2⟩, h3⟩
        rw [hrr i h1] at h3
        have := (h.g k i).2 ⟨h2, h3⟩
        rw [e] at this
        have h5 : T.g (T.at_ x).k = some x := hkx
        rw [h5] at this
        cases this
        exact absurd rfl h1
    · rw [if_neg e, h.g k i]
      constructor
      · rintro ⟨h1, h2⟩
        have hne : i ≠ x := fun e2 => e (by rw [← h2, e2]; rfl)
        exact ⟨⟨hne, h1⟩, by rw [hrr i hne]; exact h2⟩
      · rintro ⟨⟨h1, h2⟩, h3⟩
        exact ⟨h2, by rw [← hrr i h1]; exact h3⟩
  · show I64 (rat (T.rows.set x zero) i).k
    rw [hrr i ((hme i).1 hi).1]
    exact h.wf i ((hme i).1 hi).2
/-- Rows written, whose keys stay. -/
theorem TabI.write (h : TabI T o N) {rows : List Row} {o' : List Nat} (hl : rows.length = T.rows.length) (hk : ∀ i ∈ o, (rat rows i).k = (rat T.rows i).k) (hp : o'.Perm o) : TabI ⟨rows, T.spare, T.g⟩ o' N := by
  refine ⟨by show rows.length ≤ N; rw [hl]; exact h.len, (hp.append_right _).nodup_iff.2 h.nd, fun i hi => by show i < rows.length; rw [hl]; exact h.lt i ((hp.append_right _).mem_iff.1 hi), fun k i => ?_, fun i hi => ?_⟩
  · show T.g k = some i ↔ i ∈ o' ∧ (rat rows i).k = k
    rw [h.g k i, hp.mem_iff]
    constructor
    · rintro ⟨h1, h2⟩; exact ⟨h1, by rw [hk i h1]; exact h2⟩
    · rintro ⟨h1, h2⟩; exact ⟨h1, by rw [← hk i h1]; exact h2⟩
  · show I64 (rat rows i).k
    rw [hk i (hp.mem_iff.1 hi)]; exact h.wf i (hp.mem_iff.1 hi)
theorem map_c {rows : List Row} {i : Nat} (hi : i < rows.length) : (rows.map (·.c))[i]? = some (rat rows i).c := by
  unfold rat
  rw [List.getElem?_map, List.getD_eq_getElem?_getD, List.getElem?_eq_getElem hi]
  rfl
/-- A heap stays one where rows change beside it. -/
theorem heap_back {rows : List Row} {s : Hp.Sp} {A A' : Nat → Prop} {lt0 : Nat → Nat → Bool} (h : Hp.Is lt0 A s) (hpl : Hp.Pl s.l.length s) (hA : ∀ i, A' i ↔ A i) (hlt : ∀ i j, A i → A j → lt rows i j = lt0 i j) (hc : ∀ i, A i → (rows.map (·.c))[i]? = s.pl[i]?) :
    Hp.Is (lt rows) A' ⟨s.l, rows.map (·.c)⟩ ∧ Hp.Pl s.l.length ⟨s.l, rows.map (·.c)⟩ := by
  have hm : ∀ p, p < s.l.length → A (s.at_ p) := fun p hp => (h.rng _).1 ⟨p, hp, rfl⟩
  refine ⟨⟨h.inj, fun v => (h.rng v).trans (hA v).symm, fun p h0 hp => ?_⟩, fun p hp => ?_⟩
  · show lt rows (s.at_ p) (s.at_ (Hp.above p)) = false
    rw [hlt _ _ (hm p hp) (hm _ (by have := Hp.above_lt h0; have hp2 : p < s.l.length := hp; omega))]
    exact h.ok p h0 hp
  · show (rows.map (·.c))[s.at_ p]? = some p
    rw [hc _ (hm p hp)]
    exact hpl p hp
structure InvD (S : St) (o : List Nat) (N : Nat) : Prop where
  tab : TabI S.T o N
  turn : o.Pairwise (fun i j => (rat S.T.rows i).b < (rat S.T.rows j).b)
  top : ∀ i ∈ o, (rat S.T.rows i).b ≤ S.turns
  tn : S.turns ≤ N
  heap : Hp.Is (lt S.T.rows) (· ∈ o) ⟨S.l, S.T.rows.map (·.c)⟩
  pl : Hp.Pl S.l.length ⟨S.l, S.T.rows.map (·.c)⟩
/-- All but one stand in the heap. -/
structure Half (S : St) (o : List Nat) (x : Nat) (N : Nat) : Prop where
  tab : TabI S.T (o ++ [x]) N
  turn : o.Pairwise (fun i j => (rat S.T.rows i).b < (rat S.T.rows j).b)
  top : ∀ i ∈ o, (rat S.T.rows i).b ≤ S.turns
  tn : S.turns < N
  heap : Hp.Is (lt S.T.rows) (· ∈ o) ⟨S.l, S.T.rows.map (·.c)⟩
  pl : Hp.Pl S.l.length ⟨S.l, S.T.rows.map (·.c)⟩
def ent (S : St) (i : Nat) : Int × Int := ((rat S.T.rows i).k, (rat S.T.rows i).a)
variable {S : St}
def St.sp (S : St) : Hp.Sp := ⟨S.l, S.T.rows.map (·.c)⟩
/-- The state when the heap is s. -/
def St.at_ (S : St) (s : Hp.Sp) : St := ⟨S.turns, ⟨withC S.T.rows s.pl, S.T.spare, S.T.g⟩, s.l⟩
theorem St.at_sp (S : St) : S.at_ S.sp = S := by
  unfold St.at_ St.sp
  simp only [withC_self]
theorem is_len {lt0 : Nat → Nat → Bool} {s : Hp.Sp} (h : Hp.Is lt0 (· ∈ o) s) (ho : o.Nodup) : s.l.length = o.length := by
  have h1 : (List.range s.l.length).map s.at_ ⊆ o := fun v hv => by
    obtain ⟨p, hp, rfl⟩ := List.mem_map.1 hv
    exact (h.rng _).1 ⟨p, List.mem_range.1 hp, rfl⟩
  have h2 : o ⊆ (List.range s.l.length).map s.at_ := fun v hv => by
    obtain ⟨p, hp, e⟩ := (h.rng v).2 hv
    exact List.mem_map.2 ⟨p, List.mem_range.2 hp, e⟩
  have h3 : ((List.range s.l.length).map s.at_).Nodup := by
    refine List.pairwise_map.2 (List.Pairwise.imp_of_mem (fun {a b} ha hb hne e => ?_) List.nodup_range)
    exact hne (h.inj a b (List.mem_range.1 ha) (List.mem_range.1 hb) e)
  have h4 := (List.perm_ext_iff_of_nodup h3 ho).2 (fun v => ⟨fun e => h1 e, fun e => h2 e⟩)
  have := h4.length_eq
  simpa using this
theorem InvD.place (h : InvD S o N) {x : Nat} (hx : x ∈ o) : (rat S.T.rows x).c < S.l.length ∧ S.sp.at_ (rat S.T.rows x).c = x := by
  obtain ⟨p, hp, e⟩ := (h.heap.rng x).2 hx
  have h1 := h.pl p hp
  have hxl : x < S.T.rows.length := h.tab.lt x (by simp [hx])
  rw [e] at h1
  rw [map_c hxl] at h1
  cases h1
  exact ⟨hp, e⟩
theorem InvD.nodup (h : InvD S o N) : o.Nodup := (List.nodup_append.1 h.tab.nd).1
/-- One leaves the heap. -/
theorem InvD.leave (h : InvD S o N) {x : Nat} (hx : x ∈ o) {s' : Hp.Sp} (hs : Hp.take (lt S.T.rows) S.sp (rat S.T.rows x).c = (x, s')) : s'.pl.length = S.T.rows.length ∧
    Hp.Is (lt S.T.rows) (fun v => v ∈ o.erase x) s' ∧ Hp.Pl s'.l.length s' ∧ s'.l.length + 1 = S.l.length := by
  obtain ⟨h1, h2⟩ := h.place hx
  have ht := Hp.take_ok (ord S.T.rows) h.heap h1
  have ho := h.nodup
  rw [show (⟨S.l, S.T.rows.map (·.c)⟩ : Hp.Sp) = S.sp from rfl] at ht
  rw [h2, hs] at ht
  obtain ⟨_, t2, t3, t4, _, t6⟩ := ht
  simp only at t2 t3 t4 t6
  have hl : S.sp.l.length = S.l.length := rfl
  rw [hl] at t3 t6
  refine ⟨by rw [t4]; show (S.T.rows.map _).length = _; simp, ⟨t2.inj, fun v => (t2.rng v).trans ?_, t2.ok⟩, by rw [t3]; exact t6 h.pl, by omega⟩
  rw [ho.mem_erase_iff]
  exact And.comm
theorem InvD.first (h : InvD S o N) {x : Nat} (hx : x ∈ o) : ∃ s', Hp.take (lt S.T.rows) S.sp (rat S.T.rows x).c = (x, s') := by
  obtain ⟨h1, h2⟩ := h.place hx
  exact ⟨_, Prod.ext h2 rfl⟩
theorem lt_congr {rows rows' : List Row} {i j : Nat} (hi : (rat rows' i).a = (rat rows i).a ∧ (rat rows' i).b = (rat rows i).b) (hj : (rat rows' j).a = (rat rows j).a ∧ (rat rows' j).b = (rat rows j).b) : lt rows' i j = lt rows i j := by
  unfold lt
  rw [hi.1, hi.2, hj.1, hj.2]
theorem InvD.rat_at (_h : InvD S o N) {s' : Hp.Sp} (hp : s'.pl.length = S.T.rows.length) {i : Nat} (hi : i < S.T.rows.length) : rat (S.at_ s').T.rows i = { rat S.T.rows i with c := s'.pl.getD i 0 } := withC_at hp hi
theorem InvD.half_old (h : InvD S o N) {x : Nat} (hx : x ∈ o) {s' : Hp.Sp} (hs : Hp.take (lt S.T.rows) S.sp (rat S.T.rows x).c = (x, s')) : Half (S.at_ s') (o.erase x) x (N + 1) ∧ (∀ i ∈ o, ent (S.at_ s') i = ent S i) := by
  obtain ⟨hp, hI, hP, hl⟩ := h.leave hx hs
  have hsub : ∀ i ∈ o.erase x, i ∈ o := fun i hi => List.mem_of_mem_erase hi
  have hlt : ∀ i ∈ o, i < S.T.rows.length := fun i hi => h.tab.lt i (by simp [hi])
  have hr := fun i (hi : i ∈ o) => withC_at (rows := S.T.rows) hp (hlt i hi)
  have hpm : (o.erase x ++ [x]).Perm o := (List.perm_append_singleton _ _).trans (List.perm_cons_erase hx).symm
  have hlw : (withC S.T.rows s'.pl).length = S.T.rows.length := withC_len hp
  have hb := heap_back (rows := (S.at_ s').T.rows) hI hP (A' := (· ∈ o.erase x)) (fun _ => Iff.rfl) (fun i j hi hj => lt_congr (by rw [show (S.at_ s').T.rows = withC S.T.rows s'.pl from rfl, hr i (hsub i hi)]; exact ⟨rfl, rfl⟩) (by rw [show (S.at_ s').T.rows = withC S.T.rows s'.pl from rfl, hr j (hsub j hj)]; exact ⟨rfl, rfl⟩)) (fun i hi => by
    have hil := hlt i (hsub i hi)
    rw [map_c (by show i < (withC S.T.rows s'.pl).length; rw [hlw]; exact hil)]
    show some (rat (withC S.T.rows s'.pl) i).c = _
    rw [hr i (hsub i hi), List.getD_eq_getElem?_getD, List.getElem?_eq_getElem (by rw [hp]; exact hil)]
    rfl)
  refine ⟨⟨?_, ?_, fun i hi => ?_, Nat.lt_succ_of_le h.tn, hb.1, hb.2⟩, fun i hi => ?_⟩
  · have := h.tab.write (rows := withC S.T.rows s'.pl) hlw (fun i hi => by rw [hr i hi]) hpm
    exact ⟨Nat.le_succ_of_le this.len, this.nd, this.lt, this.g, this.wf⟩
  · refine List.Pairwise.imp_of_mem (fun {a b} ha hb e => ?_) (h.turn.sublist List.erase_sublist)
    show (rat (withC S.T.rows s'.pl) a).b < (rat (withC S.T.rows s'.pl) b).b
    rw [hr a (hsub a ha), hr b (hsub b hb)]
    exact e
  · show (rat (withC S.T.rows s'.pl) i).b ≤ S.turns
    rw [hr i (hsub i hi)]
    exact h.top i (hsub i hi)
  · show ((rat (withC S.T.rows s'.pl) i).k, (rat (withC S.T.rows s'.pl) i).a) = _
    rw [hr i hi]
    rfl
theorem InvD.half_new (h : InvD S o N) {k : Int} (hk : I64 k) (hg : S.T.g k = none) : Half ⟨S.turns, S.T.add k, S.l⟩ o S.T.free (N + 1) ∧ (∀ i ∈ o, ent ⟨S.turns, S.T.add k, S.l⟩ i = ent S i) ∧ (rat (S.T.add k).rows S.T.free).k = k ∧ S.T.free ∉ o := by
  obtain ⟨h1, h2, h3, h4, h5⟩ := h.tab.add hk hg
  have hlt : ∀ i ∈ o, i < S.T.rows.length := fun i hi => h.tab.lt i (by simp [hi])
  have hb := heap_back (rows := (S.T.add k).rows) h.heap h.pl (A' := (· ∈ o)) (fun _ => Iff.rfl) (fun i j hi hj => lt_congr (by rw [h3 i hi]; exact ⟨rfl, rfl⟩) (by rw [h3 j hj]; exact ⟨rfl, rfl⟩)) (fun i hi => by
    rw [map_c (by have := hlt i hi; omega), h3 i hi, ← map_c (hlt i hi)])
  refine ⟨⟨h1, ?_, fun i hi => ?_, Nat.lt_succ_of_le h.tn, hb.1, hb.2⟩, fun i hi => ?_, h2, h4⟩
  · refine List.Pairwise.imp_of_mem (fun {a b} ha hb e => ?_) h.turn
    show (rat (S.T.add k).rows a).b < (rat (S.T.add k).rows b).b
    rw [h3 a ha, h3 b hb]
    exact e
  · show (rat (S.T.add k).rows i).b ≤ S.turns
    rw [h3 i hi]
    exact h.top i hi
  · show ((rat (S.T.add k).rows i).k, (rat (S.T.add k).rows i).a) = _
    rw [h3 i hi]
    rfl
/-- The one is written, and goes in. -/
def St.due (S : St) (x : Nat) (a : Int) : St := ⟨S.turns + 1, ⟨S.T.rows.set x ⟨(rat S.T.rows x).k, a, S.turns + 1, 0⟩, S.T.spare, S.T.g⟩, S.l⟩
theorem Half.push {x : Nat} (h : Half S o x N) (a : Int) : InvD ((S.due x a).at_ (Hp.push (lt (S.due x a).T.rows) (S.due x a).sp x)) (o ++ [x]) N ∧
    (∀ i ∈ o, ent ((S.due x a).at_ (Hp.push (lt (S.due x a).T.rows) (S.due x a).sp x)) i = ent S i) ∧ ent ((S.due x a).at_ (Hp.push (lt (S.due x a).T.rows) (S.due x a).sp x)) x = ((rat S.T.rows x).k, a) ∧ x < S.T.rows.length := by
  have hxl : x < S.T.rows.length := h.tab.lt x (by simp)
  have hlt : ∀ i ∈ o, i < S.T.rows.length := fun i hi => h.tab.lt i (by simp [hi])
  have hxo : x ∉ o := fun e => (List.nodup_append.1 (List.nodup_append.1 h.tab.nd).1).2.2 x e x (by simp) rfl
  have hne : ∀ i ∈ o, i ≠ x := fun i hi e => hxo (e ▸ hi)
  have hr2 : ∀ i, rat (S.due x a).T.rows i = if i = x then ⟨(rat S.T.rows x).k, a, S.turns + 1, 0⟩ else rat S.T.rows i := fun i => rat_set hxl _ i
  have hl2 : (S.due x a).T.rows.length = S.T.rows.length := List.length_set
  have h2 := heap_back (rows := (S.due x a).T.rows) h.heap h.pl (A' := (· ∈ o)) (fun _ => Iff.rfl) (fun i j hi hj => lt_congr (by rw [hr2 i, if_neg (hne i hi)]; exact ⟨rfl, rfl⟩) (by rw [hr2 j, if_neg (hne j hj)]; exact ⟨rfl, rfl⟩)) (fun i hi => by
    rw [map_c (by rw [hl2]; exact hlt i hi), hr2 i, if_neg (hne i hi), ← map_c (hlt i hi)])
  obtain ⟨q1, q2, q3, q4, q5⟩ := Hp.push_ok (ord (S.due x a).T.rows) h2.1 hxo
  rw [show (⟨(⟨S.l, S.T.rows.map (·.c)⟩ : Hp.Sp).l, (S.due x a).T.rows.map (·.c)⟩ : Hp.Sp) = (S.due x a).sp from rfl] at q1 q2 q3 q4 q5
  have q5 := q5 h2.2 (by show x < ((S.due x a).T.rows.map _).length; rw [List.length_map, hl2]; exact hxl)
  have hsl : (S.due x a).sp.l.length = S.l.length := rfl
  generalize Hp.push (lt (S.due x a).T.rows) (S.due x a).sp x = s3 at *
  have hp : s3.pl.length = (S.due x a).T.rows.length := by rw [q3]; show ((S.due x a).T.rows.map _).length = _; rw [List.length_map]
  have hr := fun i (hi : i < (S.due x a).T.rows.length) => withC_at (rows := (S.due x a).T.rows) hp hi
  have hlw : (withC (S.due x a).T.rows s3.pl).length = (S.due x a).T.rows.length := withC_len hp
  have hlx : ∀ i ∈ o ++ [x], i < (S.due x a).T.rows.length := fun i hi => by
    rw [hl2]
    rw [List.mem_append, List.mem_singleton] at hi
    rcases hi with e | rfl
    · exact hlt i e
    · exact hxl
  have hb := heap_back (rows := ((S.due x a).at_ s3).T.rows) q1 (by rw [q2]; exact q5) (A' := (· ∈ o ++ [x])) (fun i => by rw [List.mem_append, List.mem_singleton]) (fun i j hi hj => by
      have hi := hlx i (by rw [List.mem_append, List.mem_singleton]; exact hi)
      have hj := hlx j (by rw [List.mem_append, List.mem_singleton]; exact hj)
      exact lt_congr (by rw [show ((S.due x a).at_ s3).T.rows = withC (S.due x a).T.rows s3.pl from rfl, hr i hi]; exact ⟨rfl, rfl⟩) (by rw [show ((S.due x a).at_ s3).T.rows = withC (S.due x a).T.rows s3.pl from rfl, hr j hj]; exact ⟨rfl, rfl⟩)) (fun i hi => by
    have hil := hlx i (by rw [List.mem_append, List.mem_singleton]; exact hi)
    rw [map_c (by show i < (withC (S.due x a).T.rows s3.pl).length; rw [hlw]; exact hil)]
    show some (rat (withC (S.due x a).T.rows s3.pl) i).c = _
    rw [hr i hil, List.getD_eq_getElem?_getD, List.getElem?_eq_getElem (by rw [hp]; exact hil)]
    rfl)
  have hbo : ∀ i ∈ o, rat (withC (S.due x a).T.rows s3.pl) i = { rat S.T.rows i with c := s3.pl.getD i 0 } := fun i hi => by
    rw [hr i (hlx i (by simp [hi])), hr2 i, if_neg (hne i hi)]
  have hbx : rat (withC (S.due x a).T.rows s3.pl) x = ⟨(rat S.T.rows x).k, a, S.turns + 1, s3.pl.getD x 0⟩ := by
    rw [hr x (hlx x (by simp)), hr2 x, if_pos rfl]
  refine ⟨⟨?_, ?_, fun i hi => ?_, h.tn, hb.1, hb.2⟩, fun i hi => ?_, ?_, hxl⟩
  · refine h.tab.write (rows := withC (S.due x a).T.rows s3.pl) (hlw.trans hl2) (fun i hi => ?_) (List.Perm.refl _)
    rw [List.mem_append, List.mem_singleton] at hi
    rcases hi with e | rfl
    · rw [hbo i e]
    · rw [hbx]
  · refine List.pairwise_append.2 ⟨List.Pairwise.imp_of_mem (fun {u v} hu hv e => ?_) h.turn, List.pairwise_singleton _ _, fun u hu v hv => ?_⟩
    · show (rat (withC (S.due x a).T.rows s3.pl) u).b < (rat (withC (S.due x a).T.rows s3.pl) v).b
      rw [hbo u hu, hbo v hv]
      exact e
    · rw [List.mem_singleton] at hv
      subst hv
      show (rat (withC (S.due v a).T.rows s3.pl) u).b < (rat (withC (S.due v a).T.rows s3.pl) v).b
      rw [hbo u hu, hbx]
      exact Nat.lt_succ_of_le (h.top u hu)
  · show (rat (withC (S.due x a).T.rows s3.pl) i).b ≤ S.turns + 1
    rw [List.mem_append, List.mem_singleton] at hi
    rcases hi with e | rfl
    · rw [hbo i e]; exact Nat.le_succ_of_le (h.top i e)
    · rw [hbx]; exact Nat.le_refl _
  · show ((rat (withC (S.due x a).T.rows s3.pl) i).k, (rat (withC (S.due x a).T.rows s3.pl) i).a) = _
    rw [hbo i hi]
    rfl
  · show ((rat (withC (S.due x a).T.rows s3.pl) x).k, (rat (withC (S.due x a).T.rows s3.pl) x).a) = _
    rw [hbx]
theorem Half.drop {x : Nat} (h : Half S o x N) : InvD ⟨S.turns, S.T.drop x, S.l⟩ o N ∧ (∀ i ∈ o, ent ⟨S.turns, S.T.drop x, S.l⟩ i = ent S i) := by
  have hxo : x ∉ o := fun e => (List.nodup_append.1 (List.nodup_append.1 h.tab.nd).1).2.2 x e x (by simp) rfl
  obtain ⟨h1, h2, h3⟩ := h.tab.drop (x := x) (by simp)
  have he : (o ++ [x]).erase x = o := by rw [List.erase_append_right _ hxo, List.erase_cons_head, List.append_nil]
  rw [he] at h1 h2
  have hlt : ∀ i ∈ o, i < S.T.rows.length := fun i hi => h.tab.lt i (by simp [hi])
  have hb := heap_back (rows := (S.T.drop x).rows) h.heap h.pl (A' := (· ∈ o)) (fun _ => Iff.rfl) (fun i j hi hj => lt_congr (by rw [(h2 i hi).2.2]; exact ⟨rfl, rfl⟩) (by rw [(h2 j hj).2.2]; exact ⟨rfl, rfl⟩)) (fun i hi => by
    rw [map_c (by rw [h3]; exact hlt i hi), (h2 i hi).2.2, ← map_c (hlt i hi)])
  refine ⟨⟨h1, ?_, fun i hi => ?_, Nat.le_of_lt h.tn, hb.1, hb.2⟩, fun i hi => ?_⟩
  · refine List.Pairwise.imp_of_mem (fun {a b} ha hb e => ?_) h.turn
    show (rat (S.T.drop x).rows a).b < (rat (S.T.drop x).rows b).b
    rw [(h2 a ha).2.2, (h2 b hb).2.2]
    exact e
  · show (rat (S.T.drop x).rows i).b ≤ S.turns
    rw [(h2 i hi).2.2]
    exact h.top i hi
  · show ((rat (S.T.drop x).rows i).k, (rat (S.T.drop x).rows i).a) = _
    rw [(h2 i hi).2.2]
    rfl
end Du
end Go.Proofs.Ytchlemajppnehaa
