/- A region that draws its order, whose operations only read, or call what makes memory, ahead of one last operation (a store) that waits for all of them: one walk in the order of the text serves every order. -/
import Derived.Test.YtnnoooecbbkggaaDoorQuietRound
import Derived.StillTail
namespace Go.Proofs.YtnnoooecbbkggaaDoor
open Go
section
variable {F : Fence} {n : Nat} {P : Program} {md : Region.Mode} {C : World → Prop}

/-- Each operation waits for earlier ones alone. -/
def backB (md : Region.Mode) (ops : Array Oper) : Bool := (List.range ops.size).all fun k => match ops[k]? with | some o => o.after.all (fun e => !Region.binds md e || decide (e.on < k)) | none => true
/-- The operation m waits for all ahead of it. -/
def lastB (md : Region.Mode) (ops : Array Oper) (m : Nat) : Bool := match ops[m]? with | some o => (List.range m).all fun i => o.after.any fun e => Region.binds md e && e.on == i | none => false

theorem ready_ne {ops : Array Oper} {listed : Array Bool} (hb : backB md ops = true) (hs : listed.size = ops.size) {m : Nat} (hm : m < ops.size) (hu : listed.getD m true = false) : Region.ready md ops listed ≠ [] := by
  have key : ∀ k, k < ops.size → listed.getD k true = false → Region.ready md ops listed ≠ [] := by
    intro k
    induction k using Nat.strongRecOn with
    | _ k ih =>
      intro hk hun
      by_cases h : ∃ j, j < k ∧ listed.getD j true = false
      · obtain ⟨j, hj, hju⟩ := h
        exact ih j hj (by omega) hju
      · intro e
        have hmem : k ∈ Region.ready md ops listed := by
          refine mem_ready.2 ⟨hun, ops[k], Array.getElem?_eq_getElem hk, fun ed hed hbd => ?_⟩
          have h1 := List.all_eq_true.1 hb k (List.mem_range.2 hk)
          rw [Array.getElem?_eq_getElem hk] at h1
          have h2 := Array.all_eq_true_iff_forall_mem.1 h1 ed hed
          simp only [hbd, Bool.not_true, Bool.false_or, decide_eq_true_eq] at h2
          have h3 : ¬ listed.getD ed.on true = false := fun h3 => h ⟨ed.on, h2, h3⟩
          have h4 : ed.on < listed.size := by omega
          simp only [Array.getD, h4, dite_true] at h3 ⊢
          simpa using h3
        rw [e] at hmem
        cases hmem
  exact key m hm hu
theorem last_all {ops : Array Oper} {listed : Array Bool} {m : Nat} (hl : lastB md ops m = true) (hr : m ∈ Region.ready md ops listed) : ∀ i, i < m → listed.getD i false = true := by
  intro i hi
  obtain ⟨_, o, ho, hall⟩ := mem_ready.1 hr
  unfold lastB at hl
  rw [ho] at hl
  have h1 := List.all_eq_true.1 hl i (List.mem_range.2 hi)
  obtain ⟨e, he, hb⟩ := Array.any_eq_true'.1 h1
  simp only [Bool.and_eq_true, beq_iff_eq] at hb
  have := hall e he hb.1
  rw [hb.2] at this
  exact this
theorem ready_done {ops : Array Oper} {listed : Array Bool} {m : Nat} (hs : listed.size = ops.size) (hm : m + 1 = ops.size) (h : ∀ i, i < m → listed.getD i false = true) : Region.ready md ops (listed.setIfInBounds m true) = [] := by
  apply List.eq_nil_iff_forall_not_mem.2
  intro j hj
  obtain ⟨hun, o, ho, _⟩ := mem_ready.1 hj
  have hjl : j < ops.size := (Array.getElem?_eq_some_iff.1 ho).1
  by_cases e : j = m
  · subst e
    have : j < listed.size := by omega
    simp [Array.getD, this] at hun
  · have h1 := h j (by omega)
    rw [getD_set_ne true (fun e' => e e'.symm)] at hun
    rw [getD_both hun] at h1
    cases h1
theorem ready_congr {ops ops' : Array Oper} (hsz : ops'.size = ops.size) (haft : ∀ i : Nat, (ops'[i]?).map Oper.after = (ops[i]?).map Oper.after) (listed : Array Bool) : Region.ready md ops' listed = Region.ready md ops listed := by
  unfold Region.ready
  rw [hsz]
  apply List.filter_congr
  intro i _
  have e : ∀ (ops : Array Oper), ((ops[i]?).map (fun o : Oper => o.after.all fun e => !Region.binds md e || listed.getD e.on false)) = ((ops[i]?).map Oper.after).map (fun x => x.all fun e => !Region.binds md e || listed.getD e.on false) := fun ops => by rw [Option.map_map]; rfl
  rw [e ops', e ops, haft i]

/-- An operation that yields nothing, in the place of the last one. -/
def idle (t : Oper) : Oper := { t with op := .move (.const undef) }
def swapL : List Oper → List Oper
  | [] => []
  | [t] => [idle t]
  | o :: p :: r => o :: swapL (p :: r)
theorem swapL_app : ∀ (l : List Oper) (t : Oper), swapL (l ++ [t]) = l ++ [idle t]
  | [], t => rfl
  | [o], t => rfl
  | o :: p :: r, t => by
    show o :: swapL (p :: r ++ [t]) = _
    rw [swapL_app (p :: r) t]
    rfl

variable {ops ops' : Array Oper} {m : Nat} {t : Oper}
theorem yielded_congr (hd : ∀ i : Nat, (ops'[i]?).map Oper.dst = (ops[i]?).map Oper.dst) (tmps : Array Value) : yielded ops' tmps = yielded ops tmps := by
  funext j
  unfold yielded
  have e : ∀ (ops : Array Oper), (ops[j]?).bind Oper.dst = ((ops[j]?).map Oper.dst).bind id := fun ops => by cases ops[j]? <;> rfl
  rw [e ops', e ops, hd j]

theorem wpAnyIn_tail {Q : Act → Prop} {Q' : Exit → Act → World → Prop} (hsz : ops'.size = ops.size) (hm : m + 1 = ops.size) (hother : ∀ i, i ≠ m → ops'[i]? = ops[i]?) (ht : ops[m]? = some t) (ht' : ops'[m]? = some (idle t)) (htd : t.dst = none) (htg : t.guard = none)
    (hback : backB md ops = true) (hlast : lastB md ops m = true) (hnd : noDefer ops = true) (hQ : ∀ a w, C w → Q a → wpListIn F n P ops Q' [t] a w) :
    ∀ (fuel : Nat) (listed : Array Bool) (a : Act) (w : World), listed.size = ops.size → listed.getD m true = false → C w → wpAnyQIn F n P md ops' C Q fuel listed a → wpAnyIn F n P md ops Q' fuel listed a w := by
  have haft : ∀ i : Nat, (ops'[i]?).map Oper.after = (ops[i]?).map Oper.after := fun i => by
    by_cases e : i = m
    · rw [e, ht, ht']; rfl
    · rw [hother i e]
  have hdst : ∀ i : Nat, (ops'[i]?).map Oper.dst = (ops[i]?).map Oper.dst := fun i => by
    by_cases e : i = m
    · rw [e, ht, ht']; rfl
    · rw [hother i e]
  have hrd := ready_congr (md := md) hsz haft
  intro fuel
  induction fuel with
  | zero =>
    intro listed a w hs hu hC h
    have h0 := h.1
    rw [hrd] at h0
    exact absurd h0 (ready_ne hback hs (by omega) hu)
  | succ fuel ih =>
    intro listed a w hs hu hC h
    refine ⟨fun h0 => absurd h0 (ready_ne hback hs (by omega) hu), fun i hi => ?_⟩
    have hi' : i ∈ Region.ready md ops' listed := by rw [hrd]; exact hi
    have hq := h.2 i hi'
    by_cases e : i = m
    · rw [e] at hi hq ⊢
      have hd := ready_done (md := md) hs hm (last_all hlast hi)
      have hQa : Q a := by
        unfold qOpIn at hq
        simp only [ht'] at hq
        have hw : Region.wanted (idle t) (yielded ops' a.tmps) = true := by unfold Region.wanted idle; simp only [htg]
        rw [hw] at hq
        simp only [if_true] at hq
        obtain ⟨_, v, _, hK⟩ := hq
        have hput : a.put (idle t).dst v = a := by
          have : (idle t).dst = none := htd
          rw [this]; rfl
        rw [hput] at hK
        cases fuel with
        | zero => exact hK.2
        | succ f => exact hK.1 (by rw [hrd]; exact hd)
      have hl := hQ a w hC hQa
      unfold wpOpIn
      simp only [ht]
      have hfin : ∀ (a' : Act) (w' : World), Q' .normal a' w' → wpAnyIn F n P md ops Q' fuel (listed.setIfInBounds m true) a' w' := fun a' w' h' => by
        cases fuel with
        | zero => exact ⟨hd, h'⟩
        | succ f => exact ⟨fun _ => h', fun j hj => by rw [hd] at hj; cases hj⟩
      unfold wpListIn at hl
      by_cases hw : Region.wanted t (yielded ops a.tmps) = true
      · rw [if_pos hw] at hl ⊢
        exact Oper.wpIn_mono (fun a' w' h' => hfin a' w' h') hl
      · rw [if_neg hw] at hl ⊢
        exact ⟨hl.1, hfin _ _ hl.2⟩
    · have hun : (listed.setIfInBounds i true).getD m true = false := by
        rw [getD_set_ne true e]
        exact hu
      have hq2 : qOpIn F n P ops C i (wpAnyQIn F n P md ops' C Q fuel (listed.setIfInBounds i true)) a := by
        unfold qOpIn at hq ⊢
        rw [hother i e, yielded_congr hdst] at hq
        exact hq
      exact wpOpIn_of_qOpIn_r hnd hC (fun a' w' hw' hh => ih _ a' w' (by simpa using hs) hun hw' hh) hq2

theorem wpIn_region_tail {id : Nat} {l : List Oper} {Q : Exit → Act → World → Prop} {a : Act} {w : World} (C : World → Prop) (htd : t.dst = none) (htg : t.guard = none) (hback : backB .any (l ++ [t]).toArray = true) (hlast : lastB .any (l ++ [t]).toArray l.length = true)
    (hnd : noDefer (l ++ [t]).toArray = true) (hmx : P.follows .mixedOrders = true) (hB : Region.lexB .any (l ++ [idle t]).toArray = true) (hC : C w.drew)
    (h : wpQuietIn F n P (l ++ [idle t]).toArray C (fun a' => ∀ w', C w' → wpListIn F n P (l ++ [t]).toArray Q [t] a' w') (l ++ [idle t]) a) : (Code.region id (l ++ [t]).toArray true).wpIn F n P Q a w := by
  simp only [Region.lexB, Bool.and_eq_true] at hB
  refine wpIn_region_any hmx ?_
  refine wpAnyIn_tail (C := C) (ops' := (l ++ [idle t]).toArray) (m := l.length) (t := t) (Q := fun a' => ∀ w', C w' → wpListIn F n P (l ++ [t]).toArray Q [t] a' w') (by simp) (by simp) (fun i hi => ?_) (by simp) (by simp) htd htg hback hlast hnd (fun a w hw h => h w hw) _ _ _ _ (by simp) (by simp [Array.getD]) hC ?_
  · simp only [List.getElem?_toArray]
    rcases Nat.lt_or_ge i l.length with h1 | h1
    · rw [List.getElem?_append_left h1, List.getElem?_append_left h1]
    · rw [List.getElem?_eq_none (by simp; omega), List.getElem?_eq_none (by simp; omega)]
  · have h2 := wpAnyQIn_lex (F := F) (n := n) (C := C) (md := .any) hB.1 (l ++ [idle t]) 0 (Array.replicate (l ++ [idle t]).toArray.size false) a (by simp) (by simpa using hB.2) h
    simpa using h2
theorem swapL_eq {L : List Oper} (hne : L ≠ []) : swapL L = L.dropLast ++ [idle (L.getLast hne)] := by
  have h := swapL_app L.dropLast (L.getLast hne)
  rw [List.dropLast_concat_getLast hne] at h
  exact h
/-- At a list that is written out, in the class of the worlds that have grown out of W. -/
theorem wpIn_region_tailG {id : Nat} {L : List Oper} {Q : Exit → Act → World → Prop} {a : Act} {W : World} (hne : L ≠ []) (htd : (L.getLast hne).dst = none) (htg : (L.getLast hne).guard = none) (hback : backB .any L.toArray = true) (hlast : lastB .any L.toArray (L.length - 1) = true)
    (hnd : noDefer L.toArray = true) (hmx : P.follows .mixedOrders = true) (hB : Region.lexB .any (swapL L).toArray = true)
    (h : wpQuietIn F n P (swapL L).toArray (fun w' => ∃ i : Grew W, w' = i.w) (fun a' => ∀ w', (∃ i : Grew W, w' = i.w) → wpListIn F n P L.toArray Q [L.getLast hne] a' w') (swapL L) a) : (Code.region id L.toArray true).wpIn F n P Q a W := by
  have e := List.dropLast_concat_getLast hne
  rw [swapL_eq hne] at hB h
  have h2 := wpIn_region_tail (F := F) (n := n) (P := P) (id := id) (l := L.dropLast) (t := L.getLast hne) (Q := Q) (a := a) (w := W) (fun w' => ∃ i : Grew W, w' = i.w) htd htg (by rw [e]; exact hback) (by rw [e, List.length_dropLast]; exact hlast) (by rw [e]; exact hnd) hmx hB ⟨⟨W.drew, (RowKit.Below.refl _ W).drew⟩, rfl⟩ (by rw [e]; exact h)
  rw [e] at h2
  exact h2
/-- The idle operation at the walk's end. -/
theorem wpQuietIn_idle {ops : Array Oper} {Q : Act → Prop} {a : Act} (htd : t.dst = none) (htg : t.guard = none) (h : Q a) : wpQuietIn F n P ops C Q [idle t] a := by
  refine wpQuietIn_step (fun w _ f hf => ?_) (fun K hK => ?_)
  · simp [Oper.about, idle] at hf
  · have hw : Region.wanted (idle t) (yielded ops a.tmps) = true := by unfold Region.wanted idle; simp only [htg]
    rw [hw]
    simp only [if_true]
    refine ⟨undef, fun w _ => ?_, ?_⟩
    · simp [Oper.quietAtIn, idle, execOp, Oper.quietUponIn]
      rfl
    · have : (idle t).dst = none := htd
      rw [this]
      exact hK _ h
end
end Go.Proofs.YtnnoooecbbkggaaDoor
