/- 2 texts put together: Tail, SlotsT. -/
import Derived.StillTail
import Derived.Test.YtagjjpmhacknpaaDoorJB18
/- A region that draws its order, whose operations only read, or call what makes memory, ahead of one last operation (a store) that waits for all of them: one walk in the order of the text serves every order. -/
namespace Go.Proofs.YtagjjpmhacknpaaDoor
open Go
section
variable {F : Fence} {n : Nat} {P : Program} {md : Region.Mode} {C : World → Prop}

/-- Each operation waits for earlier ones alone. -/
def backB (md : Region.Mode) (ops : Array Oper) : Bool := (List.range ops.size).all fun k => match ops[k]? with | some o => o.after.all (fun e => !Region.binds md e || decide (e.on < k)) | none => true
/-- The operation m waits for all ahead of it. -/
def lastB (md : Region.Mode) (ops : Array Oper) (m : Nat) : Bool := match ops[m]? with | some o => (List.range m).all fun i => o.after.any fun e => Region.binds md e && e.on == i | none => false

theorem ready_ne {ops : Array Oper} {listed : Array Bool} (hb : backB md ops = true) (hs : listed.size = ops.size) {m : Nat} (hm : m < ops.size) (hu : listed.getD m true = false) : Region.ready md ops listed ≠ [] := by
  have key : ∀ k, k < ops.size → listed.getD k true = false → Region.ready md ops listed ≠ [] := by
    intro k
    induction k using Nat.strongRecOn with
    | _ k ih =>
      intro hk hun
      by_cases h : ∃ j, j < k ∧ listed.getD j true = false
      · obtain ⟨j, hj, hju⟩ := h
        exact ih j hj (by omega) hju
      · intro e
        have hmem : k ∈ Region.ready md ops listed := by
          refine mem_ready.2 ⟨hun, ops[k], Array.getElem?_eq_getElem hk, fun ed hed hbd => ?_⟩
          have h1 := List.all_eq_true.1 hb k (List.mem_range.2 hk)
          rw [Array.getElem?_eq_getElem hk] at h1
          have h2 := Array.all_eq_true_iff_forall_mem.1 h1 ed hed
          simp only [hbd, Bool.not_true, Bool.false_or, decide_eq_true_eq] at h2
          have h3 : ¬ listed.getD ed.on true = false := fun h3 => h ⟨ed.on, h2, h3⟩
          have h4 : ed.on < listed.size := by omega
          simp only [Array.getD, h4, dite_true] at h3 ⊢
          simpa using h3
        rw [e] at hmem
        cases hmem
  exact key m hm hu
theorem last_all {ops : Array Oper} {listed : Array Bool} {m : Nat} (hl : lastB md ops m = true) (hr : m ∈ Region.ready md ops listed) : ∀ i, i < m → listed.getD i false = true := by
  intro i hi
  obtain ⟨_, o, ho, hall⟩ := mem_ready.1 hr
  unfold lastB at hl
  rw [ho] at hl
  have h1 := List.all_eq_true.1 hl i (List.mem_range.2 hi)
  obtain ⟨e, he, hb⟩ := Array.any_eq_true'.1 h1
  simp only [Bool.and_eq_true, beq_iff_eq] at hb
  have := hall e he hb.1
  rw [hb.2] at this
  exact this
theorem ready_done {ops : Array Oper} {listed : Array Bool} {m : Nat} (hs : listed.size = ops.size) (hm : m + 1 = ops.size) (h : ∀ i, i < m → listed.getD i false = true) : Region.ready md ops (listed.setIfInBounds m true) = [] := by
  apply List.eq_nil_iff_forall_not_mem.2
  intro j hj
  obtain ⟨hun, o, ho, _⟩ := mem_ready.1 hj
  have hjl : j < ops.size := (Array.getElem?_eq_some_iff.1 ho).1
  by_cases e : j = m
  · subst e
    have : j < listed.size := by omega
    simp [Array.getD, this] at hun
  · have h1 := h j (by omega)
    rw [getD_set_ne true (fun e' => e e'.symm)] at hun
    rw [getD_both hun] at h1
    cases h1
theorem ready_congr {ops ops' : Array Oper} (hsz : ops'.size = ops.size) (haft : ∀ i : Nat, (ops'[i]?).map Oper.after = (ops[i]?).map Oper.after) (listed : Array Bool) : Region.ready md ops' listed = Region.ready md ops listed := by
  unfold Region.ready
  rw [hsz]
  apply List.filter_congr
  intro i _
  have e : ∀ (ops : Array Oper), ((ops[i]?).map (fun o : Oper => o.after.all fun e => !Region.binds md e || listed.getD e.on false)) = ((ops[i]?).map Oper.after).map (fun x => x.all fun e => !Region.binds md e || listed.getD e.on false) := fun ops => by rw [Option.map_map]; rfl
  rw [e ops', e ops, haft i]

/-- An operation that yields nothing, in the place of the last one. -/
def idle (t : Oper) : Oper := { t with op := .move (.const undef) }
def swapL : List Oper → List Oper
  | [] => []
  | [t] => [idle t]
  | o :: p :: r => o :: swapL (p :: r)
theorem swapL_app : ∀ (l : List Oper) (t : Oper), swapL (l ++ [t]) = l ++ [idle t]
  | [], t => rfl
  | [o], t => rfl
  | o :: p :: r, t => by
    show o :: swapL (p :: r ++ [t]) = _
    rw [swapL_app (p :: r) t]
    rfl

variable {ops ops' : Array Oper} {m : Nat} {t : Oper}
theorem yielded_congr (hd : ∀ i : Nat, (ops'[i]?).map Oper.dst = (ops[i]?).map Oper.dst) (tmps : Array Value) : yielded ops' tmps = yielded ops tmps := by
  funext j
  unfold yielded
  have e : ∀ (ops : Array Oper), (ops[j]?).bind Oper.dst = ((ops[j]?).map Oper.dst).bind id := fun ops => by cases ops[j]? <;> rfl
  rw [e ops', e ops, hd j]

theorem wpAnyIn_tail {Q : Act → Prop} {Q' : Exit → Act → World → Prop} (hsz : ops'.size = ops.size) (hm : m + 1 = ops.size) (hother : ∀ i, i ≠ m → ops'[i]? = ops[i]?) (ht : ops[m]? = some t) (ht' : ops'[m]? = some (idle t)) (htd : t.dst = none) (htg : t.guard = none)
    (hback : backB md ops = true) (hlast : lastB md ops m = true) (hnd : noDefer ops = true) (hQ : ∀ a w, C w → Q a → wpListIn F n P ops Q' [t] a w) :
    ∀ (fuel : Nat) (listed : Array Bool) (a : Act) (w : World), listed.size = ops.size → listed.getD m true = false → C w → wpAnyQIn F n P md ops' C Q fuel listed a → wpAnyIn F n P md ops Q' fuel listed a w := by
  have haft : ∀ i : Nat, (ops'[i]?).map Oper.after = (ops[i]?).map Oper.after := fun i => by
    by_cases e : i = m
    · rw [e, ht, ht']; rfl
    · rw [hother i e]
  have hdst : ∀ i : Nat, (ops'[i]?).map Oper.dst = (ops[i]?).map Oper.dst := fun i => by
    by_cases e : i = m
    · rw [e, ht, ht']; rfl
    · rw [hother i e]
  have hrd := ready_congr (md := md) hsz haft
  intro fuel
  induction fuel with
  | zero =>
    intro listed a w hs hu hC h
    have h0 := h.1
    rw [hrd] at h0
    exact absurd h0 (ready_ne hback hs (by omega) hu)
  | succ fuel ih =>
    intro listed a w hs hu hC h
    refine ⟨fun h0 => absurd h0 (ready_ne hback hs (by omega) hu), fun i hi => ?_⟩
    have hi' : i ∈ Region.ready md ops' listed := by rw [hrd]; exact hi
    have hq := h.2 i hi'
    by_cases e : i = m
    · rw [e] at hi hq ⊢
      have hd := ready_done (md := md) hs hm (last_all hlast hi)
      have hQa : Q a := by
        unfold qOpIn at hq
        simp only [ht'] at hq
        have hw : Region.wanted (idle t) (yielded ops' a.tmps) = true := by unfold Region.wanted idle; simp only [htg]
        rw [hw] at hq
        simp only [if_true] at hq
        obtain ⟨_, v, _, hK⟩ := hq
        have hput : a.put (idle t).dst v = a := by
          have : (idle t).dst = none := htd
          rw [this]; rfl
        rw [hput] at hK
        cases fuel with
        | zero => exact hK.2
        | succ f => exact hK.1 (by rw [hrd]; exact hd)
      have hl := hQ a w hC hQa
      unfold wpOpIn
      simp only [ht]
      have hfin : ∀ (a' : Act) (w' : World), Q' .normal a' w' → wpAnyIn F n P md ops Q' fuel (listed.setIfInBounds m true) a' w' := fun a' w' h' => by
        cases fuel with
        | zero => exact ⟨hd, h'⟩
        | succ f => exact ⟨fun _ => h', fun j hj => by rw [hd] at hj; cases hj⟩
      unfold wpListIn at hl
      by_cases hw : Region.wanted t (yielded ops a.tmps) = true
      · rw [if_pos hw] at hl ⊢
        exact Oper.wpIn_mono (fun a' w' h' => hfin a' w' h') hl
      · rw [if_neg hw] at hl ⊢
        exact ⟨hl.1, hfin _ _ hl.2⟩
    · have hun : (listed.setIfInBounds i true).getD m true = false := by
        rw [getD_set_ne true e]
        exact hu
      have hq2 : qOpIn F n P ops C i (wpAnyQIn F n P md ops' C Q fuel (listed.setIfInBounds i true)) a := by
        unfold qOpIn at hq ⊢
        rw [hother i e, yielded_congr hdst] at hq
        exact hq
      exact wpOpIn_of_qOpIn_r hnd hC (fun a' w' hw' hh => ih _ a' w' (by simpa using hs) hun hw' hh) hq2

theorem wpIn_region_tail {id : Nat} {l : List Oper} {Q : Exit → Act → World → Prop} {a : Act} {w : World} (C : World → Prop) (htd : t.dst = none) (htg : t.guard = none) (hback : backB .any (l ++ [t]).toArray = true) (hlast : lastB .any (l ++ [t]).toArray l.length = true)
    (hnd : noDefer (l ++ [t]).toArray = true) (hmx : P.follows .mixedOrders = true) (hB : Region.lexB .any (l ++ [idle t]).toArray = true) (hC : C w.drew)
    (h : wpQuietIn F n P (l ++ [idle t]).toArray C (fun a' => ∀ w', C w' → wpListIn F n P (l ++ [t]).toArray Q [t] a' w') (l ++ [idle t]) a) : (Code.region id (l ++ [t]).toArray true).wpIn F n P Q a w := by
  simp only [Region.lexB, Bool.and_eq_true] at hB
  refine wpIn_region_any hmx ?_
  refine wpAnyIn_tail (C := C) (ops' := (l ++ [idle t]).toArray) (m := l.length) (t := t) (Q := fun a' => ∀ w', C w' → wpListIn F n P (l ++ [t]).toArray Q [t] a' w') (by simp) (by simp) (fun i hi => ?_) (by simp) (by simp) htd htg hback hlast hnd (fun a w hw h => h w hw) _ _ _ _ (by simp) (by simp [Array.getD]) hC ?_
  · simp only [List.getElem?_toArray]
    rcases Nat.lt_or_ge i l.length with h1 | h1
    · rw [List.getElem?_append_left h1, List.getElem?_append_left h1]
    · rw [List.getElem?_eq_none (by simp; omega), List.getElem?_eq_none (by simp; omega)]
  · have h2 := wpAnyQIn_lex (F := F) (n := n) (C := C) (md := .any) hB.1 (l ++ [idle t]) 0 (Array.replicate (l ++ [idle t]).toArray.size false) a (by simp) (by simpa using hB.2) h
    simpa using h2
theorem swapL_eq {L : List Oper} (hne : L ≠ []) : swapL L = L.dropLast ++ [idle (L.getLast hne)] := by
  have h := swapL_app L.dropLast (L.getLast hne)
  rw [List.dropLast_concat_getLast hne] at h
  exact h
/-- At a list that is written out, in the class of the worlds that have grown out of W. -/
theorem wpIn_region_tailG {id : Nat} {L : List Oper} {Q : Exit → Act → World → Prop} {a : Act} {W : World} (hne : L ≠ []) (htd : (L.getLast hne).dst = none) (htg : (L.getLast hne).guard = none) (hback : backB .any L.toArray = true) (hlast : lastB .any L.toArray (L.length - 1) = true)
    (hnd : noDefer L.toArray = true) (hmx : P.follows .mixedOrders = true) (hB : Region.lexB .any (swapL L).toArray = true)
    (h : wpQuietIn F n P (swapL L).toArray (fun w' => ∃ i : Grew W, w' = i.w) (fun a' => ∀ w', (∃ i : Grew W, w' = i.w) → wpListIn F n P L.toArray Q [L.getLast hne] a' w') (swapL L) a) : (Code.region id L.toArray true).wpIn F n P Q a W := by
  have e := List.dropLast_concat_getLast hne
  rw [swapL_eq hne] at hB h
  have h2 := wpIn_region_tail (F := F) (n := n) (P := P) (id := id) (l := L.dropLast) (t := L.getLast hne) (Q := Q) (a := a) (w := W) (fun w' => ∃ i : Grew W, w' = i.w) htd htg (by rw [e]; exact hback) (by rw [e, List.length_dropLast]; exact hlast) (by rw [e]; exact hnd) hmx hB ⟨⟨W.drew, (RowKit.Below.refl _ W).drew⟩, rfl⟩ (by rw [e]; exact h)
  rw [e] at h2
  exact h2
/-- The idle operation at the walk's end. -/
theorem wpQuietIn_idle {ops : Array Oper} {Q : Act → Prop} {a : Act} (htd : t.dst = none) (htg : t.guard = none) (h : Q a) : wpQuietIn F n P ops C Q [idle t] a := by
  refine wpQuietIn_step (fun w _ f hf => ?_) (fun K hK => ?_)
  · simp [Oper.about, idle] at hf
  · have hw : Region.wanted (idle t) (yielded ops a.tmps) = true := by unfold Region.wanted idle; simp only [htg]
    rw [hw]
    simp only [if_true]
    refine ⟨undef, fun w _ => ?_, ?_⟩
    · simp [Oper.quietAtIn, idle, execOp, Oper.quietUponIn]
      rfl
    · have : (idle t).dst = none := htd
      rw [this]
      exact hK _ h
end
end Go.Proofs.YtagjjpmhacknpaaDoor

/- The law of slots, the last operation being another matter: it waits for all others, and is walked behind them. -/
namespace Go.Proofs.YtagjjpmhacknpaaDoor
open Go

/-- Each operation ahead of m is waited for by one behind it, up to m. -/
def chainB (ops : Array Oper) (m : Nat) : Bool := (List.range m).all fun i => (List.range (m + 1)).any fun j => decide (i < j) && waitsFor ops j i
section
variable {P : Program} {ops : Array Oper} {Q : Exit → Act → World → Prop} {le : World → World → Prop} {φ : Nat → Value → World → Prop} {a0 : Act} {w0 : World}
theorem Inv.dep {listed : Array Bool} {a : Act} {w : World} (I : Inv ops le φ a0 w0 listed a w) {j i : Nat} (hw : waitsFor ops j i = true) (hj : listed.getD j false = true ∨ j ∈ Region.ready .any ops listed) : listed.getD i false = true := by
  unfold waitsFor at hw
  cases ho : ops[j]? with
  | none => rw [ho] at hw; cases hw
  | some o =>
    rw [ho] at hw
    simp only [Option.map_some, Option.getD_some] at hw
    rw [Array.any_eq_true'] at hw
    obtain ⟨e, he, hb⟩ := hw
    simp only [Bool.and_eq_true, beq_iff_eq] at hb
    rw [← hb.2]
    rcases hj with hj | hj
    · exact I.closed j o ho hj e he hb.1
    · obtain ⟨_, o', ho', hall⟩ := mem_ready.1 hj
      rw [ho] at ho'; cases ho'
      exact hall e he hb.1
theorem Inv.last {listed : Array Bool} {a : Act} {w : World} (I : Inv ops le φ a0 w0 listed a w) {m : Nat} (hc : chainB ops m = true) (hm : m ∈ Region.ready .any ops listed) : ∀ k i, m ≤ i + k → i < m → listed.getD i false = true
  | 0, i, h, hi => by omega
  | k + 1, i, h, hi => by
    unfold chainB at hc
    have h1 := List.all_eq_true.1 hc i (List.mem_range.2 hi)
    obtain ⟨j, hj, h2⟩ := List.any_eq_true.1 h1
    simp only [Bool.and_eq_true, decide_eq_true_eq] at h2
    rw [List.mem_range] at hj
    by_cases hjm : j = m
    · subst hjm; exact I.dep h2.2 (.inr hm)
    · exact I.dep h2.2 (.inl (I.last hc hm k j (by omega) (by omega)))

theorem wpIn_region_slotsT_any {l : List Oper} {t : Oper} {r n : Nat} (hnd : noDefer ops = true) (hops : ops = (l ++ [t]).toArray) (htg : t.guard = none) (hF : fwdOk ops = true) (hc : chainB ops l.length = true) (trans : ∀ {x y z}, le x y → le y z → le x z) (stable : ∀ j v x y, le x y → φ j v x → φ j v y) (hD : dstsOk ops a0.tmps.size = true)
    (steps : ∀ i o, i < l.length → ops[i]? = some o → StepOk P ops Q le φ a0 w0 i o)
    (fin : ∀ w, le w0 w → FinAll φ w (fun a => wpListIn (Fence.wide.inRound r) n P ops Q [t] a w) 0 l a0) :
    ∀ (fuel : Nat) (listed : Array Bool) (a : Act) (w : World), Inv ops le φ a0 w0 listed a w → listed.getD l.length true = false → (List.range ops.size).countP (fun i => !listed.getD i true) ≤ fuel → wpAnyIn (Fence.wide.inRound r) n P .any ops Q fuel listed a w
  | 0, listed, a, w, I, hu, hcnt => by
    have hlt : l.length < ops.size := by rw [hops]; simp
    have : 0 < (List.range ops.size).countP (fun i => !listed.getD i true) := List.countP_pos_iff.2 ⟨l.length, List.mem_range.2 hlt, by simp only [hu, Bool.not_false]⟩
    omega
  | fuel + 1, listed, a, w, I, hu, hcnt => by
    have hlt : l.length < ops.size := by rw [hops]; simp
    have ht : ops[l.length]? = some t := by rw [hops]; simp
    have hne : Region.ready .any ops listed ≠ [] := fun e => by
      have h1 := all_listed hF I.size e (l.length + 1) l.length (Nat.lt_succ_self _) hlt
      rw [getD_true_false (by rw [I.size]; exact hlt) hu] at h1
      cases h1
    refine ⟨fun h => absurd h hne, fun i hi => ?_⟩
    obtain ⟨hn, o, ho, _⟩ := mem_ready.1 hi
    have hilt : i < ops.size := (Array.getElem?_eq_some_iff.1 ho).1
    by_cases him : i = l.length
    · subst him
      rw [ht] at ho; cases ho
      have hall : ∀ j, j < l.length → listed.getD j false = true := fun j hj => I.last hc hi l.length j (by omega) hj
      have hidx : ∀ j o, l[j]? = some o → ops[j]? = some o := fun j o hj => by
        rw [hops, List.getElem?_toArray, List.getElem?_append_left (List.getElem?_eq_some_iff.1 hj).1]; exact hj
      have hf := finAll_take (fun d => a.eval (.tmp d)) l 0 a0 (fin w I.le) (fun j o d hj hd => by
        rw [Nat.zero_add]
        exact I.done j d (by unfold dstAt; rw [hidx j o hj]; exact hd) (hall j (List.getElem?_eq_some_iff.1 hj).1))
      have hin : ∀ o ∈ l, ∀ d, o.dst = some d → d < a0.tmps.size := by
        intro o ho d hd
        obtain ⟨j, hj⟩ := List.getElem?_of_mem ho
        have hj' := hidx j o hj
        unfold dstsOk at hD
        rw [List.all_eq_true] at hD
        have := hD j (List.mem_range.2 (Array.getElem?_eq_some_iff.1 hj').1)
        have e : dstAt ops j = some d := by unfold dstAt; rw [hj']; exact hd
        rw [e] at this
        simp only [Bool.and_eq_true, decide_eq_true_eq] at this
        exact this.1
      have hs := putAll_size (fun d => a.eval (.tmp d)) l a0
      have hpa : putAll a0 l (fun d => a.eval (.tmp d)) = a := by
        refine act_ext (hs.1.trans I.tmps.symm) (hs.2.trans I.defers.symm) fun k => ?_
        rw [putAll_get _ _ _ _ hin]
        split
        · rfl
        · rename_i h
          refine (I.rest k fun j hj hd => h ?_).symm
          rw [List.any_eq_true]
          have hjl : j ≠ l.length := fun e => by
            subst e
            rw [getD_true_false (by rw [I.size]; exact hlt) hu] at hj
            cases hj
          unfold dstAt at hd
          cases ho : ops[j]? with
          | none => rw [ho] at hd; cases hd
          | some o =>
            rw [ho] at hd
            have hj2 : j < ops.size := (Array.getElem?_eq_some_iff.1 ho).1
            have hjlt : j < l.length := by have : ops.size = l.length + 1 := by rw [hops]; simp
                                           omega
            refine ⟨o, ?_, by simpa using hd⟩
            rw [hops, List.getElem?_toArray, List.getElem?_append_left hjlt] at ho
            exact List.mem_of_getElem? ho
      rw [hpa] at hf
      have hd : Region.ready .any ops (listed.setIfInBounds l.length true) = [] := ready_done I.size (by rw [hops]; simp) hall
      have hw : Region.wanted t (yielded ops a.tmps) = true := wanted_no htg
      unfold wpOpIn
      simp only [ht]
      have hfin : ∀ (a' : Act) (w' : World), Q .normal a' w' → wpAnyIn (Fence.wide.inRound r) n P .any ops Q fuel (listed.setIfInBounds l.length true) a' w' := fun a' w' h' => by
        cases fuel with
        | zero => exact ⟨hd, h'⟩
        | succ f => exact ⟨fun _ => h', fun j hj => by rw [hd] at hj; cases hj⟩
      unfold wpListIn at hf
      rw [if_pos hw] at hf ⊢
      exact Oper.wpIn_mono (fun a' w' h' => hfin a' w' h') hf
    · have hs := steps i o (by have : ops.size = l.length + 1 := by rw [hops]; simp
                               omega) ho a w (fun a' w' => wpAnyIn (Fence.wide.inRound r) n P .any ops Q fuel (listed.setIfInBounds i true) a' w') (I.now hi)
        (fun v w' hw hv => wpIn_region_slotsT_any hnd hops htg hF hc trans stable hD steps fin fuel _ _ _ (I.step trans stable hD hi ho hw (fun _ _ => hv)) (by rw [getD_set_ne true him]; exact hu) (by
          have hlt' : i < listed.size := by rw [I.size]; exact hilt
          have h1 : (List.range ops.size).countP (fun j => !(listed.setIfInBounds i true).getD j true) < (List.range ops.size).countP (fun i => !listed.getD i true) := by
            refine countP_lt (i := i) (List.mem_range.2 hilt) ?_ ?_ ?_
            · intro j _ hj
              by_cases hji : j = i
              · subst hji; rw [hn]; rfl
              · rw [getD_set_ne true (Ne.symm hji)] at hj; exact hj
            · rw [hn]; rfl
            · simp [Array.getD_eq_getD_getElem?, Array.getElem?_setIfInBounds_self_of_lt hlt']
          omega))
      unfold wpOpIn
      rw [ho]
      simp only
      split
      · rename_i hw; rw [if_pos hw] at hs; exact wpIn_of_wp (noDefer_spec hnd ho) hs
      · rename_i hw; rw [if_neg hw] at hs; exact ⟨fun _ _ => trivial, hs⟩

/-- The law. -/
theorem wpIn_region_slotsT {id : Nat} {l : List Oper} {t : Oper} {r n : Nat} (hnd : noDefer (l ++ [t]).toArray = true) (le : World → World → Prop) (φ : Nat → Value → World → Prop) (refl : ∀ x, le x x) (trans : ∀ {x y z}, le x y → le y z → le x z) (stable : ∀ j v x y, le x y → φ j v x → φ j v y)
    (hm : P.follows .mixedOrders = true) (htg : t.guard = none) (hF : fwdOk (l ++ [t]).toArray = true) (hc : chainB (l ++ [t]).toArray l.length = true) (hD : dstsOk (l ++ [t]).toArray a0.tmps.size = true)
    (steps : StepsOk P (l ++ [t]).toArray Q le φ a0 w0.drew 0 l)
    (fin : ∀ w, le w0.drew w → FinAll φ w (fun a => wpListIn (Fence.wide.inRound r) n P (l ++ [t]).toArray Q [t] a w) 0 l a0) :
    (Code.region id (l ++ [t]).toArray true).wpIn (Fence.wide.inRound r) n P Q a0 w0 := by
  refine wpIn_region_any hm ?_
  refine wpIn_region_slotsT_any hnd (le := le) (φ := φ) (a0 := a0) (w0 := w0.drew) rfl htg hF hc trans stable hD (fun i o hi ho => ?_) fin _ _ _ _ ?_ ?_ ?_
  · have hl : l[i]? = some o := by rw [List.getElem?_toArray, List.getElem?_append_left hi] at ho; exact ho
    have := stepsOk_at l 0 steps i o hl
    rwa [Nat.zero_add] at this
  · refine ⟨by simp, refl _, rfl, rfl, ?_, ?_, fun k _ => rfl⟩
    · intro j o _ hl
      simp only [Array.getD_eq_getD_getElem?, Array.getElem?_replicate] at hl
      split at hl <;> cases hl
    · intro j d _ hl
      simp only [Array.getD_eq_getD_getElem?, Array.getElem?_replicate] at hl
      split at hl <;> cases hl
  · simp [Array.getD_eq_getD_getElem?]
  · have := List.countP_le_length (p := fun i => !(Array.replicate (l ++ [t]).toArray.size false).getD i true) (l := List.range (l ++ [t]).toArray.size)
    simpa using this
/-- At a list that is written out. -/
theorem wpIn_region_slotsTL {id : Nat} {L : List Oper} {r n : Nat} (hnd : noDefer L.toArray = true) (hne : L ≠ []) (le : World → World → Prop) (φ : Nat → Value → World → Prop) (refl : ∀ x, le x x) (trans : ∀ {x y z}, le x y → le y z → le x z) (stable : ∀ j v x y, le x y → φ j v x → φ j v y)
    (hm : P.follows .mixedOrders = true) (htg : (L.getLast hne).guard = none) (hF : fwdOk L.toArray = true) (hc : chainB L.toArray (L.length - 1) = true) (hD : dstsOk L.toArray a0.tmps.size = true)
    (steps : StepsOk P L.toArray Q le φ a0 w0.drew 0 L.dropLast)
    (fin : ∀ w, le w0.drew w → FinAll φ w (fun a => wpListIn (Fence.wide.inRound r) n P L.toArray Q [L.getLast hne] a w) 0 L.dropLast a0) :
    (Code.region id L.toArray true).wpIn (Fence.wide.inRound r) n P Q a0 w0 := by
  have e := List.dropLast_concat_getLast hne
  have h := wpIn_region_slotsT (id := id) (l := L.dropLast) (t := L.getLast hne) (Q := Q) (a0 := a0) (w0 := w0) (by rw [e]; exact hnd) le φ refl trans stable hm htg (by rw [e]; exact hF) (by rw [e, List.length_dropLast]; exact hc) (by rw [e]; exact hD) (by rw [e]; exact steps) (fun w hw => by rw [e]; exact fin w hw)
  rw [e] at h
  exact h

theorem wp_region_slotsT_any {l : List Oper} {t : Oper} (hops : ops = (l ++ [t]).toArray) (htg : t.guard = none) (hF : fwdOk ops = true) (hc : chainB ops l.length = true) (trans : ∀ {x y z}, le x y → le y z → le x z) (stable : ∀ j v x y, le x y → φ j v x → φ j v y) (hD : dstsOk ops a0.tmps.size = true)
    (steps : ∀ i o, i < l.length → ops[i]? = some o → StepOk P ops Q le φ a0 w0 i o)
    (fin : ∀ w, le w0 w → FinAll φ w (fun a => wpList P ops Q [t] a w) 0 l a0) :
    ∀ (fuel : Nat) (listed : Array Bool) (a : Act) (w : World), Inv ops le φ a0 w0 listed a w → listed.getD l.length true = false → (List.range ops.size).countP (fun i => !listed.getD i true) ≤ fuel → wpAny P .any ops Q fuel listed a w
  | 0, listed, a, w, I, hu, hcnt => by
    have hlt : l.length < ops.size := by rw [hops]; simp
    have : 0 < (List.range ops.size).countP (fun i => !listed.getD i true) := List.countP_pos_iff.2 ⟨l.length, List.mem_range.2 hlt, by simp only [hu, Bool.not_false]⟩
    omega
  | fuel + 1, listed, a, w, I, hu, hcnt => by
    have hlt : l.length < ops.size := by rw [hops]; simp
    have ht : ops[l.length]? = some t := by rw [hops]; simp
    have hne : Region.ready .any ops listed ≠ [] := fun e => by
      have h1 := all_listed hF I.size e (l.length + 1) l.length (Nat.lt_succ_self _) hlt
      rw [getD_true_false (by rw [I.size]; exact hlt) hu] at h1
      cases h1
    refine ⟨fun h => absurd h hne, fun i hi => ?_⟩
    obtain ⟨hn, o, ho, _⟩ := mem_ready.1 hi
    have hilt : i < ops.size := (Array.getElem?_eq_some_iff.1 ho).1
    by_cases him : i = l.length
    · subst him
      rw [ht] at ho; cases ho
      have hall : ∀ j, j < l.length → listed.getD j false = true := fun j hj => I.last hc hi l.length j (by omega) hj
      have hidx : ∀ j o, l[j]? = some o → ops[j]? = some o := fun j o hj => by
        rw [hops, List.getElem?_toArray, List.getElem?_append_left (List.getElem?_eq_some_iff.1 hj).1]; exact hj
      have hf := finAll_take (fun d => a.eval (.tmp d)) l 0 a0 (fin w I.le) (fun j o d hj hd => by
        rw [Nat.zero_add]
        exact I.done j d (by unfold dstAt; rw [hidx j o hj]; exact hd) (hall j (List.getElem?_eq_some_iff.1 hj).1))
      have hin : ∀ o ∈ l, ∀ d, o.dst = some d → d < a0.tmps.size := by
        intro o ho d hd
        obtain ⟨j, hj⟩ := List.getElem?_of_mem ho
        have hj' := hidx j o hj
        unfold dstsOk at hD
        rw [List.all_eq_true] at hD
        have := hD j (List.mem_range.2 (Array.getElem?_eq_some_iff.1 hj').1)
        have e : dstAt ops j = some d := by unfold dstAt; rw [hj']; exact hd
        rw [e] at this
        simp only [Bool.and_eq_true, decide_eq_true_eq] at this
        exact this.1
      have hs := putAll_size (fun d => a.eval (.tmp d)) l a0
      have hpa : putAll a0 l (fun d => a.eval (.tmp d)) = a := by
        refine act_ext (hs.1.trans I.tmps.symm) (hs.2.trans I.defers.symm) fun k => ?_
        rw [putAll_get _ _ _ _ hin]
        split
        · rfl
        · rename_i h
          refine (I.rest k fun j hj hd => h ?_).symm
          rw [List.any_eq_true]
          have hjl : j ≠ l.length := fun e => by
            subst e
            rw [getD_true_false (by rw [I.size]; exact hlt) hu] at hj
            cases hj
          unfold dstAt at hd
          cases ho : ops[j]? with
          | none => rw [ho] at hd; cases hd
          | some o =>
            rw [ho] at hd
            have hj2 : j < ops.size := (Array.getElem?_eq_some_iff.1 ho).1
            have hjlt : j < l.length := by have : ops.size = l.length + 1 := by rw [hops]; simp
                                           omega
            refine ⟨o, ?_, by simpa using hd⟩
            rw [hops, List.getElem?_toArray, List.getElem?_append_left hjlt] at ho
            exact List.mem_of_getElem? ho
      rw [hpa] at hf
      have hd : Region.ready .any ops (listed.setIfInBounds l.length true) = [] := ready_done I.size (by rw [hops]; simp) hall
      have hw : Region.wanted t (yielded ops a.tmps) = true := wanted_no htg
      unfold wpOp
      simp only [ht]
      have hfin : ∀ (a' : Act) (w' : World), Q .normal a' w' → wpAny P .any ops Q fuel (listed.setIfInBounds l.length true) a' w' := fun a' w' h' => by
        cases fuel with
        | zero => exact ⟨hd, h'⟩
        | succ f => exact ⟨fun _ => h', fun j hj => by rw [hd] at hj; cases hj⟩
      unfold wpList at hf
      rw [if_pos hw] at hf ⊢
      exact hf.imp (fun h => Oper.wp_mono (fun a' w' h' => hfin a' w' h') h) id
    · have hs := steps i o (by have : ops.size = l.length + 1 := by rw [hops]; simp
                               omega) ho a w (fun a' w' => wpAny P .any ops Q fuel (listed.setIfInBounds i true) a' w') (I.now hi)
        (fun v w' hw hv => wp_region_slotsT_any hops htg hF hc trans stable hD steps fin fuel _ _ _ (I.step trans stable hD hi ho hw (fun _ _ => hv)) (by rw [getD_set_ne true him]; exact hu) (by
          have hlt' : i < listed.size := by rw [I.size]; exact hilt
          have h1 : (List.range ops.size).countP (fun j => !(listed.setIfInBounds i true).getD j true) < (List.range ops.size).countP (fun i => !listed.getD i true) := by
            refine countP_lt (i := i) (List.mem_range.2 hilt) ?_ ?_ ?_
            · intro j _ hj
              by_cases hji : j = i
              · subst hji; rw [hn]; rfl
              · rw [getD_set_ne true (Ne.symm hji)] at hj; exact hj
            · rw [hn]; rfl
            · simp [Array.getD_eq_getD_getElem?, Array.getElem?_setIfInBounds_self_of_lt hlt']
          omega))
      unfold wpOp
      rw [ho]
      simp only
      split
      · rename_i hw; rw [if_pos hw] at hs; exact .inl hs
      · rename_i hw; rw [if_neg hw] at hs; exact hs

/-- The law. -/
theorem wp_region_slotsT {id : Nat} {l : List Oper} {t : Oper} (le : World → World → Prop) (φ : Nat → Value → World → Prop) (refl : ∀ x, le x x) (trans : ∀ {x y z}, le x y → le y z → le x z) (stable : ∀ j v x y, le x y → φ j v x → φ j v y)
    (hm : P.follows .mixedOrders = true) (htg : t.guard = none) (hF : fwdOk (l ++ [t]).toArray = true) (hc : chainB (l ++ [t]).toArray l.length = true) (hD : dstsOk (l ++ [t]).toArray a0.tmps.size = true)
    (steps : StepsOk P (l ++ [t]).toArray Q le φ a0 w0.drew 0 l)
    (fin : ∀ w, le w0.drew w → FinAll φ w (fun a => wpList P (l ++ [t]).toArray Q [t] a w) 0 l a0) :
    (Code.region id (l ++ [t]).toArray true).wp P Q a0 w0 := by
  refine wp_region_any hm ?_
  refine wp_region_slotsT_any (le := le) (φ := φ) (a0 := a0) (w0 := w0.drew) rfl htg hF hc trans stable hD (fun i o hi ho => ?_) fin _ _ _ _ ?_ ?_ ?_
  · have hl : l[i]? = some o := by rw [List.getElem?_toArray, List.getElem?_append_left hi] at ho; exact ho
    have := stepsOk_at l 0 steps i o hl
    rwa [Nat.zero_add] at this
  · refine ⟨by simp, refl _, rfl, rfl, ?_, ?_, fun k _ => rfl⟩
    · intro j o _ hl
      simp only [Array.getD_eq_getD_getElem?, Array.getElem?_replicate] at hl
      split at hl <;> cases hl
    · intro j d _ hl
      simp only [Array.getD_eq_getD_getElem?, Array.getElem?_replicate] at hl
      split at hl <;> cases hl
  · simp [Array.getD_eq_getD_getElem?]
  · have := List.countP_le_length (p := fun i => !(Array.replicate (l ++ [t]).toArray.size false).getD i true) (l := List.range (l ++ [t]).toArray.size)
    simpa using this
/-- At a list that is written out. -/
theorem wp_region_slotsTL {id : Nat} {L : List Oper} (hne : L ≠ []) (le : World → World → Prop) (φ : Nat → Value → World → Prop) (refl : ∀ x, le x x) (trans : ∀ {x y z}, le x y → le y z → le x z) (stable : ∀ j v x y, le x y → φ j v x → φ j v y)
    (hm : P.follows .mixedOrders = true) (htg : (L.getLast hne).guard = none) (hF : fwdOk L.toArray = true) (hc : chainB L.toArray (L.length - 1) = true) (hD : dstsOk L.toArray a0.tmps.size = true)
    (steps : StepsOk P L.toArray Q le φ a0 w0.drew 0 L.dropLast)
    (fin : ∀ w, le w0.drew w → FinAll φ w (fun a => wpList P L.toArray Q [L.getLast hne] a w) 0 L.dropLast a0) :
    (Code.region id L.toArray true).wp P Q a0 w0 := by
  have e := List.dropLast_concat_getLast hne
  have h := wp_region_slotsT (id := id) (l := L.dropLast) (t := L.getLast hne) (Q := Q) (a0 := a0) (w0 := w0) le φ refl trans stable hm htg (by rw [e]; exact hF) (by rw [e, List.length_dropLast]; exact hc) (by rw [e]; exact hD) (by rw [e]; exact steps) (fun w hw => by rw [e]; exact fin w hw)
  rw [e] at h
  exact h
end
end Go.Proofs.YtagjjpmhacknpaaDoor
