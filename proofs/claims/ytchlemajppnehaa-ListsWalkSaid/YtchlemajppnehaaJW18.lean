/- 2 texts put together: SlotsT, Dwc. -/
import Derived.Test.YtchlemajppnehaaJW16
import Derived.Test.YtchlemajppnehaaJW17
/- The law of slots, the last operation being another matter: it waits for all others, and is walked behind them. -/
namespace Go.Proofs.Ytchlemajppnehaa
open Go

/-- Each operation ahead of m is waited for by one behind it, up to m. -/
def chainB (ops : Array Oper) (m : Nat) : Bool := (List.range m).all fun i => (List.range (m + 1)).any fun j => decide (i < j) && waitsFor ops j i
section
variable {P : Program} {ops : Array Oper} {Q : Exit → Act → World → Prop} {le : World → World → Prop} {φ : Nat → Value → World → Prop} {a0 : Act} {w0 : World}
theorem Inv.dep {listed : Array Bool} {a : Act} {w : World} (I : Inv ops le φ a0 w0 listed a w) {j i : Nat} (hw : waitsFor ops j i = true) (hj : listed.getD j false = true ∨ j ∈ Region.ready .any ops listed) : listed.getD i false = true := by
  unfold waitsFor at hw
  cases ho : ops[j]? with
  | none => rw [ho] at hw; cases hw
  | some o =>
    rw [ho] at hw
    simp only [Option.map_some, Option.getD_some] at hw
    rw [Array.any_eq_true'] at hw
    obtain ⟨e, he, hb⟩ := hw
    simp only [Bool.and_eq_true, beq_iff_eq] at hb
    rw [← hb.2]
    rcases hj with hj | hj
    · exact I.closed j o ho hj e he hb.1
    · obtain ⟨_, o', ho', hall⟩ := mem_ready.1 hj
      rw [ho] at ho'; cases ho'
      exact hall e he hb.1
theorem Inv.last {listed : Array Bool} {a : Act} {w : World} (I : Inv ops le φ a0 w0 listed a w) {m : Nat} (hc : chainB ops m = true) (hm : m ∈ Region.ready .any ops listed) : ∀ k i, m ≤ i + k → i < m → listed.getD i false = true
  | 0, i, h, hi => by omega
  | k + 1, i, h, hi => by
    unfold chainB at hc
    have h1 := List.all_eq_true.1 hc i (List.mem_range.2 hi)
    obtain ⟨j, hj, h2⟩ := List.any_eq_true.1 h1
    simp only [Bool.and_eq_true, decide_eq_true_eq] at h2
    rw [List.mem_range] at hj
    by_cases hjm : j = m
    · subst hjm; exact I.dep h2.2 (.inr hm)
    · exact I.dep h2.2 (.inl (I.last hc hm k j (by omega) (by omega)))

theorem wpIn_region_slotsT_any {l : List Oper} {t : Oper} {r n : Nat} (hnd : noDefer ops = true) (hops : ops = (l ++ [t]).toArray) (htg : t.guard = none) (hF : fwdOk ops = true) (hc : chainB ops l.length = true) (trans : ∀ {x y z}, le x y → le y z → le x z) (stable : ∀ j v x y, le x y → φ j v x → φ j v y) (hD : dstsOk ops a0.tmps.size = true)
    (steps : ∀ i o, i < l.length → ops[i]? = some o → StepOk P ops Q le φ a0 w0 i o)
    (fin : ∀ w, le w0 w → FinAll φ w (fun a => wpListIn (Fence.wide.inRound r) n P ops Q [t] a w) 0 l a0) :
    ∀ (fuel : Nat) (listed : Array Bool) (a : Act) (w : World), Inv ops le φ a0 w0 listed a w → listed.getD l.length true = false → (List.range ops.size).countP (fun i => !listed.getD i true) ≤ fuel → wpAnyIn (Fence.wide.inRound r) n P .any ops Q fuel listed a w
  | 0, listed, a, w, I, hu, hcnt => by
    have hlt : l.length < ops.size := by rw [hops]; simp
    have : 0 < (List.range ops.size).countP (fun i => !listed.getD i true) := List.countP_pos_iff.2 ⟨l.length, List.mem_range.2 hlt, by simp only [hu, Bool.not_false]⟩
    omega
  | fuel + 1, listed, a, w, I, hu, hcnt => by
    have hlt : l.length < ops.size := by rw [hops]; simp
    have ht : ops[l.length]? = some t := by rw [hops]; simp
    have hne : Region.ready .any ops listed ≠ [] := fun e => by
      have h1 := all_listed hF I.size e (l.length + 1) l.length (Nat.lt_succ_self _) hlt
      rw [getD_true_false (by rw [I.size]; exact hlt) hu] at h1
      cases h1
    refine ⟨fun h => absurd h hne, fun i hi => ?_⟩
    obtain ⟨hn, o, ho, _⟩ := mem_ready.1 hi
    have hilt : i < ops.size := (Array.getElem?_eq_some_iff.1 ho).1
    by_cases him : i = l.length
    · subst him
      rw [ht] at ho; cases ho
      have hall : ∀ j, j < l.length → listed.getD j false = true := fun j hj => I.last hc hi l.length j (by omega) hj
      have hidx : ∀ j o, l[j]? = some o → ops[j]? = some o := fun j o hj => by
        rw [hops, List.getElem?_toArray, List.getElem?_append_left (List.getElem?_eq_some_iff.1 hj).1]; exact hj
      have hf := finAll_take (fun d => a.eval (.tmp d)) l 0 a0 (fin w I.le) (fun j o d hj hd => by
        rw [Nat.zero_add]
        exact I.done j d (by unfold dstAt; rw [hidx j o hj]; exact hd) (hall j (List.getElem?_eq_some_iff.1 hj).1))
      have hin : ∀ o ∈ l, ∀ d, o.dst = some d → d < a0.tmps.size := by
        intro o ho d hd
        obtain ⟨j, hj⟩ := List.getElem?_of_mem ho
        have hj' := hidx j o hj
        unfold dstsOk at hD
        rw [List.all_eq_true] at hD
        have := hD j (List.mem_range.2 (Array.getElem?_eq_some_iff.1 hj').1)
        have e : dstAt ops j = some d := by unfold dstAt; rw [hj']; exact hd
        rw [e] at this
        simp only [Bool.and_eq_true, decide_eq_true_eq] at this
        exact this.1
      have hs := putAll_size (fun d => a.eval (.tmp d)) l a0
      have hpa : putAll a0 l (fun d => a.eval (.tmp d)) = a := by
        refine act_ext (hs.1.trans I.tmps.symm) (hs.2.trans I.defers.symm) fun k => ?_
        rw [putAll_get _ _ _ _ hin]
        split
        · rfl
        · rename_i h
          refine (I.rest k fun j hj hd => h ?_).symm
          rw [List.any_eq_true]
          have hjl : j ≠ l.length := fun e => by
            subst e
            rw [getD_true_false (by rw [I.size]; exact hlt) hu] at hj
            cases hj
          unfold dstAt at hd
          cases ho : ops[j]? with
          | none => rw [ho] at hd; cases hd
          | some o =>
            rw [ho] at hd
            have hj2 : j < ops.size := (Array.getElem?_eq_some_iff.1 ho).1
            have hjlt : j < l.length := by have : ops.size = l.length + 1 := by rw [hops]; simp
                                           omega
            refine ⟨o, ?_, by simpa using hd⟩
            rw [hops, List.getElem?_toArray, List.getElem?_append_left hjlt] at ho
            exact List.mem_of_getElem? ho
      rw [hpa] at hf
      have hd : Region.ready .any ops (listed.setIfInBounds l.length true) = [] := ready_done I.size (by rw [hops]; simp) hall
      have hw : Region.wanted t (yielded ops a.tmps) = true := wanted_no htg
      unfold wpOpIn
      simp only [ht]
      have hfin : ∀ (a' : Act) (w' : World), Q .normal a' w' → wpAnyIn (Fence.wide.inRound r) n P .any ops Q fuel (listed.setIfInBounds l.length true) a' w' := fun a' w' h' => by
        cases fuel with
        | zero => exact ⟨hd, h'⟩
        | succ f => exact ⟨fun _ => h', fun j hj => by rw [hd] at hj; cases hj⟩
      unfold wpListIn at hf
      rw [if_pos hw] at hf ⊢
      exact Oper.wpIn_mono (fun a' w' h' => hfin a' w' h') hf
    · have hs := steps i o (by have : ops.size = l.length + 1 := by rw [hops]; simp
                               omega) ho a w (fun a' w' => wpAnyIn (Fence.wide.inRound r) n P .any ops Q fuel (listed.setIfInBounds i true) a' w') (I.now hi)
        (fun v w' hw hv => wpIn_region_slotsT_any hnd hops htg hF hc trans stable hD steps fin fuel _ _ _ (I.step trans stable hD hi ho hw (fun _ _ => hv)) (by rw [getD_set_ne true him]; exact hu) (by
          have hlt' : i < listed.size := by rw [I.size]; exact hilt
          have h1 : (List.range ops.size).countP (fun j => !(listed.setIfInBounds i true).getD j true) < (List.range ops.size).countP (fun i => !listed.getD i true) := by
            refine countP_lt (i := i) (List.mem_range.2 hilt) ?_ ?_ ?_
            · intro j _ hj
              by_cases hji : j = i
              · subst hji; rw [hn]; rfl
              · rw [getD_set_ne true (Ne.symm hji)] at hj; exact hj
            · rw [hn]; rfl
            · simp [Array.getD_eq_getD_getElem?, Array.getElem?_setIfInBounds_self_of_lt hlt']
          omega))
      unfold wpOpIn
      rw [ho]
      simp only
      split
      · rename_i hw; rw [if_pos hw] at hs; exact wpIn_of_wp (noDefer_spec hnd ho) hs
      · rename_i hw; rw [if_neg hw] at hs; exact ⟨fun _ _ => trivial, hs⟩

/-- The law. -/
theorem wpIn_region_slotsT {id : Nat} {l : List Oper} {t : Oper} {r n : Nat} (hnd : noDefer (l ++ [t]).toArray = true) (le : World → World → Prop) (φ : Nat → Value → World → Prop) (refl : ∀ x, le x x) (trans : ∀ {x y z}, le x y → le y z → le x z) (stable : ∀ j v x y, le x y → φ j v x → φ j v y)
    (hm : P.follows .mixedOrders = true) (htg : t.guard = none) (hF : fwdOk (l ++ [t]).toArray = true) (hc : chainB (l ++ [t]).toArray l.length = true) (hD : dstsOk (l ++ [t]).toArray a0.tmps.size = true)
    (steps : StepsOk P (l ++ [t]).toArray Q le φ a0 w0.drew 0 l)
    (fin : ∀ w, le w0.drew w → FinAll φ w (fun a => wpListIn (Fence.wide.inRound r) n P (l ++ [t]).toArray Q [t] a w) 0 l a0) :
    (Code.region id (l ++ [t]).toArray true).wpIn (Fence.wide.inRound r) n P Q a0 w0 := by
  refine wpIn_region_any hm ?_
  refine wpIn_region_slotsT_any hnd (le := le) (φ := φ) (a0 := a0) (w0 := w0.drew) rfl htg hF hc trans stable hD (fun i o hi ho => ?_) fin _ _ _ _ ?_ ?_ ?_
  · have hl : l[i]? = some o := by rw [List.getElem?_toArray, List.getElem?_append_left hi] at ho; exact ho
    have := stepsOk_at l 0 steps i o hl
    rwa [Nat.zero_add] at this
  · refine ⟨by simp, refl _, rfl, rfl, ?_, ?_, fun k _ => rfl⟩
    · intro j o _ hl
      simp only [Array.getD_eq_getD_getElem?, Array.getElem?_replicate] at hl
      split at hl <;> cases hl
    · intro j d _ hl
      simp only [Array.getD_eq_getD_getElem?, Array.getElem?_replicate] at hl
      split at hl <;> cases hl
  · simp [Array.getD_eq_getD_getElem?]
  · have := List.countP_le_length (p := fun i => !(Array.replicate (l ++ [t]).toArray.size false).getD i true) (l := List.range (l ++ [t]).toArray.size)
    simpa using this
/-- At a list that is written out. -/
theorem wpIn_region_slotsTL {id : Nat} {L : List Oper} {r n : Nat} (hnd : noDefer L.toArray = true) (hne : L ≠ []) (le : World → World → Prop) (φ : Nat → Value → World → Prop) (refl : ∀ x, le x x) (trans : ∀ {x y z}, le x y → le y z → le x z) (stable : ∀ j v x y, le x y → φ j v x → φ j v y)
    (hm : P.follows .mixedOrders = true) (htg : (L.getLast hne).guard = none) (hF : fwdOk L.toArray = true) (hc : chainB L.toArray (L.length - 1) = true) (hD : dstsOk L.toArray a0.tmps.size = true)
    (steps : StepsOk P L.toArray Q le φ a0 w0.drew 0 L.dropLast)
    (fin : ∀ w, le w0.drew w → FinAll φ w (fun a => wpListIn (Fence.wide.inRound r) n P L.toArray Q [L.getLast hne] a w) 0 L.dropLast a0) :
    (Code.region id L.toArray true).wpIn (Fence.wide.inRound r) n P Q a0 w0 := by
  have e := List.dropLast_concat_getLast hne
  have h := wpIn_region_slotsT (id := id) (l := L.dropLast) (t := L.getLast hne) (Q := Q) (a0 := a0) (w0 := w0) (by rw [e]; exact hnd) le φ refl trans stable hm htg (by rw [e]; exact hF) (by rw [e, List.length_dropLast]; exact hc) (by rw [e]; exact hD) (by rw [e]; exact steps) (fun w hw => by rw [e]; exact fin w hw)
  rw [e] at h
  exact h

theorem wp_region_slotsT_any {l : List Oper} {t : Oper} (hops : ops = (l ++ [t]).toArray) (htg : t.guard = none) (hF : fwdOk ops = true) (hc : chainB ops l.length = true) (trans : ∀ {x y z}, le x y → le y z → le x z) (stable : ∀ j v x y, le x y → φ j v x → φ j v y) (hD : dstsOk ops a0.tmps.size = true)
    (steps : ∀ i o, i < l.length → ops[i]? = some o → StepOk P ops Q le φ a0 w0 i o)
    (fin : ∀ w, le w0 w → FinAll φ w (fun a => wpList P ops Q [t] a w) 0 l a0) :
    ∀ (fuel : Nat) (listed : Array Bool) (a : Act) (w : World), Inv ops le φ a0 w0 listed a w → listed.getD l.length true = false → (List.range ops.size).countP (fun i => !listed.getD i true) ≤ fuel → wpAny P .any ops Q fuel listed a w
  | 0, listed, a, w, I, hu, hcnt => by
    have hlt : l.length < ops.size := by rw [hops]; simp
    have : 0 < (List.range ops.size).countP (fun i => !listed.getD i true) := List.countP_pos_iff.2 ⟨l.length, List.mem_range.2 hlt, by simp only [hu, Bool.not_false]⟩
    omega
  | fuel + 1, listed, a, w, I, hu, hcnt => by
    have hlt : l.length < ops.size := by rw [hops]; simp
    have ht : ops[l.length]? = some t := by rw [hops]; simp
    have hne : Region.ready .any ops listed ≠ [] := fun e => by
      have h1 := all_listed hF I.size e (l.length + 1) l.length (Nat.lt_succ_self _) hlt
      rw [getD_true_false (by rw [I.size]; exact hlt) hu] at h1
      cases h1
    refine ⟨fun h => absurd h hne, fun i hi => ?_⟩
    obtain ⟨hn, o, ho, _⟩ := mem_ready.1 hi
    have hilt : i < ops.size := (Array.getElem?_eq_some_iff.1 ho).1
    by_cases him : i = l.length
    · subst him
      rw [ht] at ho; cases ho
      have hall : ∀ j, j < l.length → listed.getD j false = true := fun j hj => I.last hc hi l.length j (by omega) hj
      have hidx : ∀ j o, l[j]? = some o → ops[j]? = some o := fun j o hj => by
        rw [hops, List.getElem?_toArray, List.getElem?_append_left (List.getElem?_eq_some_iff.1 hj).1]; exact hj
      have hf := finAll_take (fun d => a.eval (.tmp d)) l 0 a0 (fin w I.le) (fun j o d hj hd => by
        rw [Nat.zero_add]
        exact I.done j d (by unfold dstAt; rw [hidx j o hj]; exact hd) (hall j (List.getElem?_eq_some_iff.1 hj).1))
      have hin : ∀ o ∈ l, ∀ d, o.dst = some d → d < a0.tmps.size := by
        intro o ho d hd
        obtain ⟨j, hj⟩ := List.getElem?_of_mem ho
        have hj' := hidx j o hj
        unfold dstsOk at hD
        rw [List.all_eq_true] at hD
        have := hD j (List.mem_range.2 (Array.getElem?_eq_some_iff.1 hj').1)
        have e : dstAt ops j = some d := by unfold dstAt; rw [hj']; exact hd
        rw [e] at this
        simp only [Bool.and_eq_true, decide_eq_true_eq] at this
        exact this.1
      have hs := putAll_size (fun d => a.eval (.tmp d)) l a0
      have hpa : putAll a0 l (fun d => a.eval (.tmp d)) = a := by
        refine act_ext (hs.1.trans I.tmps.symm) (hs.2.trans I.defers.symm) fun k => ?_
        rw [putAll_get _ _ _ _ hin]
        split
        · rfl
        · rename_i h
          refine (I.rest k fun j hj hd => h ?_).symm
          rw [List.any_eq_true]
          have hjl : j ≠ l.length := fun e => by
            subst e
            rw [getD_true_false (by rw [I.size]; exact hlt) hu] at hj
            cases hj
          unfold dstAt at hd
          cases ho : ops[j]? with
          | none => rw [ho] at hd; cases hd
          | some o =>
            rw [ho] at hd
            have hj2 : j < ops.size := (Array.getElem?_eq_some_iff.1 ho).1
            have hjlt : j < l.length := by have : ops.size = l.length + 1 := by rw [hops]; simp
                                           omega
            refine ⟨o, ?_, by simpa using hd⟩
            rw [hops, List.getElem?_toArray, List.getElem?_append_left hjlt] at ho
            exact List.mem_of_getElem? ho
      rw [hpa] at hf
      have hd : Region.ready .any ops (listed.setIfInBounds l.length true) = [] := ready_done I.size (by rw [hops]; simp) hall
      have hw : Region.wanted t (yielded ops a.tmps) = true := wanted_no htg
      unfold wpOp
      simp only [ht]
      have hfin : ∀ (a' : Act) (w' : World), Q .normal a' w' → wpAny P .any ops Q fuel (listed.setIfInBounds l.length true) a' w' := fun a' w' h' => by
        cases fuel with
        | zero => exact ⟨hd, h'⟩
        | succ f => exact ⟨fun _ => h', fun j hj => by rw [hd] at hj; cases hj⟩
      unfold wpList at hf
      rw [if_pos hw] at hf ⊢
      exact hf.imp (fun h => Oper.wp_mono (fun a' w' h' => hfin a' w' h') h) id
    · have hs := steps i o (by have : ops.size = l.length + 1 := by rw [hops]; simp
                               omega) ho a w (fun a' w' => wpAny P .any ops Q fuel (listed.setIfInBounds i true) a' w') (I.now hi)
        (fun v w' hw hv => wp_region_slotsT_any hops htg hF hc trans stable hD steps fin fuel _ _ _ (I.step trans stable hD hi ho hw (fun _ _ => hv)) (by rw [getD_set_ne true him]; exact hu) (by
          have hlt' : i < listed.size := by rw [I.size]; exact hilt
          have h1 : (List.range ops.size).countP (fun j => !(listed.setIfInBounds i true).getD j true) < (List.range ops.size).countP (fun i => !listed.getD i true) := by
            refine countP_lt (i := i) (List.mem_range.2 hilt) ?_ ?_ ?_
            · intro j _ hj
              by_cases hji : j = i
              · subst hji; rw [hn]; rfl
              · rw [getD_set_ne true (Ne.symm hji)] at hj; exact hj
            · rw [hn]; rfl
            · simp [Array.getD_eq_getD_getElem?, Array.getElem?_setIfInBounds_self_of_lt hlt']
          omega))
      unfold wpOp
      rw [ho]
      simp only
      split
      · rename_i hw; rw [if_pos hw] at hs; exact .inl hs
      · rename_i hw; rw [if_neg hw] at hs; exact hs

/-- The law. -/
theorem wp_region_slotsT {id : Nat} {l : List Oper} {t : Oper} (le : World → World → Prop) (φ : Nat → Value → World → Prop) (refl : ∀ x, le x x) (trans : ∀ {x y z}, le x y → le y z → le x z) (stable : ∀ j v x y, le x y → φ j v x → φ j v y)
    (hm : P.follows .mixedOrders = true) (htg : t.guard = none) (hF : fwdOk (l ++ [t]).toArray = true) (hc : chainB (l ++ [t]).toArray l.length = true) (hD : dstsOk (l ++ [t]).toArray a0.tmps.size = true)
    (steps : StepsOk P (l ++ [t]).toArray Q le φ a0 w0.drew 0 l)
    (fin : ∀ w, le w0.drew w → FinAll φ w (fun a => wpList P (l ++ [t]).toArray Q [t] a w) 0 l a0) :
    (Code.region id (l ++ [t]).toArray true).wp P Q a0 w0 := by
  refine wp_region_any hm ?_
  refine wp_region_slotsT_any (le := le) (φ := φ) (a0 := a0) (w0 := w0.drew) rfl htg hF hc trans stable hD (fun i o hi ho => ?_) fin _ _ _ _ ?_ ?_ ?_
  · have hl : l[i]? = some o := by rw [List.getElem?_toArray, List.getElem?_append_left hi] at ho; exact ho
    have := stepsOk_at l 0 steps i o hl
    rwa [Nat.zero_add] at this
  · refine ⟨by simp, refl _, rfl, rfl, ?_, ?_, fun k _ => rfl⟩
    · intro j o _ hl
      simp only [Array.getD_eq_getD_getElem?, Array.getElem?_replicate] at hl
      split at hl <;> cases hl
    · intro j d _ hl
      simp only [Array.getD_eq_getD_getElem?, Array.getElem?_replicate] at hl
      split at hl <;> cases hl
  · simp [Array.getD_eq_getD_getElem?]
  · have := List.countP_le_length (p := fun i => !(Array.replicate (l ++ [t]).toArray.size false).getD i true) (l := List.range (l ++ [t]).toArray.size)
    simpa using this
/-- At a list that is written out. -/
theorem wp_region_slotsTL {id : Nat} {L : List Oper} (hne : L ≠ []) (le : World → World → Prop) (φ : Nat → Value → World → Prop) (refl : ∀ x, le x x) (trans : ∀ {x y z}, le x y → le y z → le x z) (stable : ∀ j v x y, le x y → φ j v x → φ j v y)
    (hm : P.follows .mixedOrders = true) (htg : (L.getLast hne).guard = none) (hF : fwdOk L.toArray = true) (hc : chainB L.toArray (L.length - 1) = true) (hD : dstsOk L.toArray a0.tmps.size = true)
    (steps : StepsOk P L.toArray Q le φ a0 w0.drew 0 L.dropLast)
    (fin : ∀ w, le w0.drew w → FinAll φ w (fun a => wpList P L.toArray Q [L.getLast hne] a w) 0 L.dropLast a0) :
    (Code.region id L.toArray true).wp P Q a0 w0 := by
  have e := List.dropLast_concat_getLast hne
  have h := wp_region_slotsT (id := id) (l := L.dropLast) (t := L.getLast hne) (Q := Q) (a0 := a0) (w0 := w0) le φ refl trans stable hm htg (by rw [e]; exact hF) (by rw [e, List.length_dropLast]; exact hc) (by rw [e]; exact hD) (by rw [e]; exact steps) (fun w hw => by rw [e]; exact fin w hw)
  rw [e] at h
  exact h
end
end Go.Proofs.Ytchlemajppnehaa

/- A Due's walk: one is told. -/
set_option maxRecDepth 100000
namespace Go.Proofs.Ytchlemajppnehaa
open Go Go.RowKit Go.Shelf Go.Maps
section
variable {X B db mb fb : Nat} {S : Du.St} {L : TL} {hv wv dv : Value} {w w' : World} {most : Int} {o T : List Nat} {N j : Nat}
set_option maxHeartbeats 8000000 in
theorem dnext_some (h : WalkE X B db mb fb S L most T wv dv hv j w) (hI : Du.InvD S o N) (hT : Du.Ordered S most o T) (hj : j < T.length) (hN : N < 80000) :
    Calls Try.prog 75 #[.pointer (some ⟨B, 0, none⟩), .pointer (some ⟨fb, 0, none⟩), .pointer (some ⟨db, 0, none⟩)] w fun e w' =>
      e = .returned (.tuple #[.agg #[.int .i64 (Lr.rat S.T.rows T[j]).k, .int .i64 (Lr.rat S.T.rows T[j]).a], .bool true]) ∧
        ∃ v, WalkE X B db mb fb S L most T wv dv v (j + 1) w' ∧ (∀ b, v.ownBlock = some b → hv.ownBlock = some b ∨ w.heap.size ≤ b) ∧ Trn (fun b => b = B ∨ hv.ownBlock = some b) w w' := by
  obtain ⟨s, h1, h2⟩ := h.ex
  have hmb := h.mbx
  have hfb := h.fbx
  have hnm := h.nm
  clear h
  obtain ⟨⟨pl, s1⟩, ht⟩ : ∃ q, Hp.take (Du.ltP S) s 0 = q := ⟨_, rfl⟩
  obtain ⟨g1, g2, g3, g4, g5, g6, g7, g8, g9, g10⟩ := hI.fr_step hT h2 h1.pl hj ht
  have hn0 := hI.fr_end hT h2 hj
  have hfl := Du.fr_len h2
  have hol := hI.llen
  have hbd := hI.tab.bounds
  have hlen := hI.tab.len
  have hS : S.l.length < 90000 := by omega
  have hsl : ∀ y ∈ s.l, y < S.l.length := fun y hy => by
    obtain ⟨p, hp, e⟩ := List.mem_iff_getElem.1 hy
    exact ((h2.rng y).1 ⟨p, hp, by show s.l.getD p 0 = y; rw [List.getD_eq_getElem?_getD, List.getElem?_eq_getElem hp]; exact e⟩).1
  obtain ⟨ao, cap, hvv, _⟩ := ownK_form h1.heap
  have b1 : Below w.heap.size w (w.alloc (.cells #[.int .i64 0, .int .i64 0] 69)) := (Below.refl _ _).alloc (Nat.le_refl _) _
  have B0 := Blk.new w [.int .i64 0, .int .i64 0] 69
  have h1a := h1.below b1
  have hmb1 := hmb.kept (b1.block _ hmb.lt)
  have hfb1 := hfb.kept (b1.block _ hfb.lt)
  have t1 : Trn (fun b => b = B ∨ hv.ownBlock = some b) w (w.alloc (.cells #[.int .i64 0, .int .i64 0] 69)) := Trn.of_below b1
  have hBl := h1.box.lt
  have hml := hmb.lt
  have hfl2 := hfb.lt
  have hol2 : ∀ b, hv.ownBlock = some b → b < w.heap.size := fun b e => by obtain ⟨c, hc⟩ := own_blk' h1.heap e; exact hc.lt
  have c0 := h1a.cells.1
  rw [hvv] at c0
  have d0 : ((s.l.length : Int) == 0) = false := by simp; intro e; rw [e] at hn0; simp at hn0
  go_enter Try.func75, Try.ntmps75
  have hsz : (w.alloc (.cells #[.int .i64 0, .int .i64 0] 69)).heap.size = w.heap.size + 1 := by simp
  have htk := htake_W h1a (p := 0) hn0 hsl (by omega)
  rw [ht] at htk
  go_wp2_with fail
  generalize w.alloc (.cells #[.int .i64 0, .int .i64 0] 69) = W0 at *
  generalize hrb : w.heap.size = rb at *
  refine htk.mono ?_
  rintro e w1 ⟨rfl, v1, e1, fv1, u1⟩
  unfold encI
  have nfB : fb ≠ B := hfb.ne h1.box (by decide)
  have nmB : mb ≠ B := hmb.ne h1.box (by decide)
  have nff : ∀ b, hv.ownBlock = some b → b ≠ mb ∧ b ≠ fb ∧ b ≠ rb := fun b e => by
    obtain ⟨c, hc⟩ := own_blk' h1.heap e
    refine ⟨fun e2 => hnm (e2 ▸ e), hc.ne hfb (by decide), fun e2 => ?_⟩
    have := hol2 b e
    omega
  have K1 := fun k (hk : k < rb + 1) (hB : k ≠ B) (ho : hv.ownBlock ≠ some k) => u1.block k (by omega) (fun e => e.elim hB ho)
  have hmb2 := hmb1.kept (K1 mb (by omega) nmB (fun e => (nff mb e).1 rfl))
  have hfb2 := hfb1.kept (K1 fb (by omega) nfB (fun e => (nff fb e).2.1 rfl))
  have B2 := B0.kept (K1 rb (by omega) (by omega) (fun e => (nff rb e).2.2 rfl))
  have z1 := u1.size
  have nf1 : ∀ b, v1.ownBlock = some b → b ≠ mb ∧ b ≠ fb ∧ b ≠ rb := fun b e => nff b (fv1 b e)
  have t2 := t1.trans (u1.mono (g := grow (fun b => b = B ∨ hv.ownBlock = some b) w W0) fun b _ e => .inl e)
  have k1 := hfb2.cell (i := 0) rfl
  have E1 := Lib.hid e1
  have K0 : Hid (w1.drew.cell? ⟨fb, 0, none⟩ = some (.func (.func 74) #[] #[.pointer (some ⟨db, 0, none⟩), .pointer (some ⟨mb, 0, none⟩), .pointer (some ⟨B, 0, none⟩)])) := Lib.hid k1
  clear e1 htk c0 h1a h1 K1 hmb1 hfb1 B0 t1 u1
  go_wp2_with fail
  refine wp_region_slotsTL (by simp) slotLe (slotPhi ((fun v _ => v = ?p13) :: (fun v _ => v = ?p14) :: (fun v _ => v = ?p15) :: [])) slotLe_refl slotLe_trans (slotPhi_stable ?stb) (by kernel_rfl) (by kernel_rfl) (by kernel_rfl) (by kernel_rfl) (by kernel_rfl) ?steps ?fin
  case stb =>
    refine ⟨by intro _ _ _ _ h; exact h, ?_⟩
    refine ⟨by intro _ _ _ _ h; exact h, ?_⟩
    refine ⟨by intro _ _ _ _ h; exact h, ?_⟩
    exact trivial
  case steps =>
    refine ⟨?_, ?_⟩
    · intro a W K N hK
      have e1 : a.tmps[1]?.getD undef = .pointer (some ⟨fb, 0, none⟩) := N.was' 1 _ (by kernel_rfl) rfl
      rw [if_pos (wanted_no rfl)]
      have z := keep_cell N.le K0.out
      go_simp
      refine hK _ _ (slotLe_refl _) ?_
      exact rfl
    refine ⟨?_, ?_⟩
    · intro a W K N hK
      have e5 : a.tmps[5]?.getD undef = .int .i64 (pl : Int) := N.was' 5 _ (by kernel_rfl) rfl
      rw [if_pos (wanted_no rfl)]
      go_simp
      refine hK _ _ (slotLe_refl _) ?_
      exact rfl
    refine ⟨?_, ?_⟩
    · intro a W K N hK
      have e14 : a.tmps[14]?.getD undef = _ := N.dep' 1 14 (by kernel_rfl)
      rw [if_pos (wanted_no rfl)]
      go_simp
      go_at_call 76
      refine (below_any pl _ (by omega)).mono ?_
      rintro e wx ⟨rfl, rfl⟩
      go_simp
      refine hK _ _ (slotLe_refl _) ?_
      exact rfl
    exact trivial
  case fin =>
    intro V hV
    simp only [FinAll, slotPhi, List.dropLast, List.getLast_cons_cons, List.getLast_singleton, List.getD_cons_zero, List.getD_cons_succ, forall_eq, Act.put, List.setIfInBounds_toArray, List.set_cons_zero, List.set_cons_succ]
    have b4 : Below w1.heap.size w1 V := (show Below w1.heap.size w1 w1.drew from ⟨rfl, rfl, rfl, Nat.le_refl _, fun _ _ => rfl⟩).trans hV
    have hw1 := dwait_any (E1.out.below b4) (hmb2.kept (b4.block _ hmb2.lt)) (p := 2 * pl + 1) (by omega) g5 (by omega)
    rw [show ((2 * pl + 1 : Nat) : Int) = 2 * (pl : Int) + 1 by omega] at hw1
    go_wp2_with (go_at_call 74; refine hw1.mono ?_; rintro e w2 ⟨rfl, v2, e2, fv2, u2⟩)
    replace u2 : Trn (fun b => b = B ∨ v1.ownBlock = some b) w1 w2 := (Trn.of_below b4).trans (u2.mono fun b _ e => .inl e)
    replace fv2 : ∀ b, v2.ownBlock = some b → v1.ownBlock = some b ∨ w1.heap.size ≤ b := fun b e => (fv2 b e).imp id (fun e => Nat.le_trans b4.size e)
    have K2 := fun k (hk : k < w1.heap.size) (hB : k ≠ B) (ho : v1.ownBlock ≠ some k) => u2.block k hk (fun e => e.elim hB ho)
    have z2 : w1.heap.size ≤ w2.heap.size := u2.size
    have hmb3 : Blk w2 mb _ _ := hmb2.kept (K2 mb (by omega) nmB (fun e => (nf1 mb e).1 rfl))
    have hfb3 : Blk w2 fb _ _ := hfb2.kept (K2 fb (by omega) nfB (fun e => (nf1 fb e).2.1 rfl))
    have B3 : Blk w2 rb _ _ := B2.kept (K2 rb (by omega) (by omega) (fun e => (nf1 rb e).2.2 rfl))
    have nf2 : ∀ b, v2.ownBlock = some b → b ≠ mb ∧ b ≠ fb ∧ b ≠ rb := fun b e => by
      rcases fv2 b e with e2 | e2
      · exact nf1 b e2
      · omega
    have t3 := t2.trans (u2.mono (g := grow (fun b => b = B ∨ hv.ownBlock = some b) w w1) fun b _ e => .inl (e.imp id (fv1 b)))
    have k2 := hfb3.cell (i := 0) rfl
    have E2 := Lib.hid e2
    have K02 : Hid (w2.drew.cell? ⟨fb, 0, none⟩ = some (.func (.func 74) #[] #[.pointer (some ⟨db, 0, none⟩), .pointer (some ⟨mb, 0, none⟩), .pointer (some ⟨B, 0, none⟩)])) := Lib.hid k2
    clear e2 hw1 k1 k2 K2 hfb2 B2 t2 u2 K0 E1 b4 hV
    go_wp2_with fail
    refine wp_region_slotsTL (by simp) slotLe (slotPhi ((fun v _ => v = ?q17) :: (fun v _ => v = ?q18) :: (fun v _ => v = ?q19) :: (fun v _ => v = ?q20) :: [])) slotLe_refl slotLe_trans (slotPhi_stable ?stb) (by kernel_rfl) (by kernel_rfl) (by kernel_rfl) (by kernel_rfl) (by kernel_rfl) ?steps ?fin
    case stb =>
      refine ⟨by intro _ _ _ _ h; exact h, ?_⟩
      refine ⟨by intro _ _ _ _ h; exact h, ?_⟩
      refine ⟨by intro _ _ _ _ h; exact h, ?_⟩
      refine ⟨by intro _ _ _ _ h; exact h, ?_⟩
      exact trivial
    case steps =>
      refine ⟨?_, ?_⟩
      · intro a W K N hK
        have e1 : a.tmps[1]?.getD undef = .pointer (some ⟨fb, 0, none⟩) := N.was' 1 _ (by kernel_rfl) rfl
        rw [if_pos (wanted_no rfl)]
        have z := keep_cell N.le K02.out
        go_simp
        refine hK _ _ (slotLe_refl _) ?_
        exact rfl
      refine ⟨?_, ?_⟩
      · intro a W K N hK
        have e5 : a.tmps[5]?.getD undef = .int .i64 (pl : Int) := N.was' 5 _ (by kernel_rfl) rfl
        rw [if_pos (wanted_no rfl)]
        go_simp
        refine hK _ _ (slotLe_refl _) ?_
        exact rfl
      refine ⟨?_, ?_⟩
      · intro a W K N hK
        have e18 : a.tmps[18]?.getD undef = _ := N.dep' 1 18 (by kernel_rfl)
        rw [if_pos (wanted_no rfl)]
        go_simp
        go_at_call 76
        refine (below_any pl _ (by omega)).mono ?_
        rintro e wx ⟨rfl, rfl⟩
        go_simp
        refine hK _ _ (slotLe_refl _) ?_
        exact rfl
      refine ⟨?_, ?_⟩
      · intro a W K N hK
        have e19 : a.tmps[19]?.getD undef = _ := N.dep' 2 19 (by kernel_rfl)
        rw [if_pos (wanted_no rfl)]
        go_simp
        refine hK _ _ (slotLe_refl _) ?_
        exact rfl
      exact trivial
    case fin =>
      intro V hV
      simp only [FinAll, slotPhi, List.dropLast, List.getLast_cons_cons, List.getLast_singleton, List.getD_cons_zero, List.getD_cons_succ, forall_eq, Act.put, List.setIfInBounds_toArray, List.set_cons_zero, List.set_cons_succ]
      have b5 : Below w2.heap.size w2 V := (show Below w2.heap.size w2 w2.drew from ⟨rfl, rfl, rfl, Nat.le_refl _, fun _ _ => rfl⟩).trans hV
      have hw2 := dwait_any (E2.out.below b5) (hmb3.kept (b5.block _ hmb3.lt)) (p := 2 * pl + 2) (by omega) g6 (by omega)
      rw [show ((2 * pl + 2 : Nat) : Int) = 2 * (pl : Int) + 1 + 1 by omega] at hw2
      go_wp2_with (go_at_call 74; refine hw2.mono ?_; rintro e w3 ⟨rfl, v3, e3, fv3, u3⟩)
      replace u3 : Trn (fun b => b = B ∨ v2.ownBlock = some b) w2 w3 := (Trn.of_below b5).trans (u3.mono fun b _ e => .inl e)
      replace fv3 : ∀ b, v3.ownBlock = some b → v2.ownBlock = some b ∨ w2.heap.size ≤ b := fun b e => (fv3 b e).imp id (fun e => Nat.le_trans b5.size e)
      have K3 := fun k (hk : k < w2.heap.size) (hB : k ≠ B) (ho : v2.ownBlock ≠ some k) => u3.block k hk (fun e => e.elim hB ho)
      have z3 : w2.heap.size ≤ w3.heap.size := u3.size
      have hmb4 : Blk w3 mb _ _ := hmb3.kept (K3 mb (by omega) nmB (fun e => (nf2 mb e).1 rfl))
      have hfb4 : Blk w3 fb _ _ := hfb3.kept (K3 fb (by omega) nfB (fun e => (nf2 fb e).2.1 rfl))
      have B4 : Blk w3 rb _ _ := B3.kept (K3 rb (by omega) (by omega) (fun e => (nf2 rb e).2.2 rfl))
      have nf3 : ∀ b, v3.ownBlock = some b → b ≠ mb ∧ b ≠ fb ∧ b ≠ rb := fun b e => by
        rcases fv3 b e with e2 | e2
        · exact nf2 b e2
        · omega
      have fvv : ∀ b, v3.ownBlock = some b → hv.ownBlock = some b ∨ rb ≤ b := fun b e => by
        rcases fv3 b e with e2 | e2
        · rcases fv2 b e2 with e3 | e3
          · exact .inl (fv1 b e3)
          · exact .inr (by omega)
        · exact .inr (by omega)
      have t4 := t3.trans (u3.mono (g := grow (fun b => b = B ∨ hv.ownBlock = some b) w w2) fun b hb e => e.elim (fun e => .inl (.inl e)) (fun e => (fv2 b e).elim (fun e => .inl (.inr (fv1 b e))) (fun e => .inr ⟨by omega, hb⟩)))
      obtain ⟨_, r2, r4, _, _, _, _⟩ := e3.due.cells
      obtain ⟨G, cp, hdv, hcp, hcc⟩ := own_pos e3.due.heap (by show 0 < S.l.length; omega)
      rw [hdv] at r4
      have rc := hcc pl g1
      have hlp : S.lp pl = S.l[pl] := by unfold Du.St.lp; rw [List.getD_eq_getElem?_getD, List.getElem?_eq_getElem g1]; rfl
      have hx : S.l[pl] = T[j] := hlp.symm.trans g2
      have hxl := e3.ok S.l[pl] (List.getElem_mem g1)
      obtain ⟨q0, q1, q2, q3, _⟩ := e3.due.row hxl
      rw [hx] at rc q0 q1 q2 q3 hxl
      have rd := e3.dbx.cell (i := 0) rfl
      have lX := e3.due.lt
      have ldb := e3.dbx.lt
      have lG := (cell_lt rc : G < w3.heap.size)
      have A1 : ∀ (o : Obj) (b i : Nat), b < w3.heap.size → (w3.drew.alloc o).cell? ⟨b, i, none⟩ = w3.cell? ⟨b, i, none⟩ := fun o b i hb => cell_same (Below.heap_alloc w3.drew o b hb) i
      have X1 := fun o => A1 o X 2 lX.1
      have X2 := fun o => A1 o X 4 lX.1
      have X3 := fun o => A1 o G pl lG
      have X4 := fun o => A1 o L.R (T[j] * 4) lX.2
      have X5 := fun o => A1 o L.R (T[j] * 4 + 1) lX.2
      have X6 := fun o => A1 o L.R (T[j] * 4 + 2) lX.2
      have X7 := fun o => A1 o L.R (T[j] * 4 + 3) lX.2
      have X8 := fun o => A1 o db 0 ldb
      have E3 := Lib.hid e3
      clear e3 hw2 K3 hmb3 hfb3 B3 t3 u3 hcc A1 K02 E2 b5 hV
      generalize hxx : T[j] = x at *
      unfold encI at q2 q3
      have NB := Blk.new w3 [.int .i64 0, .int .i64 0, .int .i64 0, .int .i64 0] 98
      have n0 := NB.cell (i := 0) rfl
      have n1 := NB.cell (i := 1) rfl
      have n2 := NB.cell (i := 2) rfl
      have n3 := NB.cell (i := 3) rfl
      have nfz := NB.frozen
      go_wp2_with fail
      go_region
      clear n0 n1 n2 n3 nfz NB X1 X2 X3 X4 X5 X6 X7 X8 r2 r4 rc q0 q1 q2 q3 rd
      obtain ⟨W4, hW4⟩ : ∃ W4, W4 = (w3.alloc (.cells #[.int .i64 (Lr.rat S.T.rows x).k, .int .i64 (Lr.rat S.T.rows x).a, .int .i64 ((Lr.rat S.T.rows x).b : Int), .int .i64 ((Lr.rat S.T.rows x).c : Int)] 98)).drew := ⟨_, rfl⟩
      have N2 : Blk W4 w3.heap.size [.int .i64 (Lr.rat S.T.rows x).k, .int .i64 (Lr.rat S.T.rows x).a, .int .i64 ((Lr.rat S.T.rows x).b : Int), .int .i64 ((Lr.rat S.T.rows x).c : Int)] 98 := by rw [hW4]; exact Blk.new w3 _ _
      have b6 : Below w3.heap.size w3 W4 := by
        rw [hW4]
        exact ((Below.refl _ _).alloc (Nat.le_refl _) _).trans ⟨rfl, rfl, rfl, Nat.le_refl _, fun _ _ => rfl⟩
      have R2 := B4.kept (b6.block _ B4.lt)
      have t5 := t4.trans (Trn.of_below (f := grow (fun b => b = B ∨ hv.ownBlock = some b) w w3) b6)
      have e4 := E3.out.below b6
      have hmb5 := hmb4.kept (b6.block _ hmb4.lt)
      have hfb5 := hfb4.kept (b6.block _ hfb4.lt)
      rw [← hW4]
      generalize w3.heap.size = nb at *
      have i0 := N2.cell (i := 0) rfl
      have i1 := N2.cell (i := 1) rfl
      have j0 := R2.cell (i := 0) rfl
      have j1 := R2.cell (i := 1) rfl
      have jf := R2.frozen
      clear hW4 b6 t4 hmb4 hfb4 B4 E3
      generalize hkx : (Lr.rat S.T.rows x).k = kx at *
      generalize hax : (Lr.rat S.T.rows x).a = ax at *
      have HX := Lib.hid (show T[j] = x ∧ (Lr.rat S.T.rows x).k = kx ∧ (Lr.rat S.T.rows x).a = ax from ⟨hxx, hkx, hax⟩)
      clear hxx hkx hax
      go_wp2
      have R3 := (R2.set 0 (.int .i64 kx)).set 1 (.int .i64 ax)
      have l0 := R3.cell (i := 0) (v := .int .i64 kx) rfl
      have l1 := R3.cell (i := 1) (v := .int .i64 ax) rfl
      have t6 := (t5.trans (Trn.set (f := grow (fun b => b = B ∨ hv.ownBlock = some b) w W4) R2 (.inr ⟨by omega, R2.lt⟩) 0 (.int .i64 kx))).trans (Trn.set (f := grow (fun b => b = B ∨ hv.ownBlock = some b) w _) (R2.set 0 (.int .i64 kx)) (.inr ⟨by omega, (R2.set 0 (.int .i64 kx)).lt⟩) 1 (.int .i64 ax))
      refine bodyPost_ret (v := .tuple #[.agg #[.int .i64 kx, .int .i64 ax], .bool true]) (by simp [results, Try.results75, go_sem, l0, l1]) rfl ?_
      obtain ⟨x1, x2, x3⟩ := HX.out
      have R2' := R2.set 0 (.int .i64 kx)
      have nmr : mb ≠ rb := hmb5.ne R2 (by decide)
      have nfr : fb ≠ rb := hfb5.ne R2 (by decide)
      refine ⟨by rw [x1, x2, x3], v3, ⟨⟨_, (e4.kind R2).kind R2', g9⟩, (hmb5.other nmr _ _).other nmr _ _, (hfb5.other nfr _ _).other nfr _ _, fun e => (nf3 mb e).1 rfl⟩, fun b e => (fvv b e).imp id (fun e => by omega), t6⟩
end
end Go.Proofs.Ytchlemajppnehaa
