/- 3 texts put together: SlotsT, Room, CommonMath. -/
import Derived.Deep.AppendSrc
import Derived.Deep.MidRow
import Derived.Deep.RegionLaw
import Derived.Deep.Upon
import Derived.Test.YtdodamkndigjkaaJB2
import Derived.Test.YtdodamkndigjkaaJB8
import Derived.Test.YtdodamkndigjkaaJB10
import Derived.Test.YtdodamkndigjkaaJB11
/- The law of slots, the last operation being another matter: it waits for all others, and is walked behind them. -/
namespace Go.Proofs.Ytdodamkndigjkaa
open Go

/-- Each operation ahead of m is waited for by one behind it, up to m. -/
def chainB (ops : Array Oper) (m : Nat) : Bool := (List.range m).all fun i => (List.range (m + 1)).any fun j => decide (i < j) && waitsFor ops j i
section
variable {P : Program} {ops : Array Oper} {Q : Exit → Act → World → Prop} {le : World → World → Prop} {φ : Nat → Value → World → Prop} {a0 : Act} {w0 : World}
theorem Inv.dep {listed : Array Bool} {a : Act} {w : World} (I : Inv ops le φ a0 w0 listed a w) {j i : Nat} (hw : waitsFor ops j i = true) (hj : listed.getD j false = true ∨ j ∈ Region.ready .any ops listed) : listed.getD i false = true := by
  unfold waitsFor at hw
  cases ho : ops[j]? with
  | none => rw [ho] at hw; cases hw
  | some o =>
    rw [ho] at hw
    simp only [Option.map_some, Option.getD_some] at hw
    rw [Array.any_eq_true'] at hw
    obtain ⟨e, he, hb⟩ := hw
    simp only [Bool.and_eq_true, beq_iff_eq] at hb
    rw [← hb.2]
    rcases hj with hj | hj
    · exact I.closed j o ho hj e he hb.1
    · obtain ⟨_, o', ho', hall⟩ := mem_ready.1 hj
      rw [ho] at ho'; cases ho'
      exact hall e he hb.1
theorem Inv.last {listed : Array Bool} {a : Act} {w : World} (I : Inv ops le φ a0 w0 listed a w) {m : Nat} (hc : chainB ops m = true) (hm : m ∈ Region.ready .any ops listed) : ∀ k i, m ≤ i + k → i < m → listed.getD i false = true
  | 0, i, h, hi => by omega
  | k + 1, i, h, hi => by
    unfold chainB at hc
    have h1 := List.all_eq_true.1 hc i (List.mem_range.2 hi)
    obtain ⟨j, hj, h2⟩ := List.any_eq_true.1 h1
    simp only [Bool.and_eq_true, decide_eq_true_eq] at h2
    rw [List.mem_range] at hj
    by_cases hjm : j = m
    · subst hjm; exact I.dep h2.2 (.inr hm)
    · exact I.dep h2.2 (.inl (I.last hc hm k j (by omega) (by omega)))

theorem wpIn_region_slotsT_any {l : List Oper} {t : Oper} {r n : Nat} (hnd : noDefer ops = true) (hops : ops = (l ++ [t]).toArray) (htg : t.guard = none) (hF : fwdOk ops = true) (hc : chainB ops l.length = true) (trans : ∀ {x y z}, le x y → le y z → le x z) (stable : ∀ j v x y, le x y → φ j v x → φ j v y) (hD : dstsOk ops a0.tmps.size = true)
    (steps : ∀ i o, i < l.length → ops[i]? = some o → StepOk P ops Q le φ a0 w0 i o)
    (fin : ∀ w, le w0 w → FinAll φ w (fun a => wpListIn (Fence.wide.inRound r) n P ops Q [t] a w) 0 l a0) :
    ∀ (fuel : Nat) (listed : Array Bool) (a : Act) (w : World), Inv ops le φ a0 w0 listed a w → listed.getD l.length true = false → (List.range ops.size).countP (fun i => !listed.getD i true) ≤ fuel → wpAnyIn (Fence.wide.inRound r) n P .any ops Q fuel listed a w
  | 0, listed, a, w, I, hu, hcnt => by
    have hlt : l.length < ops.size := by rw [hops]; simp
    have : 0 < (List.range ops.size).countP (fun i => !listed.getD i true) := List.countP_pos_iff.2 ⟨l.length, List.mem_range.2 hlt, by simp only [hu, Bool.not_false]⟩
    omega
  | fuel + 1, listed, a, w, I, hu, hcnt => by
    have hlt : l.length < ops.size := by rw [hops]; simp
    have ht : ops[l.length]? = some t := by rw [hops]; simp
    have hne : Region.ready .any ops listed ≠ [] := fun e => by
      have h1 := all_listed hF I.size e (l.length + 1) l.length (Nat.lt_succ_self _) hlt
      rw [getD_true_false (by rw [I.size]; exact hlt) hu] at h1
      cases h1
    refine ⟨fun h => absurd h hne, fun i hi => ?_⟩
    obtain ⟨hn, o, ho, _⟩ := mem_ready.1 hi
    have hilt : i < ops.size := (Array.getElem?_eq_some_iff.1 ho).1
    by_cases him : i = l.length
    · subst him
      rw [ht] at ho; cases ho
      have hall : ∀ j, j < l.length → listed.getD j false = true := fun j hj => I.last hc hi l.length j (by omega) hj
      have hidx : ∀ j o, l[j]? = some o → ops[j]? = some o := fun j o hj => by
        rw [hops, List.getElem?_toArray, List.getElem?_append_left (List.getElem?_eq_some_iff.1 hj).1]; exact hj
      have hf := finAll_take (fun d => a.eval (.tmp d)) l 0 a0 (fin w I.le) (fun j o d hj hd => by
        rw [Nat.zero_add]
        exact I.done j d (by unfold dstAt; rw [hidx j o hj]; exact hd) (hall j (List.getElem?_eq_some_iff.1 hj).1))
      have hin : ∀ o ∈ l, ∀ d, o.dst = some d → d < a0.tmps.size := by
        intro o ho d hd
        obtain ⟨j, hj⟩ := List.getElem?_of_mem ho
        have hj' := hidx j o hj
        unfold dstsOk at hD
        rw [List.all_eq_true] at hD
        have := hD j (List.mem_range.2 (Array.getElem?_eq_some_iff.1 hj').1)
        have e : dstAt ops j = some d := by unfold dstAt; rw [hj']; exact hd
        rw [e] at this
        simp only [Bool.and_eq_true, decide_eq_true_eq] at this
        exact this.1
      have hs := putAll_size (fun d => a.eval (.tmp d)) l a0
      have hpa : putAll a0 l (fun d => a.eval (.tmp d)) = a := by
        refine act_ext (hs.1.trans I.tmps.symm) (hs.2.trans I.defers.symm) fun k => ?_
        rw [putAll_get _ _ _ _ hin]
        split
        · rfl
        · rename_i h
          refine (I.rest k fun j hj hd => h ?_).symm
          rw [List.any_eq_true]
          have hjl : j ≠ l.length := fun e => by
            subst e
            rw [getD_true_false (by rw [I.size]; exact hlt) hu] at hj
            cases hj
          unfold dstAt at hd
          cases ho : ops[j]? with
          | none => rw [ho] at hd; cases hd
          | some o =>
            rw [ho] at hd
            have hj2 : j < ops.size := (Array.getElem?_eq_some_iff.1 ho).1
            have hjlt : j < l.length := by have : ops.size = l.length + 1 := by rw [hops]; simp
                                           omega
            refine ⟨o, ?_, by simpa using hd⟩
            rw [hops, List.getElem?_toArray, List.getElem?_append_left hjlt] at ho
            exact List.mem_of_getElem? ho
      rw [hpa] at hf
      have hd : Region.ready .any ops (listed.setIfInBounds l.length true) = [] := ready_done I.size (by rw [hops]; simp) hall
      have hw : Region.wanted t (yielded ops a.tmps) = true := wanted_no htg
      unfold wpOpIn
      simp only [ht]
      have hfin : ∀ (a' : Act) (w' : World), Q .normal a' w' → wpAnyIn (Fence.wide.inRound r) n P .any ops Q fuel (listed.setIfInBounds l.length true) a' w' := fun a' w' h' => by
        cases fuel with
        | zero => exact ⟨hd, h'⟩
        | succ f => exact ⟨fun _ => h', fun j hj => by rw [hd] at hj; cases hj⟩
      unfold wpListIn at hf
      rw [if_pos hw] at hf ⊢
      exact Oper.wpIn_mono (fun a' w' h' => hfin a' w' h') hf
    · have hs := steps i o (by have : ops.size = l.length + 1 := by rw [hops]; simp
                               omega) ho a w (fun a' w' => wpAnyIn (Fence.wide.inRound r) n P .any ops Q fuel (listed.setIfInBounds i true) a' w') (I.now hi)
        (fun v w' hw hv => wpIn_region_slotsT_any hnd hops htg hF hc trans stable hD steps fin fuel _ _ _ (I.step trans stable hD hi ho hw (fun _ _ => hv)) (by rw [getD_set_ne true him]; exact hu) (by
          have hlt' : i < listed.size := by rw [I.size]; exact hilt
          have h1 : (List.range ops.size).countP (fun j => !(listed.setIfInBounds i true).getD j true) < (List.range ops.size).countP (fun i => !listed.getD i true) := by
            refine countP_lt (i := i) (List.mem_range.2 hilt) ?_ ?_ ?_
            · intro j _ hj
              by_cases hji : j = i
              · subst hji; rw [hn]; rfl
              · rw [getD_set_ne true (Ne.symm hji)] at hj; exact hj
            · rw [hn]; rfl
            · simp [Array.getD_eq_getD_getElem?, Array.getElem?_setIfInBounds_self_of_lt hlt']
          omega))
      unfold wpOpIn
      rw [ho]
      simp only
      split
      · rename_i hw; rw [if_pos hw] at hs; exact wpIn_of_wp (noDefer_spec hnd ho) hs
      · rename_i hw; rw [if_neg hw] at hs; exact ⟨fun _ _ => trivial, hs⟩

/-- The law. -/
theorem wpIn_region_slotsT {id : Nat} {l : List Oper} {t : Oper} {r n : Nat} (hnd : noDefer (l ++ [t]).toArray = true) (le : World → World → Prop) (φ : Nat → Value → World → Prop) (refl : ∀ x, le x x) (trans : ∀ {x y z}, le x y → le y z → le x z) (stable : ∀ j v x y, le x y → φ j v x → φ j v y)
    (hm : P.follows .mixedOrders = true) (htg : t.guard = none) (hF : fwdOk (l ++ [t]).toArray = true) (hc : chainB (l ++ [t]).toArray l.length = true) (hD : dstsOk (l ++ [t]).toArray a0.tmps.size = true)
    (steps : StepsOk P (l ++ [t]).toArray Q le φ a0 w0.drew 0 l)
    (fin : ∀ w, le w0.drew w → FinAll φ w (fun a => wpListIn (Fence.wide.inRound r) n P (l ++ [t]).toArray Q [t] a w) 0 l a0) :
    (Code.region id (l ++ [t]).toArray true).wpIn (Fence.wide.inRound r) n P Q a0 w0 := by
  refine wpIn_region_any hm ?_
  refine wpIn_region_slotsT_any hnd (le := le) (φ := φ) (a0 := a0) (w0 := w0.drew) rfl htg hF hc trans stable hD (fun i o hi ho => ?_) fin _ _ _ _ ?_ ?_ ?_
  · have hl : l[i]? = some o := by rw [List.getElem?_toArray, List.getElem?_append_left hi] at ho; exact ho
    have := stepsOk_at l 0 steps i o hl
    rwa [Nat.zero_add] at this
  · refine ⟨by simp, refl _, rfl, rfl, ?_, ?_, fun k _ => rfl⟩
    · intro j o _ hl
      simp only [Array.getD_eq_getD_getElem?, Array.getElem?_replicate] at hl
      split at hl <;> cases hl
    · intro j d _ hl
      simp only [Array.getD_eq_getD_getElem?, Array.getElem?_replicate] at hl
      split at hl <;> cases hl
  · simp [Array.getD_eq_getD_getElem?]
  · have := List.countP_le_length (p := fun i => !(Array.replicate (l ++ [t]).toArray.size false).getD i true) (l := List.range (l ++ [t]).toArray.size)
    simpa using this
/-- At a list that is written out. -/
theorem wpIn_region_slotsTL {id : Nat} {L : List Oper} {r n : Nat} (hnd : noDefer L.toArray = true) (hne : L ≠ []) (le : World → World → Prop) (φ : Nat → Value → World → Prop) (refl : ∀ x, le x x) (trans : ∀ {x y z}, le x y → le y z → le x z) (stable : ∀ j v x y, le x y → φ j v x → φ j v y)
    (hm : P.follows .mixedOrders = true) (htg : (L.getLast hne).guard = none) (hF : fwdOk L.toArray = true) (hc : chainB L.toArray (L.length - 1) = true) (hD : dstsOk L.toArray a0.tmps.size = true)
    (steps : StepsOk P L.toArray Q le φ a0 w0.drew 0 L.dropLast)
    (fin : ∀ w, le w0.drew w → FinAll φ w (fun a => wpListIn (Fence.wide.inRound r) n P L.toArray Q [L.getLast hne] a w) 0 L.dropLast a0) :
    (Code.region id L.toArray true).wpIn (Fence.wide.inRound r) n P Q a0 w0 := by
  have e := List.dropLast_concat_getLast hne
  have h := wpIn_region_slotsT (id := id) (l := L.dropLast) (t := L.getLast hne) (Q := Q) (a0 := a0) (w0 := w0) (by rw [e]; exact hnd) le φ refl trans stable hm htg (by rw [e]; exact hF) (by rw [e, List.length_dropLast]; exact hc) (by rw [e]; exact hD) (by rw [e]; exact steps) (fun w hw => by rw [e]; exact fin w hw)
  rw [e] at h
  exact h

theorem wp_region_slotsT_any {l : List Oper} {t : Oper} (hops : ops = (l ++ [t]).toArray) (htg : t.guard = none) (hF : fwdOk ops = true) (hc : chainB ops l.length = true) (trans : ∀ {x y z}, le x y → le y z → le x z) (stable : ∀ j v x y, le x y → φ j v x → φ j v y) (hD : dstsOk ops a0.tmps.size = true)
    (steps : ∀ i o, i < l.length → ops[i]? = some o → StepOk P ops Q le φ a0 w0 i o)
    (fin : ∀ w, le w0 w → FinAll φ w (fun a => wpList P ops Q [t] a w) 0 l a0) :
    ∀ (fuel : Nat) (listed : Array Bool) (a : Act) (w : World), Inv ops le φ a0 w0 listed a w → listed.getD l.length true = false → (List.range ops.size).countP (fun i => !listed.getD i true) ≤ fuel → wpAny P .any ops Q fuel listed a w
  | 0, listed, a, w, I, hu, hcnt => by
    have hlt : l.length < ops.size := by rw [hops]; simp
    have : 0 < (List.range ops.size).countP (fun i => !listed.getD i true) := List.countP_pos_iff.2 ⟨l.length, List.mem_range.2 hlt, by simp only [hu, Bool.not_false]⟩
    omega
  | fuel + 1, listed, a, w, I, hu, hcnt => by
    have hlt : l.length < ops.size := by rw [hops]; simp
    have ht : ops[l.length]? = some t := by rw [hops]; simp
    have hne : Region.ready .any ops listed ≠ [] := fun e => by
      have h1 := all_listed hF I.size e (l.length + 1) l.length (Nat.lt_succ_self _) hlt
      rw [getD_true_false (by rw [I.size]; exact hlt) hu] at h1
      cases h1
    refine ⟨fun h => absurd h hne, fun i hi => ?_⟩
    obtain ⟨hn, o, ho, _⟩ := mem_ready.1 hi
    have hilt : i < ops.size := (Array.getElem?_eq_some_iff.1 ho).1
    by_cases him : i = l.length
    · subst him
      rw [ht] at ho; cases ho
      have hall : ∀ j, j < l.length → listed.getD j false = true := fun j hj => I.last hc hi l.length j (by omega) hj
      have hidx : ∀ j o, l[j]? = some o → ops[j]? = some o := fun j o hj => by
        rw [hops, List.getElem?_toArray, List.getElem?_append_left (List.getElem?_eq_some_iff.1 hj).1]; exact hj
      have hf := finAll_take (fun d => a.eval (.tmp d)) l 0 a0 (fin w I.le) (fun j o d hj hd => by
        rw [Nat.zero_add]
        exact I.done j d (by unfold dstAt; rw [hidx j o hj]; exact hd) (hall j (List.getElem?_eq_some_iff.1 hj).1))
      have hin : ∀ o ∈ l, ∀ d, o.dst = some d → d < a0.tmps.size := by
        intro o ho d hd
        obtain ⟨j, hj⟩ := List.getElem?_of_mem ho
        have hj' := hidx j o hj
        unfold dstsOk at hD
        rw [List.all_eq_true] at hD
        have := hD j (List.mem_range.2 (Array.getElem?_eq_some_iff.1 hj').1)
        have e : dstAt ops j = some d := by unfold dstAt; rw [hj']; exact hd
        rw [e] at this
        simp only [Bool.and_eq_true, decide_eq_true_eq] at this
        exact this.1
      have hs := putAll_size (fun d => a.eval (.tmp d)) l a0
      have hpa : putAll a0 l (fun d => a.eval (.tmp d)) = a := by
        refine act_ext (hs.1.trans I.tmps.symm) (hs.2.trans I.defers.symm) fun k => ?_
        rw [putAll_get _ _ _ _ hin]
        split
        · rfl
        · rename_i h
          refine (I.rest k fun j hj hd => h ?_).symm
          rw [List.any_eq_true]
          have hjl : j ≠ l.length := fun e => by
            subst e
            rw [getD_true_false (by rw [I.size]; exact hlt) hu] at hj
            cases hj
          unfold dstAt at hd
          cases ho : ops[j]? with
          | none => rw [ho] at hd; cases hd
          | some o =>
            rw [ho] at hd
            have hj2 : j < ops.size := (Array.getElem?_eq_some_iff.1 ho).1
            have hjlt : j < l.length := by have : ops.size = l.length + 1 := by rw [hops]; simp
                                           omega
            refine ⟨o, ?_, by simpa using hd⟩
            rw [hops, List.getElem?_toArray, List.getElem?_append_left hjlt] at ho
            exact List.mem_of_getElem? ho
      rw [hpa] at hf
      have hd : Region.ready .any ops (listed.setIfInBounds l.length true) = [] := ready_done I.size (by rw [hops]; simp) hall
      have hw : Region.wanted t (yielded ops a.tmps) = true := wanted_no htg
      unfold wpOp
      simp only [ht]
      have hfin : ∀ (a' : Act) (w' : World), Q .normal a' w' → wpAny P .any ops Q fuel (listed.setIfInBounds l.length true) a' w' := fun a' w' h' => by
        cases fuel with
        | zero => exact ⟨hd, h'⟩
        | succ f => exact ⟨fun _ => h', fun j hj => by rw [hd] at hj; cases hj⟩
      unfold wpList at hf
      rw [if_pos hw] at hf ⊢
      exact hf.imp (fun h => Oper.wp_mono (fun a' w' h' => hfin a' w' h') h) id
    · have hs := steps i o (by have : ops.size = l.length + 1 := by rw [hops]; simp
                               omega) ho a w (fun a' w' => wpAny P .any ops Q fuel (listed.setIfInBounds i true) a' w') (I.now hi)
        (fun v w' hw hv => wp_region_slotsT_any hops htg hF hc trans stable hD steps fin fuel _ _ _ (I.step trans stable hD hi ho hw (fun _ _ => hv)) (by rw [getD_set_ne true him]; exact hu) (by
          have hlt' : i < listed.size := by rw [I.size]; exact hilt
          have h1 : (List.range ops.size).countP (fun j => !(listed.setIfInBounds i true).getD j true) < (List.range ops.size).countP (fun i => !listed.getD i true) := by
            refine countP_lt (i := i) (List.mem_range.2 hilt) ?_ ?_ ?_
            · intro j _ hj
              by_cases hji : j = i
              · subst hji; rw [hn]; rfl
              · rw [getD_set_ne true (Ne.symm hji)] at hj; exact hj
            · rw [hn]; rfl
            · simp [Array.getD_eq_getD_getElem?, Array.getElem?_setIfInBounds_self_of_lt hlt']
          omega))
      unfold wpOp
      rw [ho]
      simp only
      split
      · rename_i hw; rw [if_pos hw] at hs; exact .inl hs
      · rename_i hw; rw [if_neg hw] at hs; exact hs

/-- The law. -/
theorem wp_region_slotsT {id : Nat} {l : List Oper} {t : Oper} (le : World → World → Prop) (φ : Nat → Value → World → Prop) (refl : ∀ x, le x x) (trans : ∀ {x y z}, le x y → le y z → le x z) (stable : ∀ j v x y, le x y → φ j v x → φ j v y)
    (hm : P.follows .mixedOrders = true) (htg : t.guard = none) (hF : fwdOk (l ++ [t]).toArray = true) (hc : chainB (l ++ [t]).toArray l.length = true) (hD : dstsOk (l ++ [t]).toArray a0.tmps.size = true)
    (steps : StepsOk P (l ++ [t]).toArray Q le φ a0 w0.drew 0 l)
    (fin : ∀ w, le w0.drew w → FinAll φ w (fun a => wpList P (l ++ [t]).toArray Q [t] a w) 0 l a0) :
    (Code.region id (l ++ [t]).toArray true).wp P Q a0 w0 := by
  refine wp_region_any hm ?_
  refine wp_region_slotsT_any (le := le) (φ := φ) (a0 := a0) (w0 := w0.drew) rfl htg hF hc trans stable hD (fun i o hi ho => ?_) fin _ _ _ _ ?_ ?_ ?_
  · have hl : l[i]? = some o := by rw [List.getElem?_toArray, List.getElem?_append_left hi] at ho; exact ho
    have := stepsOk_at l 0 steps i o hl
    rwa [Nat.zero_add] at this
  · refine ⟨by simp, refl _, rfl, rfl, ?_, ?_, fun k _ => rfl⟩
    · intro j o _ hl
      simp only [Array.getD_eq_getD_getElem?, Array.getElem?_replicate] at hl
      split at hl <;> cases hl
    · intro j d _ hl
      simp only [Array.getD_eq_getD_getElem?, Array.getElem?_replicate] at hl
      split at hl <;> cases hl
  · simp [Array.getD_eq_getD_getElem?]
  · have := List.countP_le_length (p := fun i => !(Array.replicate (l ++ [t]).toArray.size false).getD i true) (l := List.range (l ++ [t]).toArray.size)
    simpa using this
/-- At a list that is written out. -/
theorem wp_region_slotsTL {id : Nat} {L : List Oper} (hne : L ≠ []) (le : World → World → Prop) (φ : Nat → Value → World → Prop) (refl : ∀ x, le x x) (trans : ∀ {x y z}, le x y → le y z → le x z) (stable : ∀ j v x y, le x y → φ j v x → φ j v y)
    (hm : P.follows .mixedOrders = true) (htg : (L.getLast hne).guard = none) (hF : fwdOk L.toArray = true) (hc : chainB L.toArray (L.length - 1) = true) (hD : dstsOk L.toArray a0.tmps.size = true)
    (steps : StepsOk P L.toArray Q le φ a0 w0.drew 0 L.dropLast)
    (fin : ∀ w, le w0.drew w → FinAll φ w (fun a => wpList P L.toArray Q [L.getLast hne] a w) 0 L.dropLast a0) :
    (Code.region id L.toArray true).wp P Q a0 w0 := by
  have e := List.dropLast_concat_getLast hne
  have h := wp_region_slotsT (id := id) (l := L.dropLast) (t := L.getLast hne) (Q := Q) (a0 := a0) (w0 := w0) le φ refl trans stable hm htg (by rw [e]; exact hF) (by rw [e, List.length_dropLast]; exact hc) (by rw [e]; exact hD) (by rw [e]; exact steps) (fun w hw => by rw [e]; exact fin w hw)
  rw [e] at h
  exact h
end
end Go.Proofs.Ytdodamkndigjkaa

/- An array of 255 bytes, filled from its head on by appends; a part of a slice of bytes. -/
namespace Go.Proofs.Ytdodamkndigjkaa
open Go.RowKit Go.Shelf

theorem readB_src {P : Program} {tx e : TypeId} (hk : P.underlying tx = some (.slice e)) {v : Value} {l : List UInt8} {W : World} (h : ReadB v l W) : Src P 1 tx v l.length (l.map encB) W := by
  obtain ⟨ao, cap, rfl, hc⟩ := h.form
  cases ao with
  | none =>
    have hn : l = [] := by
      cases l with
      | nil => rfl
      | cons a l2 => obtain ⟨_, _, e, _⟩ := hc 0 (by simp); cases e
    subst hn
    exact Src.ofNil W hk cap
  | some ad =>
    refine Src.ofSlice W hk ad l.length cap _ (by simp) (fun j u hj => ?_) (fun u hu => by obtain ⟨x, _, rfl⟩ := List.mem_map.1 hu; rfl)
    rw [List.getElem?_map] at hj
    obtain ⟨y, hy, rfl⟩ := Option.map_eq_some_iff.1 hj
    obtain ⟨hj', rfl⟩ := List.getElem?_eq_some_iff.1 hy
    obtain ⟨b, off, e, c⟩ := hc j hj'
    cases e
    have e2 : (⟨b, off, none⟩ : Addr).add j = ⟨b, off + j, none⟩ := by unfold Addr.add; split <;> simp_all
    rw [e2]; exact c

/-- A block of 255 cells, whose first ones are l. -/
structure Room (B : Nat) (l : List UInt8) (W : World) : Prop where
  cells : ∀ (j : Nat) (h : j < l.length), W.cell? ⟨B, 0 + j, none⟩ = some (encB l[j])
  there : ∀ j, j < 255 → (W.cell? ⟨B, j, none⟩).isSome = true ∧ W.frozen? ⟨B, j, none⟩ = false
theorem Room.lt {B : Nat} {l : List UInt8} {W : World} (h : Room B l W) : B < W.heap.size := by
  obtain ⟨u, hu⟩ := Option.isSome_iff_exists.1 (h.there 0 (by omega)).1
  exact cell_lt hu
theorem Room.below {B : Nat} {l : List UInt8} {W W' : World} (h : Room B l W) (hb : Below W.heap.size W W') : Room B l W' :=
  ⟨fun j hj => (hb.cell (p := ⟨B, 0 + j, none⟩) h.lt).trans (h.cells j hj), fun j hj => by rw [hb.cell (p := ⟨B, j, none⟩) h.lt, hb.frozen (p := ⟨B, j, none⟩) h.lt]; exact h.there j hj⟩
theorem Room.read {B : Nat} {l : List UInt8} {W : World} (h : Room B l W) : ReadB (.slice (some ⟨B, 0, none⟩) l.length 255) l W :=
  ⟨some ⟨B, 0, none⟩, 255, rfl, fun j hj => ⟨B, 0, rfl, h.cells j hj⟩⟩
theorem below_setCells (W : World) (B o : Nat) (vs : List Value) : Below B W (W.setCells B o vs) := by
  induction vs generalizing o W with
  | nil => exact Below.refl _ _
  | cons v r ih =>
    exact (((Below.refl B W).setCell (p := ⟨B, o, none⟩) (Nat.le_refl _) v)).trans (ih _ (o + 1))

theorem grown_setCells (W : World) (B o : Nat) (vs : List Value) : W.grownBy (W.setCells B o vs) (some B) := by
  induction vs generalizing o W with
  | nil => exact ⟨rfl, rfl, rfl, Nat.le_refl _, fun _ _ _ => rfl⟩
  | cons v r ih =>
    have h1 := ih (W.setCell ⟨B, o, none⟩ v) (o + 1)
    have h2 : (W.setCell ⟨B, o, none⟩ v).heap.size = W.heap.size := by simp [World.setCell]
    exact ⟨h1.os, h1.tape, h1.output, by rw [← h2]; exact h1.size, fun k hk hne => (h1.block k (by rw [h2]; exact hk) hne).trans (Below.heap_setCell W ⟨B, o, none⟩ v k (fun e => hne (by rw [e])))⟩

theorem run_room {P : Program} (W : World) (t ty e : TypeId) (i : TypeInfo) (h1 : P.underlying t = some (.slice e)) (h2 : P.info? e = some i) (hz : i.size = 1) {B : Nat} {l news : List UInt8} (hr : Room B l W) {x : Value} (hx : ReadB x news W) (hb : l.length + news.length ≤ 255) :
    ∃ W', (Builtin.append_ #[t, t] ty #[.slice (some ⟨B, 0, none⟩) l.length 255, x]).run P W = .ok (.slice (some ⟨B, 0, none⟩) (l.length + news.length) 255) W' ∧ Room B (l ++ news) W' ∧ Below B W W' ∧ W.grownBy W' (some B) := by
  have hs := readB_src (tx := t) h1 hx
  have hlm : (news.map encB).length = news.length := List.length_map _
  have hrun := run_append_room_src (P := P) W t t ty e i h1 h2 B 0 l.length 255 x news.length (news.map encB) (by rw [hz]; exact hs) hb
    (fun j hj => by rw [hz, Nat.mul_one, Nat.zero_add]; exact (hr.there _ (by omega)).1) (fun j hj => by rw [hz, Nat.mul_one, Nat.zero_add]; exact (hr.there _ (by omega)).2)
  rw [hz, Nat.mul_one, Nat.zero_add] at hrun
  refine ⟨_, hrun, ⟨fun j hj => ?_, fun j hj => ⟨?_, ?_⟩⟩, below_setCells W B _ _, grown_setCells W B _ _⟩
  · rw [List.length_append] at hj
    by_cases hjl : j < l.length
    · rw [World.cell?_setCells_out B _ _ _ _ (fun _ _ => .inl (by show 0 + j < _; omega)), hr.cells j hjl, List.getElem_append_left hjl]
    · have := World.cell?_setCells_in B (news.map encB) l.length W (fun k hk => (hr.there _ (by omega)).1) (j - l.length) (by omega)
      rw [show 0 + j = l.length + (j - l.length) by omega, this, List.getElem_map, List.getElem_append_right (by omega)]
  · exact World.isSome_setCells B _ _ _ _ (hr.there j hj).1
  · rw [World.frozen?_setCells]; exact (hr.there j hj).2

theorem wpList_room {P : Program} (w : World) {ops : Array Oper} {rest : List Oper} {o : Oper} {a : Act} {Q : Exit → Act → World → Prop} (hg : o.guard = none) (s x : Operand) (t : TypeId)
    (hop : o.op = Op.call { callee := Callee.builtin Builtin.append, args := #[s, x], argTypes := #[t, t] })
    (e : TypeId) (i : TypeInfo) (h1 : P.underlying t = some (.slice e)) (h2 : P.info? e = some i) (hz : i.size = 1) (B : Nat) (l news : List UInt8) (hr : Room B l w) (hs : a.eval s = .slice (some ⟨B, 0, none⟩) l.length 255)
    (xv : Value) (hx : a.eval x = xv) (hxr : ReadB xv news w) (hb : l.length + news.length ≤ 255)
    (hK : ∀ w', Room B (l ++ news) w' → Below B w w' → w.grownBy w' (some B) → wpList P ops Q rest (a.put o.dst (.slice (some ⟨B, 0, none⟩) (l.length + news.length) 255)) w') :
    wpList P ops Q (o :: rest) a w := by
  refine wpList_plain hg fun K hK' => ?_
  obtain ⟨w', hrun, r1, r2, r3⟩ := run_room (P := P) w t o.type e i h1 h2 hz hr hxr hb
  unfold Oper.wp
  simp [execOp, hop, resolve, invoke, builtin, hs, hx, hrun, Result.andThen]
  exact hK' _ _ (hK w' r1 r2 r3)

theorem step_room {P : Program} {ops : Array Oper} {o : Oper} {a : Act} {w : World} {K : Act → World → Prop} {Q : Exit → Act → World → Prop} {E : Prop}
    (hg : o.guard = none) (s x : Operand) (t : TypeId) (hop : o.op = Op.call { callee := Callee.builtin Builtin.append, args := #[s, x], argTypes := #[t, t] })
    (e : TypeId) (i : TypeInfo) (h1 : P.underlying t = some (.slice e)) (h2 : P.info? e = some i) (hz : i.size = 1) (B : Nat) (l news : List UInt8) (hr : Room B l w) (hs : a.eval s = .slice (some ⟨B, 0, none⟩) l.length 255)
    (xv : Value) (hx : a.eval x = xv) (hxr : ReadB xv news w) (hb : l.length + news.length ≤ 255)
    (hK : ∀ w', Room B (l ++ news) w' → Below B w w' → w.grownBy w' (some B) → K (a.put o.dst (.slice (some ⟨B, 0, none⟩) (l.length + news.length) 255)) w') :
    if Region.wanted o (yielded ops a.tmps) = true then Oper.wp P o a w K Q else E := by
  have hw : Region.wanted o (yielded ops a.tmps) = true := by simp [Region.wanted, hg]
  rw [if_pos hw]
  obtain ⟨w', hrun, r1, r2, r3⟩ := run_room (P := P) w t o.type e i h1 h2 hz hr hxr hb
  unfold Oper.wp
  simp [execOp, hop, resolve, invoke, builtin, hs, hx, hrun, Result.andThen]
  exact hK w' r1 r2 r3

/-- string(b) of what is read behind an address. -/
theorem run_read_str {v : Value} {l : List UInt8} {W : World} (h : ReadB v l W) : (convert 22 9 v).run Try.prog W = .ok (.string ⟨l.toArray⟩) W := by
  by_cases hne : l = []
  · subst hne
    obtain ⟨ao, cap, rfl, hc⟩ := h.form
    cases ao with
    | none =>
      simp [convert, run_underlying, Try.underlying22, Try.underlying5, Try.underlying9, go_sem, Conv.bytesToString]
      rfl
    | some ad =>
      exact run_convert_bytes_back (P := Try.prog) W 22 9 5 ad cap [] Try.underlying22 Try.underlying5 Try.underlying9 (fun j hj => by simp at hj)
  · exact run_arg_str h hne

/-- b[p:e] of what is read. -/
theorem run_part {v : Value} {l : List UInt8} {W : World} (h : ReadB v l W) (hcap : ∀ ao n c, v = .slice ao n c → n ≤ c) {p e : Nat} (hpe : p ≤ e) (he : e ≤ l.length) :
    ∃ v', (∀ W, (Instr.slice 22 v (some (.int .i64 (p : Int))) (some (.int .i64 (e : Int))) none).run Try.prog W = .ok v' W) ∧ ReadB v' ((l.drop p).take (e - p)) W := by
  have hu : Try.prog.underlying 22 = some (.slice (Try.prog.elem 22)) := by kernel_rfl
  have hs : ∀ W, (sizeOf (Try.prog.elem 22)).run Try.prog W = .ok 1 W := fun W => by
    obtain ⟨i, hi, _, h1, _⟩ := info_parts infoByte
    have he : Try.prog.elem 22 = 5 := by kernel_rfl
    rw [he]
    simp [sizeOf, typeInfo, hi, h1]
  obtain ⟨ao, cap, rfl, hc⟩ := h.form
  have hcap' := hcap _ _ _ rfl
  refine ⟨sliced ao p e cap 1, fun W => by rw [run_slice_lh (w := W) 22 ao l.length cap hu .i64 .i64 (p : Int) (e : Int) (by omega) (by omega) (by omega), hs W]; rfl, ?_⟩
  have hlen : ((l.drop p).take (e - p)).length = e - p := by rw [List.length_take, List.length_drop]; omega
  refine ⟨if cap = p then ao else ao.map (·.add (p * 1)), cap - p, by unfold sliced; rw [hlen], fun j hj => ?_⟩
  rw [hlen] at hj
  obtain ⟨b, off, e', c⟩ := hc (p + j) (by omega)
  subst e'
  refine ⟨b, off + p, ?_, ?_⟩
  · rw [if_neg (by omega)]
    simp only [Option.map_some, Nat.mul_one, Option.some.injEq]
    unfold Addr.add; split <;> simp_all
  · rw [show off + p + j = off + (p + j) by omega, c]
    simp [List.getElem_take, List.getElem_drop]
end Go.Proofs.Ytdodamkndigjkaa

/- What two names have in common, label by label. -/
namespace Go.Proofs.Ytdodamkndigjkaa.Nm

theorem valid_made {ls : List (List UInt8)} (g : good ls) (h : (made ls).length ≤ 255) : valid (made ls) = true := by
  unfold valid; rw [labs_iff.2 ⟨rfl, g, h⟩]; rfl
theorem labsD_of_made {ls : List (List UInt8)} (g : good ls) (h : (made ls).length ≤ 255) : labsD (made ls) = ls := by
  unfold labsD; rw [labs_iff.2 ⟨rfl, g, h⟩]; rfl
/-- The first part of a that b ends in. -/
def commonL (b : List (List UInt8)) : List (List UInt8) → List (List UInt8)
  | [] => []
  | l :: ls => if (l :: ls).map folded <:+ b.map folded then l :: ls else commonL b ls
theorem find_places {a b : List UInt8} (hb : valid b = true) {p q : List (List UInt8)} (h : a = made (p ++ q)) (g : good (p ++ q)) (hl : a.length ≤ 255) :
    (match (posOf (encL p) q).find? (fun k => under b (a.drop k)) with | some k => a.drop k | none => [0]) = made (commonL (labsD b) q) := by
  induction q generalizing p with
  | nil => rfl
  | cons l q ih =>
    have h' : a = made ((p ++ [l]) ++ q) := by simpa using h
    have g' : good ((p ++ [l]) ++ q) := by simpa using g
    have i := ih h' g'
    rw [encL_append] at i
    simp only [encL, Nat.add_zero] at i
    have hd := at_rest h
    have gq := good_suffix g
    have hlq : (made (l :: q)).length ≤ 255 := by rw [← hd, List.length_drop]; omega
    have hu : under b (a.drop (encL p)) = decide ((l :: q).map folded <:+ (labsD b).map folded) := by
      rw [hd, under_valid hb (valid_made gq hlq), labsD_of_made gq hlq]
    rw [posOf, List.find?_cons, hu]
    by_cases hs : (l :: q).map folded <:+ (labsD b).map folded
    · rw [decide_eq_true hs, commonL, if_pos hs]
      exact hd
    · rw [decide_eq_false hs, commonL, if_neg hs]
      exact i
theorem commonC_valid {a b : List UInt8} (ha : valid a = true) (hb : valid b = true) : commonC a b = made (commonL (labsD b) (labsD a)) := by
  obtain ⟨_, e, g, hl⟩ := labs_of_valid ha
  have := find_places hb (a := a) (p := []) (q := labsD a) e g hl
  simp only [encL] at this
  exact this
theorem commonL_self (a : List (List UInt8)) : commonL a a = a := by
  cases a with
  | nil => rfl
  | cons l a => rw [commonL, if_pos (List.suffix_refl _)]
theorem commonL_suffix {a b : List (List UInt8)} (h : a.map folded <:+ b.map folded) : commonL b a = a := by
  cases a with
  | nil => rfl
  | cons l a => rw [commonL, if_pos h]
theorem commonL_app (more a : List (List UInt8)) : commonL a (more ++ a) = a := by
  induction more with
  | nil => exact commonL_self a
  | cons l more ih =>
    rw [List.cons_append, commonL, if_neg, ih]
    intro h
    have := h.length_le
    simp at this
    omega
/-- Labels put ahead. -/
theorem ahead {n o : List UInt8} {more : List (List UInt8)} (hn : valid n = true) (ho : join (more ++ labsD n) = some o) :
    valid o = true ∧ labsD o = more ++ labsD n ∧ o.length ≤ 255 ∧ under o n = true ∧ commonC o n = n ∧ commonC n o = n ∧ under n o = decide (more = []) ∧ (more ≠ [] → less n o = true ∧ under (parent o) n = true) := by
  obtain ⟨eo, go', lo⟩ := join_some.1 ho
  obtain ⟨_, en, gn, ln⟩ := labs_of_valid hn
  have hv : valid o = true := by rw [eo] at lo ⊢; exact valid_made go' lo
  have hd : labsD o = more ++ labsD n := by rw [eo] at lo ⊢; exact labsD_of_made go' lo
  have hu : under o n = true := by
    rw [under_valid hv hn, hd, decide_eq_true_eq, List.map_append]
    exact List.suffix_append _ _
  refine ⟨hv, hd, lo, hu, ?_, ?_, ?_, fun hm => ⟨?_, ?_⟩⟩
  · rw [commonC_valid hv hn, hd, commonL_app, ← en]
  · rw [commonC_valid hn hv, commonL_suffix, ← en]
    rw [hd, List.map_append]
    exact List.suffix_append _ _
  · rw [under_valid hn hv, hd, Bool.eq_iff_iff, decide_eq_true_eq, decide_eq_true_eq]
    constructor
    · intro h
      have := h.length_le
      simp at this
      exact List.length_eq_zero_iff.1 (by omega)
    · rintro rfl
      exact List.suffix_refl _
  · rcases order_under hv hn hu with h | h
    · rw [same_valid hv hn, hd, decide_eq_true_eq] at h
      have := congrArg List.length h
      simp at this
      exact absurd this hm
    · exact h
  · cases more with
    | nil => exact absurd rfl hm
    | cons m ms =>
      have gp : good (ms ++ labsD n) := fun x hx => go' x (by rw [List.cons_append]; exact List.mem_cons_of_mem _ hx)
      have lp : (made (ms ++ labsD n)).length ≤ 255 := by
        have : (made (m :: (ms ++ labsD n))).length ≤ 255 := by rw [List.cons_append] at eo; rw [← eo]; exact lo
        rw [made_length] at this ⊢
        simp only [encL] at this
        omega
      have ep : parent o = made (ms ++ labsD n) := by unfold parent; rw [hd]; rfl
      rw [ep, under_valid (valid_made gp lp) hn, labsD_of_made gp lp, decide_eq_true_eq, List.map_append]
      exact List.suffix_append _ _
theorem parent_le (n : List UInt8) : (parent n).length ≤ n.length + 1 := by
  cases h : labsD n with
  | nil => rw [parent_nil h]; simp
  | cons l ls =>
    obtain ⟨_, _, _, e⟩ := parent_cons h
    rw [e, List.length_drop]; omega
end Go.Proofs.Ytdodamkndigjkaa.Nm
