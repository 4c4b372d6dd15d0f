/- 3 texts put together: QuietRound, SlotsIn, Tail. -/
import Derived.Sort.BigQuietIn
import Derived.Below
import Derived.RangeFuncCalls
import Derived.StillTail
import Derived.Test.YtchlemajppnehaaJW16
/- A region that draws its order, in a round of a loop over a function, whose operations only read: one walk in the order of the text serves every order. -/
namespace Go.Proofs.Ytchlemajppnehaa
open Go
section
variable {F : Fence} {n : Nat} {P : Program} {ops : Array Oper} {md : Region.Mode} {C : World → Prop}

/-- No operation of the list is a defer statement. -/
def noDefer (ops : Array Oper) : Bool := ops.all fun o => match o.op with | .defer _ => false | _ => true

theorem noDefer_spec (h : noDefer ops = true) {i : Nat} {o : Oper} (hi : ops[i]? = some o) : ∀ c, o.op ≠ .defer c := by
  intro c hc
  unfold noDefer at h
  rw [Array.all_eq_true'] at h
  have := h o (Array.mem_of_getElem? hi)
  rw [hc] at this
  cases this

theorem wpIn_of_quiet_r {o : Oper} {a : Act} {K : Act → Prop} {K' : Act → World → Prop} {Q' : Exit → Act → World → Prop} {w : World} (hnd : ∀ c, o.op ≠ .defer c) (hw : C w) (h : ∀ a w', C w' → K a → K' a w')
    (ha : o.askedIn F P a C) (hh : o.quietIn F n P a C K) : o.wpIn F n P a w K' Q' := by
  obtain ⟨v, h1, h2⟩ := hh
  have h3 := h1 w hw
  unfold Oper.quietAtIn at h3
  unfold Oper.wpIn
  refine ⟨ha w hw, ?_⟩
  rw [Oper.semAt_eq _ _ _ hnd]
  generalize (execOp a.eval o).run P w = r at *
  cases r with
  | ok x w' =>
    cases x <;> simp only [Oper.quietUponIn] at h3 <;> simp only [Oper.uponIn]
    case value u =>
      obtain ⟨e1, e2⟩ := h3
      rw [e1, e2]
      exact h _ _ hw h2
    case skip =>
      obtain ⟨e1, e2⟩ := h3
      rw [e1, ← e2]
      exact h _ _ hw h2
    case enter f args =>
      obtain ⟨e1, hd, hc⟩ := h3
      rw [e1]
      exact ⟨hd, hc.mono fun e w'' ⟨he, hw''⟩ => by subst he; exact h _ _ hw'' h2⟩
  | halt x w' => simp only [Oper.quietUponIn] at h3

theorem wpOpIn_of_qOpIn_r {i : Nat} {a : Act} {K : Act → Prop} {K' : Act → World → Prop} {Q' : Exit → Act → World → Prop} {w : World} (hnd : noDefer ops = true) (hC : C w) (h : ∀ a w', C w' → K a → K' a w')
    (hh : qOpIn F n P ops C i K a) : wpOpIn F n P ops Q' i K' a w := by
  unfold qOpIn at hh
  unfold wpOpIn
  split
  · rename_i ho; simp only [ho] at hh; exact h _ _ hC hh
  · rename_i o ho
    simp only [ho] at hh
    obtain ⟨ha, hh⟩ := hh
    split
    · rename_i hw; simp only [hw, if_true] at hh; exact wpIn_of_quiet_r (noDefer_spec hnd ho) hC h ha hh
    · rename_i hw; simp only [hw] at hh; exact ⟨ha w hC, h _ _ hC hh⟩

theorem wpAnyIn_of_quiet_r {Q : Act → Prop} {Q' : Exit → Act → World → Prop} (hnd : noDefer ops = true) (hQ : ∀ a w, C w → Q a → Q' .normal a w) : ∀ (fuel : Nat) (listed : Array Bool) (a : Act) (w : World), C w →
    wpAnyQIn F n P md ops C Q fuel listed a → wpAnyIn F n P md ops Q' fuel listed a w
  | 0, _, _, _, hw, h => ⟨h.1, hQ _ _ hw h.2⟩
  | fuel + 1, _, _, _, hw, h => ⟨fun h0 => hQ _ _ hw (h.1 h0), fun i hi => wpOpIn_of_qOpIn_r hnd hw (fun a' w' hw' => wpAnyIn_of_quiet_r hnd hQ fuel _ a' w' hw') (h.2 i hi)⟩

theorem wpIn_region_quiet_r {id : Nat} {Q : Exit → Act → World → Prop} {a : Act} {w : World} (hnd : noDefer ops = true) (hm : P.follows .mixedOrders = true) (hB : Region.lexB .any ops = true) (hC : C { w with drawn := w.drawn + 1 })
    (h : wpQuietIn F n P ops C (fun a' => ∀ w', C w' → Q .normal a' w') ops.toList a) : (Code.region id ops true).wpIn F n P Q a w := by
  simp only [Region.lexB, Bool.and_eq_true] at hB
  refine wpIn_region_any hm (wpAnyIn_of_quiet_r (Q := fun a' => ∀ w', C w' → Q .normal a' w') hnd (fun _ w' hw' h => h w' hw') _ _ _ _ hC ?_)
  have := wpAnyQIn_lex (F := F) (n := n) (C := C) (md := .any) hB.1 ops.toList 0 (Array.replicate ops.size false) a (by simp) (by simpa using hB.2) h
  simpa using this

/-- At the class: some draws. -/
theorem wpIn_region_quiet_rlit {id : Nat} {Q : Exit → Act → World → Prop} {a : Act} {w : World} {l : List Oper} (hnd : noDefer l.toArray = true) (hm : P.follows .mixedOrders = true) (hB : Region.lexB .any l.toArray = true)
    (h : wpQuietIn F n P l.toArray (fun w' => ∃ n, w' = w.drewN n) (fun a' => ∀ w', (∃ n, w' = w.drewN n) → Q .normal a' w') l a) : (Code.region id l.toArray true).wpIn F n P Q a w :=
  wpIn_region_quiet_r (C := fun w' => ∃ n, w' = w.drewN n) hnd hm hB ⟨1, rfl⟩ (by simpa using h)
/-- At whatever class. -/
theorem wpIn_region_class {id : Nat} {Q : Exit → Act → World → Prop} {a : Act} {w : World} {l : List Oper} (C : World → Prop) (hnd : noDefer l.toArray = true) (hm : P.follows .mixedOrders = true) (hB : Region.lexB .any l.toArray = true) (hC : C w.drew)
    (h : wpQuietIn F n P l.toArray C (fun a' => ∀ w', C w' → Q .normal a' w') l a) : (Code.region id l.toArray true).wpIn F n P Q a w :=
  wpIn_region_quiet_r (C := C) hnd hm hB hC (by simpa using h)
end

/-- A world that has grown out of W: what lay in W lies as it lay. -/
structure Grew (W : World) : Type where
  w : World
  below : RowKit.Below W.heap.size W w

instance Grew.some_world (W : World) : Nonempty (Grew W) := ⟨⟨W, RowKit.Below.refl _ W⟩⟩
theorem Grew.cell {W : World} {a : Addr} {v : Value} (h : W.cell? a = some v) (i : Grew W) : i.w.cell? a = some v := by
  have hl : a.block < W.heap.size := by
    rcases Nat.lt_or_ge a.block W.heap.size with h' | h'
    · exact h'
    · simp [World.cell?, Array.getElem?_eq_none h'] at h
  exact (i.below.cell hl).trans h
theorem Grew.calls {F : Fence} {n : Nat} {P : Program} {f : FuncId} {args : Array Value} {W : World} (i : Grew W) (v : Value) (h : CallsIn F n P f args i.w fun e w' => e = .returned v ∧ RowKit.Below i.w.heap.size i.w w') :
    CallsIn F n P f args i.w fun e w'' => e = .returned v ∧ ∃ j : Grew W, w'' = j.w :=
  h.mono fun _ _ ⟨he, hb⟩ => ⟨he, ⟨_, i.below.trans (hb.mono i.below.size)⟩, rfl⟩
theorem wpIn_region_grew {F : Fence} {n : Nat} {P : Program} {id : Nat} {Q : Exit → Act → World → Prop} {a : Act} {W : World} {l : List Oper} (hnd : noDefer l.toArray = true) (hm : P.follows .mixedOrders = true) (hB : Region.lexB .any l.toArray = true)
    (h : wpQuietIn F n P l.toArray (fun w' => ∃ i : Grew W, w' = i.w) (fun a' => ∀ w', (∃ i : Grew W, w' = i.w) → Q .normal a' w') l a) : (Code.region id l.toArray true).wpIn F n P Q a W :=
  wpIn_region_class (fun w' => ∃ i : Grew W, w' = i.w) hnd hm hB ⟨⟨W.drew, (RowKit.Below.refl _ W).drew⟩, rfl⟩ h
end Go.Proofs.Ytchlemajppnehaa

/- The law of slots in a round of a range over a function. -/
namespace Go.Proofs.Ytchlemajppnehaa
open Go

theorem rowsIn_wide {l n : Nat} {P : Program} {row : String} {args : Array Value} {w : World} {R : Value → World → Prop} (h : Rows P row args w R) : RowsIn (Fence.wide.inRound l) n P row args w R := by
  intro c cs _
  obtain ⟨v, w', r, s⟩ := h c cs
  exact ⟨v, w', r, (stepsIn_wide (P := P)).2 s⟩
theorem wpIn_of_wp {l n : Nat} {P : Program} {o : Oper} {a : Act} {w : World} {K : Act → World → Prop} {Q : Exit → Act → World → Prop} (hd : ∀ c, o.op ≠ .defer c) (h : o.wp P a w K Q) : o.wpIn (Fence.wide.inRound l) n P a w K Q := by
  refine ⟨fun _ _ => trivial, ?_⟩
  rw [Oper.semAt_eq _ _ _ hd]
  unfold Oper.wp at h
  generalize (execOp a.eval o).run P w = res at h
  cases res with
  | ok x w' =>
    cases x with
    | value v => exact h
    | skip => exact h
    | defer d => exact h
    | enter f args => exact ⟨fun e => by simp [Fence.wide] at e, CallsIn.inRound l (callsIn_wide.2 h)⟩
    | row row args => exact ⟨fun e => by simp [Fence.wide] at e, rowsIn_wide h⟩
    | _ => first | exact h.elim | exact h
  | halt x w' =>
    cases x with
    | panic v => exact h
    | _ => first | exact h.elim | exact h

theorem countP_lt {l : List Nat} {p q : Nat → Bool} {i : Nat} (hi : i ∈ l) (hpq : ∀ j ∈ l, p j = true → q j = true) (hq : q i = true) (hp : p i = false) : l.countP p < l.countP q := by
  induction l with
  | nil => cases hi
  | cons x l ih =>
    rw [List.countP_cons, List.countP_cons]
    rcases List.mem_cons.1 hi with rfl | hi
    · have := List.countP_mono_left (p := p) (q := q) (l := l) (fun j hj => hpq j (List.mem_cons_of_mem _ hj))
      rw [hq, hp]
      simp
      omega
    · have h1 := ih hi (fun j hj => hpq j (List.mem_cons_of_mem _ hj))
      have h2 := hpq x (List.mem_cons_self ..)
      cases hpx : p x <;> cases hqx : q x <;> simp_all <;> omega

section
variable {P : Program} {ops : Array Oper} {Q : Exit → Act → World → Prop} {le : World → World → Prop} {φ : Nat → Value → World → Prop} {a0 : Act} {w0 : World}
theorem wpAnyIn_of_steps {r n : Nat} (hnd : noDefer ops = true) (trans : ∀ {x y z}, le x y → le y z → le x z) (stable : ∀ j v x y, le x y → φ j v x → φ j v y) (hD : dstsOk ops a0.tmps.size = true)
    (steps : ∀ i o, ops[i]? = some o → StepOk P ops Q le φ a0 w0 i o)
    (fin : ∀ listed a w, Inv ops le φ a0 w0 listed a w → Region.ready .any ops listed = [] → Q .normal a w) :
    ∀ (fuel : Nat) (listed : Array Bool) (a : Act) (w : World), Inv ops le φ a0 w0 listed a w → (List.range ops.size).countP (fun i => !listed.getD i true) ≤ fuel → wpAnyIn (Fence.wide.inRound r) n P .any ops Q fuel listed a w
  | 0, listed, a, w, I, hc => by
    have : Region.ready .any ops listed = [] := by
      rw [List.eq_nil_iff_forall_not_mem]
      intro i hi
      obtain ⟨hn, o, ho, _⟩ := mem_ready.1 hi
      have hlt : i < ops.size := (Array.getElem?_eq_some_iff.1 ho).1
      have : 0 < (List.range ops.size).countP (fun i => !listed.getD i true) := List.countP_pos_iff.2 ⟨i, List.mem_range.2 hlt, by simp only [hn, Bool.not_false]⟩
      omega
    exact ⟨this, fin listed a w I this⟩
  | fuel + 1, listed, a, w, I, hc => by
    refine ⟨fun h => fin listed a w I h, fun i hi => ?_⟩
    obtain ⟨hn, o, ho, _⟩ := mem_ready.1 hi
    have hlt : i < ops.size := (Array.getElem?_eq_some_iff.1 ho).1
    have hs := steps i o ho a w (fun a' w' => wpAnyIn (Fence.wide.inRound r) n P .any ops Q fuel (listed.setIfInBounds i true) a' w') (I.now hi)
      (fun v w' hw hv => wpAnyIn_of_steps hnd trans stable hD steps fin fuel _ _ _ (I.step trans stable hD hi ho hw (fun _ _ => hv)) (by
        have hlt' : i < listed.size := by rw [I.size]; exact hlt
        have h1 : (List.range ops.size).countP (fun j => !(listed.setIfInBounds i true).getD j true) < (List.range ops.size).countP (fun i => !listed.getD i true) := by
          refine countP_lt (i := i) (List.mem_range.2 hlt) ?_ ?_ ?_
          · intro j _ hj
            by_cases hji : j = i
            · subst hji; rw [hn]; rfl
            · rw [getD_set_ne true (Ne.symm hji)] at hj; exact hj
          · rw [hn]; rfl
          · simp [Array.getD_eq_getD_getElem?, Array.getElem?_setIfInBounds_self_of_lt hlt']
        omega))
    unfold wpOpIn
    rw [ho]
    simp only
    split
    · rename_i hw; rw [if_pos hw] at hs; exact wpIn_of_wp (noDefer_spec hnd ho) hs
    · rename_i hw; rw [if_neg hw] at hs; exact ⟨fun _ _ => trivial, hs⟩
/-- The law. -/
theorem wpIn_region_slots {id r n : Nat} {l : List Oper} (le : World → World → Prop) (φ : Nat → Value → World → Prop) (refl : ∀ x, le x x) (trans : ∀ {x y z}, le x y → le y z → le x z) (stable : ∀ j v x y, le x y → φ j v x → φ j v y)
    (hm : P.follows .mixedOrders = true) (hnd : noDefer l.toArray = true) (hF : fwdOk l.toArray = true) (hD : dstsOk l.toArray a0.tmps.size = true)
    (steps : StepsOk P l.toArray Q le φ a0 w0.drew 0 l)
    (fin : ∀ w, le w0.drew w → FinAll φ w (fun a => Q .normal a w) 0 l a0) :
    (Code.region id l.toArray true).wpIn (Fence.wide.inRound r) n P Q a0 w0 := by
  refine wpIn_region_any hm ?_
  refine wpAnyIn_of_steps (le := le) (φ := φ) (a0 := a0) (w0 := w0.drew) hnd trans stable hD (fun i o ho => ?_) (fun listed a w I hr => ?_) _ _ _ _ ?_ ?_
  · have := stepsOk_at l 0 steps i o (by simpa using ho)
    rwa [Nat.zero_add] at this
  · have hall := fun i hi => all_listed hF I.size hr (i + 1) i (Nat.lt_succ_self i) hi
    have hf := finAll_take (fun d => a.eval (.tmp d)) l 0 a0 (fin w I.le) (fun j o d hj hd => by
      rw [Nat.zero_add]
      have hj' : l.toArray[j]? = some o := by simpa using hj
      exact I.done j d (by unfold dstAt; rw [hj']; exact hd) (hall j (Array.getElem?_eq_some_iff.1 hj').1))
    have hin : ∀ o ∈ l, ∀ d, o.dst = some d → d < a0.tmps.size := by
      intro o ho d hd
      obtain ⟨j, hj⟩ := List.getElem?_of_mem ho
      have hj' : l.toArray[j]? = some o := by simpa using hj
      unfold dstsOk at hD
      rw [List.all_eq_true] at hD
      have := hD j (List.mem_range.2 (Array.getElem?_eq_some_iff.1 hj').1)
      have e : dstAt l.toArray j = some d := by unfold dstAt; rw [hj']; exact hd
      rw [e] at this
      simp only [Bool.and_eq_true, decide_eq_true_eq] at this
      exact this.1
    have hs := putAll_size (fun d => a.eval (.tmp d)) l a0
    have : putAll a0 l (fun d => a.eval (.tmp d)) = a := by
      refine act_ext (hs.1.trans I.tmps.symm) (hs.2.trans I.defers.symm) fun k => ?_
      rw [putAll_get _ _ _ _ hin]
      split
      · rfl
      · rename_i h
        refine (I.rest k fun j hj hd => h ?_).symm
        rw [List.any_eq_true]
        unfold dstAt at hd
        cases ho : l.toArray[j]? with
        | none => rw [ho] at hd; cases hd
        | some o =>
          rw [ho] at hd
          exact ⟨o, List.mem_of_getElem? (by simpa using ho), by simpa using hd⟩
    rw [this] at hf
    exact hf
  · refine ⟨by simp, refl _, rfl, rfl, ?_, ?_, fun k _ => rfl⟩
    · intro j o _ hl
      simp only [Array.getD_eq_getD_getElem?, Array.getElem?_replicate] at hl
      split at hl <;> cases hl
    · intro j d _ hl
      simp only [Array.getD_eq_getD_getElem?, Array.getElem?_replicate] at hl
      split at hl <;> cases hl
  · have := List.countP_le_length (p := fun i => !(Array.replicate l.toArray.size false).getD i true) (l := List.range l.toArray.size)
    simpa using this
end
end Go.Proofs.Ytchlemajppnehaa

/- A region that draws its order, whose operations only read, or call what makes memory, ahead of one last operation (a store) that waits for all of them: one walk in the order of the text serves every order. -/
namespace Go.Proofs.Ytchlemajppnehaa
open Go
section
variable {F : Fence} {n : Nat} {P : Program} {md : Region.Mode} {C : World → Prop}

/-- Each operation waits for earlier ones alone. -/
def backB (md : Region.Mode) (ops : Array Oper) : Bool := (List.range ops.size).all fun k => match ops[k]? with | some o => o.after.all (fun e => !Region.binds md e || decide (e.on < k)) | none => true
/-- The operation m waits for all ahead of it. -/
def lastB (md : Region.Mode) (ops : Array Oper) (m : Nat) : Bool := match ops[m]? with | some o => (List.range m).all fun i => o.after.any fun e => Region.binds md e && e.on == i | none => false

theorem ready_ne {ops : Array Oper} {listed : Array Bool} (hb : backB md ops = true) (hs : listed.size = ops.size) {m : Nat} (hm : m < ops.size) (hu : listed.getD m true = false) : Region.ready md ops listed ≠ [] := by
  have key : ∀ k, k < ops.size → listed.getD k true = false → Region.ready md ops listed ≠ [] := by
    intro k
    induction k using Nat.strongRecOn with
    | _ k ih =>
      intro hk hun
      by_cases h : ∃ j, j < k ∧ listed.getD j true = false
      · obtain ⟨j, hj, hju⟩ := h
        exact ih j hj (by omega) hju
      · intro e
        have hmem : k ∈ Region.ready md ops listed := by
          refine mem_ready.2 ⟨hun, ops[k], Array.getElem?_eq_getElem hk, fun ed hed hbd => ?_⟩
          have h1 := List.all_eq_true.1 hb k (List.mem_range.2 hk)
          rw [Array.getElem?_eq_getElem hk] at h1
          have h2 := Array.all_eq_true_iff_forall_mem.1 h1 ed hed
          simp only [hbd, Bool.not_true, Bool.false_or, decide_eq_true_eq] at h2
          have h3 : ¬ listed.getD ed.on true = false := fun h3 => h ⟨ed.on, h2, h3⟩
          have h4 : ed.on < listed.size := by omega
          simp only [Array.getD, h4, dite_true] at h3 ⊢
          simpa using h3
        rw [e] at hmem
        cases hmem
  exact key m hm hu
theorem last_all {ops : Array Oper} {listed : Array Bool} {m : Nat} (hl : lastB md ops m = true) (hr : m ∈ Region.ready md ops listed) : ∀ i, i < m → listed.getD i false = true := by
  intro i hi
  obtain ⟨_, o, ho, hall⟩ := mem_ready.1 hr
  unfold lastB at hl
  rw [ho] at hl
  have h1 := List.all_eq_true.1 hl i (List.mem_range.2 hi)
  obtain ⟨e, he, hb⟩ := Array.any_eq_true'.1 h1
  simp only [Bool.and_eq_true, beq_iff_eq] at hb
  have := hall e he hb.1
  rw [hb.2] at this
  exact this
theorem ready_done {ops : Array Oper} {listed : Array Bool} {m : Nat} (hs : listed.size = ops.size) (hm : m + 1 = ops.size) (h : ∀ i, i < m → listed.getD i false = true) : Region.ready md ops (listed.setIfInBounds m true) = [] := by
  apply List.eq_nil_iff_forall_not_mem.2
  intro j hj
  obtain ⟨hun, o, ho, _⟩ := mem_ready.1 hj
  have hjl : j < ops.size := (Array.getElem?_eq_some_iff.1 ho).1
  by_cases e : j = m
  · subst e
    have : j < listed.size := by omega
    simp [Array.getD, this] at hun
  · have h1 := h j (by omega)
    rw [getD_set_ne true (fun e' => e e'.symm)] at hun
    rw [getD_both hun] at h1
    cases h1
theorem ready_congr {ops ops' : Array Oper} (hsz : ops'.size = ops.size) (haft : ∀ i : Nat, (ops'[i]?).map Oper.after = (ops[i]?).map Oper.after) (listed : Array Bool) : Region.ready md ops' listed = Region.ready md ops listed := by
  unfold Region.ready
  rw [hsz]
  apply List.filter_congr
  intro i _
  have e : ∀ (ops : Array Oper), ((ops[i]?).map (fun o : Oper => o.after.all fun e => !Region.binds md e || listed.getD e.on false)) = ((ops[i]?).map Oper.after).map (fun x => x.all fun e => !Region.binds md e || listed.getD e.on false) := fun ops => by rw [Option.map_map]; rfl
  rw [e ops', e ops, haft i]

/-- An operation that yields nothing, in the place of the last one. -/
def idle (t : Oper) : Oper := { t with op := .move (.const undef) }
def swapL : List Oper → List Oper
  | [] => []
  | [t] => [idle t]
  | o :: p :: r => o :: swapL (p :: r)
theorem swapL_app : ∀ (l : List Oper) (t : Oper), swapL (l ++ [t]) = l ++ [idle t]
  | [], t => rfl
  | [o], t => rfl
  | o :: p :: r, t => by
    show o :: swapL (p :: r ++ [t]) = _
    rw [swapL_app (p :: r) t]
    rfl

variable {ops ops' : Array Oper} {m : Nat} {t : Oper}
theorem yielded_congr (hd : ∀ i : Nat, (ops'[i]?).map Oper.dst = (ops[i]?).map Oper.dst) (tmps : Array Value) : yielded ops' tmps = yielded ops tmps := by
  funext j
  unfold yielded
  have e : ∀ (ops : Array Oper), (ops[j]?).bind Oper.dst = ((ops[j]?).map Oper.dst).bind id := fun ops => by cases ops[j]? <;> rfl
  rw [e ops', e ops, hd j]

theorem wpAnyIn_tail {Q : Act → Prop} {Q' : Exit → Act → World → Prop} (hsz : ops'.size = ops.size) (hm : m + 1 = ops.size) (hother : ∀ i, i ≠ m → ops'[i]? = ops[i]?) (ht : ops[m]? = some t) (ht' : ops'[m]? = some (idle t)) (htd : t.dst = none) (htg : t.guard = none)
    (hback : backB md ops = true) (hlast : lastB md ops m = true) (hnd : noDefer ops = true) (hQ : ∀ a w, C w → Q a → wpListIn F n P ops Q' [t] a w) :
    ∀ (fuel : Nat) (listed : Array Bool) (a : Act) (w : World), listed.size = ops.size → listed.getD m true = false → C w → wpAnyQIn F n P md ops' C Q fuel listed a → wpAnyIn F n P md ops Q' fuel listed a w := by
  have haft : ∀ i : Nat, (ops'[i]?).map Oper.after = (ops[i]?).map Oper.after := fun i => by
    by_cases e : i = m
    · rw [e, ht, ht']; rfl
    · rw [hother i e]
  have hdst : ∀ i : Nat, (ops'[i]?).map Oper.dst = (ops[i]?).map Oper.dst := fun i => by
    by_cases e : i = m
    · rw [e, ht, ht']; rfl
    · rw [hother i e]
  have hrd := ready_congr (md := md) hsz haft
  intro fuel
  induction fuel with
  | zero =>
    intro listed a w hs hu hC h
    have h0 := h.1
    rw [hrd] at h0
    exact absurd h0 (ready_ne hback hs (by omega) hu)
  | succ fuel ih =>
    intro listed a w hs hu hC h
    refine ⟨fun h0 => absurd h0 (ready_ne hback hs (by omega) hu), fun i hi => ?_⟩
    have hi' : i ∈ Region.ready md ops' listed := by rw [hrd]; exact hi
    have hq := h.2 i hi'
    by_cases e : i = m
    · rw [e] at hi hq ⊢
      have hd := ready_done (md := md) hs hm (last_all hlast hi)
      have hQa : Q a := by
        unfold qOpIn at hq
        simp only [ht'] at hq
        have hw : Region.wanted (idle t) (yielded ops' a.tmps) = true := by unfold Region.wanted idle; simp only [htg]
        rw [hw] at hq
        simp only [if_true] at hq
        obtain ⟨_, v, _, hK⟩ := hq
        have hput : a.put (idle t).dst v = a := by
          have : (idle t).dst = none := htd
          rw [this]; rfl
        rw [hput] at hK
        cases fuel with
        | zero => exact hK.2
        | succ f => exact hK.1 (by rw [hrd]; exact hd)
      have hl := hQ a w hC hQa
      unfold wpOpIn
      simp only [ht]
      have hfin : ∀ (a' : Act) (w' : World), Q' .normal a' w' → wpAnyIn F n P md ops Q' fuel (listed.setIfInBounds m true) a' w' := fun a' w' h' => by
        cases fuel with
        | zero => exact ⟨hd, h'⟩
        | succ f => exact ⟨fun _ => h', fun j hj => by rw [hd] at hj; cases hj⟩
      unfold wpListIn at hl
      by_cases hw : Region.wanted t (yielded ops a.tmps) = true
      · rw [if_pos hw] at hl ⊢
        exact Oper.wpIn_mono (fun a' w' h' => hfin a' w' h') hl
      · rw [if_neg hw] at hl ⊢
        exact ⟨hl.1, hfin _ _ hl.2⟩
    · have hun : (listed.setIfInBounds i true).getD m true = false := by
        rw [getD_set_ne true e]
        exact hu
      have hq2 : qOpIn F n P ops C i (wpAnyQIn F n P md ops' C Q fuel (listed.setIfInBounds i true)) a := by
        unfold qOpIn at hq ⊢
        rw [hother i e, yielded_congr hdst] at hq
        exact hq
      exact wpOpIn_of_qOpIn_r hnd hC (fun a' w' hw' hh => ih _ a' w' (by simpa using hs) hun hw' hh) hq2

theorem wpIn_region_tail {id : Nat} {l : List Oper} {Q : Exit → Act → World → Prop} {a : Act} {w : World} (C : World → Prop) (htd : t.dst = none) (htg : t.guard = none) (hback : backB .any (l ++ [t]).toArray = true) (hlast : lastB .any (l ++ [t]).toArray l.length = true)
    (hnd : noDefer (l ++ [t]).toArray = true) (hmx : P.follows .mixedOrders = true) (hB : Region.lexB .any (l ++ [idle t]).toArray = true) (hC : C w.drew)
    (h : wpQuietIn F n P (l ++ [idle t]).toArray C (fun a' => ∀ w', C w' → wpListIn F n P (l ++ [t]).toArray Q [t] a' w') (l ++ [idle t]) a) : (Code.region id (l ++ [t]).toArray true).wpIn F n P Q a w := by
  simp only [Region.lexB, Bool.and_eq_true] at hB
  refine wpIn_region_any hmx ?_
  refine wpAnyIn_tail (C := C) (ops' := (l ++ [idle t]).toArray) (m := l.length) (t := t) (Q := fun a' => ∀ w', C w' → wpListIn F n P (l ++ [t]).toArray Q [t] a' w') (by simp) (by simp) (fun i hi => ?_) (by simp) (by simp) htd htg hback hlast hnd (fun a w hw h => h w hw) _ _ _ _ (by simp) (by simp [Array.getD]) hC ?_
  · simp only [List.getElem?_toArray]
    rcases Nat.lt_or_ge i l.length with h1 | h1
    · rw [List.getElem?_append_left h1, List.getElem?_append_left h1]
    · rw [List.getElem?_eq_none (by simp; omega), List.getElem?_eq_none (by simp; omega)]
  · have h2 := wpAnyQIn_lex (F := F) (n := n) (C := C) (md := .any) hB.1 (l ++ [idle t]) 0 (Array.replicate (l ++ [idle t]).toArray.size false) a (by simp) (by simpa using hB.2) h
    simpa using h2
theorem swapL_eq {L : List Oper} (hne : L ≠ []) : swapL L = L.dropLast ++ [idle (L.getLast hne)] := by
  have h := swapL_app L.dropLast (L.getLast hne)
  rw [List.dropLast_concat_getLast hne] at h
  exact h
/-- At a list that is written out, in the class of the worlds that have grown out of W. -/
theorem wpIn_region_tailG {id : Nat} {L : List Oper} {Q : Exit → Act → World → Prop} {a : Act} {W : World} (hne : L ≠ []) (htd : (L.getLast hne).dst = none) (htg : (L.getLast hne).guard = none) (hback : backB .any L.toArray = true) (hlast : lastB .any L.toArray (L.length - 1) = true)
    (hnd : noDefer L.toArray = true) (hmx : P.follows .mixedOrders = true) (hB : Region.lexB .any (swapL L).toArray = true)
    (h : wpQuietIn F n P (swapL L).toArray (fun w' => ∃ i : Grew W, w' = i.w) (fun a' => ∀ w', (∃ i : Grew W, w' = i.w) → wpListIn F n P L.toArray Q [L.getLast hne] a' w') (swapL L) a) : (Code.region id L.toArray true).wpIn F n P Q a W := by
  have e := List.dropLast_concat_getLast hne
  rw [swapL_eq hne] at hB h
  have h2 := wpIn_region_tail (F := F) (n := n) (P := P) (id := id) (l := L.dropLast) (t := L.getLast hne) (Q := Q) (a := a) (w := W) (fun w' => ∃ i : Grew W, w' = i.w) htd htg (by rw [e]; exact hback) (by rw [e, List.length_dropLast]; exact hlast) (by rw [e]; exact hnd) hmx hB ⟨⟨W.drew, (RowKit.Below.refl _ W).drew⟩, rfl⟩ (by rw [e]; exact h)
  rw [e] at h2
  exact h2
/-- The idle operation at the walk's end. -/
theorem wpQuietIn_idle {ops : Array Oper} {Q : Act → Prop} {a : Act} (htd : t.dst = none) (htg : t.guard = none) (h : Q a) : wpQuietIn F n P ops C Q [idle t] a := by
  refine wpQuietIn_step (fun w _ f hf => ?_) (fun K hK => ?_)
  · simp [Oper.about, idle] at hf
  · have hw : Region.wanted (idle t) (yielded ops a.tmps) = true := by unfold Region.wanted idle; simp only [htg]
    rw [hw]
    simp only [if_true]
    refine ⟨undef, fun w _ => ?_, ?_⟩
    · simp [Oper.quietAtIn, idle, execOp, Oper.quietUponIn]
      rfl
    · have : (idle t).dst = none := htd
      rw [this]
      exact hK _ h
end
end Go.Proofs.Ytchlemajppnehaa
