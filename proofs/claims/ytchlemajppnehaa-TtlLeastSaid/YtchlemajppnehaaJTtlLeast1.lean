/- The least is one of them, and none is less; of one it is that; however they stand.
   Conditions: those of the row, none beside. -/
import Derived.Orders
import Derived.WalkKit
import Derived.Sort.BigQuietIn
import Derived.Below
import Derived.RangeFuncCalls
import Derived.StillTail
import Derived.Test.YtchlemajppnehaaJB2
import Derived.Test.YtchlemajppnehaaJB4
/- A region that draws its order, by what each slot holds: every operation is met once, in a frame of which only what it looks at is known; what a slot holds may hang on the world, where it stands whatever comes behind. -/
namespace Go.Proofs.Ytchlemajppnehaa
open Go

def dstAt (ops : Array Oper) (j : Nat) : Option Tmp := (ops[j]?).bind (·.dst)
def waitsFor (ops : Array Oper) (j i : Nat) : Bool := ((ops[j]?).map fun o => o.after.any fun e => Region.binds .any e && e.on == i).getD false
def depOn (ops : Array Oper) (i j d : Nat) : Bool := waitsFor ops i j && dstAt ops j == some d
def isOld (ops : Array Oper) (i k : Nat) : Bool := (List.range ops.size).all fun j => dstAt ops j != some k || j == i || waitsFor ops j i
/-- Edges lead to operations ahead; slots are each written once, and lie in the frame. -/
def fwdOk (ops : Array Oper) : Bool := (List.range ops.size).all fun i => ((ops[i]?).map fun o => o.after.all fun e => !Region.binds .any e || decide (e.on < i)).getD true
def dstsOk (ops : Array Oper) (n : Nat) : Bool := (List.range ops.size).all fun i => match dstAt ops i with
  | none => true
  | some d => decide (d < n) && (List.range i).all fun j => dstAt ops j != some d

section
variable {P : Program} {ops : Array Oper} {Q : Exit → Act → World → Prop} {le : World → World → Prop} {φ : Nat → Value → World → Prop} {a0 : Act} {w0 : World}

structure Now (ops : Array Oper) (le : World → World → Prop) (φ : Nat → Value → World → Prop) (a0 : Act) (w0 : World) (i : Nat) (a : Act) (w : World) : Prop where
  le : le w0 w
  dep : ∀ j d, depOn ops i j d = true → φ j (a.eval (.tmp d)) w
  old : ∀ k, isOld ops i k = true → a.eval (.tmp k) = a0.eval (.tmp k)
  size : a.tmps.size = a0.tmps.size

theorem eval_get (a : Act) (k : Nat) : a.eval (.tmp k) = a.tmps[k]?.getD undef := by
  show a.tmps.getD k undef = _
  rw [Array.getD_eq_getD_getElem?]
theorem Now.was' {i : Nat} {a : Act} {w : World} (N : Now ops le φ a0 w0 i a w) (k : Nat) (v : Value) (h : isOld ops i k = true) (hv : a0.eval (.tmp k) = v) : a.tmps[k]?.getD undef = v := by
  rw [← eval_get]; exact (N.old k h).trans hv
theorem Now.dep' {i : Nat} {a : Act} {w : World} (N : Now ops le φ a0 w0 i a w) (j d : Nat) (h : depOn ops i j d = true) : φ j (a.tmps[d]?.getD undef) w := by
  rw [← eval_get]; exact N.dep j d h
theorem Now.was {i : Nat} {a : Act} {w : World} (N : Now ops le φ a0 w0 i a w) (k : Nat) (v : Value) (h : isOld ops i k = true) (hv : a0.eval (.tmp k) = v) : a.eval (.tmp k) = v := (N.old k h).trans hv

theorem wanted_no {o : Oper} {f : Nat → Option Bool} (h : o.guard = none) : Region.wanted o f = true := by unfold Region.wanted; rw [h]
theorem wanted_is {o : Oper} {a : Act} {g d : Nat} {b x : Bool} (h : o.guard = some (g, b)) (hd : dstAt ops g = some d) (he : a.eval (.tmp d) = .bool x) : Region.wanted o (yielded ops a.tmps) = (x == b) := by
  unfold Region.wanted
  rw [h]
  simp only
  unfold dstAt at hd
  unfold yielded
  rw [hd]
  simp only [Option.bind_some]
  have he : a.tmps.getD d undef = .bool x := he
  rw [Array.getD_eq_getD_getElem?] at he
  have hx : a.tmps[d]? = some (.bool x) := by
    cases hx : a.tmps[d]? with
    | none => rw [hx] at he; simp [undef] at he
    | some v => rw [hx] at he; exact congrArg some he
  rw [hx]
  cases x <;> cases b <;> rfl

theorem wanted_get {o : Oper} {a : Act} {g d : Nat} {b x : Bool} (h : o.guard = some (g, b)) (hd : dstAt ops g = some d) (he : a.tmps[d]?.getD undef = .bool x) : Region.wanted o (yielded ops a.tmps) = (x == b) :=
  wanted_is h hd ((eval_get a d).trans he)

structure Inv (ops : Array Oper) (le : World → World → Prop) (φ : Nat → Value → World → Prop) (a0 : Act) (w0 : World) (listed : Array Bool) (a : Act) (w : World) : Prop where
  size : listed.size = ops.size
  le : le w0 w
  tmps : a.tmps.size = a0.tmps.size
  defers : a.defers = a0.defers
  closed : ∀ j o, ops[j]? = some o → listed.getD j false = true → ∀ e ∈ o.after, Region.binds .any e = true → listed.getD e.on false = true
  done : ∀ j d, dstAt ops j = some d → listed.getD j false = true → φ j (a.eval (.tmp d)) w
  rest : ∀ k, (∀ j, listed.getD j false = true → dstAt ops j ≠ some k) → a.eval (.tmp k) = a0.eval (.tmp k)

theorem eval_put_same {a : Act} {d : Nat} {v : Value} (h : d < a.tmps.size) : (a.put (some d) v).eval (.tmp d) = v := by
  unfold Act.put Act.eval
  simp [Array.getD_eq_getD_getElem?, Array.getElem?_setIfInBounds_self_of_lt h]
theorem eval_put_other {a : Act} {x : Option Tmp} {k : Nat} {v : Value} (h : x ≠ some k) : (a.put x v).eval (.tmp k) = a.eval (.tmp k) := by
  cases x with
  | none => rfl
  | some d =>
    unfold Act.put Act.eval
    simp only [Array.getD_eq_getD_getElem?]
    rw [Array.getElem?_setIfInBounds_ne (fun e => h (by rw [e]))]
theorem size_put {a : Act} {x : Option Tmp} {v : Value} : (a.put x v).tmps.size = a.tmps.size := by
  cases x <;> simp [Act.put]
theorem defers_put {a : Act} {x : Option Tmp} {v : Value} : (a.put x v).defers = a.defers := by
  cases x <;> rfl

theorem getD_true_false {l : Array Bool} {i : Nat} (h : i < l.size) (hn : l.getD i true = false) : l.getD i false = false := by
  simp only [Array.getD_eq_getD_getElem?, Array.getElem?_eq_getElem h, Option.getD_some] at *
  exact hn
theorem getD_set_same {l : Array Bool} {i : Nat} (h : i < l.size) : (l.setIfInBounds i true).getD i false = true := by
  simp [Array.getD_eq_getD_getElem?, Array.getElem?_setIfInBounds_self_of_lt h]

theorem Inv.now {listed : Array Bool} {a : Act} {w : World} (I : Inv ops le φ a0 w0 listed a w) {i : Nat} (hr : i ∈ Region.ready .any ops listed) : Now ops le φ a0 w0 i a w := by
  obtain ⟨hn, o, ho, hall⟩ := mem_ready.1 hr
  have hlt : i < ops.size := (Array.getElem?_eq_some_iff.1 ho).1
  have hn' := getD_true_false (by rw [I.size]; exact hlt) hn
  refine ⟨I.le, fun j d h => ?_, fun k h => I.rest k fun j hj hd => ?_, I.tmps⟩
  · unfold depOn waitsFor at h
    rw [ho] at h
    simp only [Option.map_some, Option.getD_some, Bool.and_eq_true, beq_iff_eq] at h
    obtain ⟨h1, h2⟩ := h
    rw [Array.any_eq_true'] at h1
    obtain ⟨e, he, hb⟩ := h1
    simp only [Bool.and_eq_true, beq_iff_eq] at hb
    exact I.done j d h2 (by rw [← hb.2]; exact hall e he hb.1)
  · unfold isOld at h
    rw [List.all_eq_true] at h
    have hj2 : j < ops.size := by
      rcases Nat.lt_or_ge j ops.size with h' | h'
      · exact h'
      · unfold dstAt at hd; rw [Array.getElem?_eq_none h'] at hd; cases hd
    have := h j (List.mem_range.2 hj2)
    simp only [Bool.or_eq_true, bne_iff_ne, beq_iff_eq] at this
    rcases this with (h1 | h1) | h1
    · exact h1 hd
    · subst h1; rw [hn'] at hj; cases hj
    · unfold waitsFor at h1
      cases hoj : ops[j]? with
      | none => rw [hoj] at h1; cases h1
      | some oj =>
        rw [hoj] at h1
        simp only [Option.map_some, Option.getD_some] at h1
        rw [Array.any_eq_true'] at h1
        obtain ⟨e, he, hb⟩ := h1
        simp only [Bool.and_eq_true, beq_iff_eq] at hb
        have := I.closed j oj hoj hj e he hb.1
        rw [hb.2, hn'] at this
        cases this

theorem Inv.step {listed : Array Bool} {a : Act} {w : World} (I : Inv ops le φ a0 w0 listed a w) (trans : ∀ {x y z}, le x y → le y z → le x z) (stable : ∀ j v x y, le x y → φ j v x → φ j v y)
    (hD : dstsOk ops a0.tmps.size = true) {i : Nat} (hr : i ∈ Region.ready .any ops listed) {o : Oper} (ho : ops[i]? = some o) {v : Value} {w' : World} (hw : le w w') (hv : ∀ d, o.dst = some d → φ i v w') :
    Inv ops le φ a0 w0 (listed.setIfInBounds i true) (a.put o.dst v) w' := by
  obtain ⟨hn, o', ho', hall⟩ := mem_ready.1 hr
  rw [ho] at ho'
  cases ho'
  have hlt : i < ops.size := (Array.getElem?_eq_some_iff.1 ho).1
  have hlt' : i < listed.size := by rw [I.size]; exact hlt
  have hdst : dstAt ops i = o.dst := by unfold dstAt; rw [ho]; rfl
  have hdist : ∀ j, j ≠ i → ∀ d, dstAt ops j = some d → o.dst ≠ some d := by
    intro j hji d hd e
    have hj2 : j < ops.size := by
      rcases Nat.lt_or_ge j ops.size with h' | h'
      · exact h'
      · unfold dstAt at hd; rw [Array.getElem?_eq_none h'] at hd; cases hd
    unfold dstsOk at hD
    rw [List.all_eq_true] at hD
    rcases Nat.lt_or_ge j i with h | h
    · have := hD i (List.mem_range.2 hlt)
      rw [hdst, e] at this
      simp only [Bool.and_eq_true, List.all_eq_true, List.mem_range, bne_iff_ne] at this
      exact this.2 j h hd
    · have := hD j (List.mem_range.2 hj2)
      rw [hd] at this
      simp only [Bool.and_eq_true, List.all_eq_true, List.mem_range, bne_iff_ne] at this
      exact this.2 i (by omega) (by rw [hdst, e])
  have hin : ∀ d, o.dst = some d → d < a.tmps.size := by
    intro d e
    unfold dstsOk at hD
    rw [List.all_eq_true] at hD
    have := hD i (List.mem_range.2 hlt)
    rw [hdst, e] at this
    simp only [Bool.and_eq_true, decide_eq_true_eq] at this
    rw [I.tmps]; exact this.1
  refine ⟨by simp [I.size], trans I.le hw, by rw [size_put]; exact I.tmps, by rw [defers_put]; exact I.defers, ?_, ?_, ?_⟩
  · intro j oj hj hl e he hb
    by_cases hji : j = i
    · subst hji
      rw [ho] at hj; cases hj
      exact getD_set_true (hall e he hb)
    · rw [getD_set_ne false (Ne.symm hji)] at hl
      exact getD_set_true (I.closed j oj hj hl e he hb)
  · intro j d hd hl
    by_cases hji : j = i
    · subst hji
      rw [hdst] at hd
      rw [hd, eval_put_same (hin d hd)]
      exact hv d hd
    · rw [getD_set_ne false (Ne.symm hji)] at hl
      rw [eval_put_other (hdist j hji d hd)]
      exact stable _ _ _ _ hw (I.done j d hd hl)
  · intro k hk
    have hki : o.dst ≠ some k := by
      have := hk i (getD_set_same hlt')
      rw [hdst] at this; exact this
    rw [eval_put_other hki]
    refine I.rest k fun j hj => hk j (getD_set_true hj)

/-- What is asked at one operation. -/
def StepOk (P : Program) (ops : Array Oper) (Q : Exit → Act → World → Prop) (le : World → World → Prop) (φ : Nat → Value → World → Prop) (a0 : Act) (w0 : World) (i : Nat) (o : Oper) : Prop :=
  ∀ (a : Act) (w : World) (K : Act → World → Prop), Now ops le φ a0 w0 i a w → (∀ v w', le w w' → φ i v w' → K (a.put o.dst v) w') →
    if Region.wanted o (yielded ops a.tmps) = true then o.wp P a w K Q else K (a.put o.dst undef) w

theorem wpAny_of_steps (trans : ∀ {x y z}, le x y → le y z → le x z) (stable : ∀ j v x y, le x y → φ j v x → φ j v y) (hD : dstsOk ops a0.tmps.size = true)
    (steps : ∀ i o, ops[i]? = some o → StepOk P ops Q le φ a0 w0 i o)
    (fin : ∀ listed a w, Inv ops le φ a0 w0 listed a w → Region.ready .any ops listed = [] → Q .normal a w) :
    ∀ (fuel : Nat) (listed : Array Bool) (a : Act) (w : World), Inv ops le φ a0 w0 listed a w → (List.range ops.size).countP (fun i => !listed.getD i true) ≤ fuel → wpAny P .any ops Q fuel listed a w
  | 0, listed, a, w, I, hc => by
    have : Region.ready .any ops listed = [] := by
      rw [List.eq_nil_iff_forall_not_mem]
      intro i hi
      obtain ⟨hn, o, ho, _⟩ := mem_ready.1 hi
      have hlt : i < ops.size := (Array.getElem?_eq_some_iff.1 ho).1
      have : 0 < (List.range ops.size).countP (fun i => !listed.getD i true) := List.countP_pos_iff.2 ⟨i, List.mem_range.2 hlt, by simp only [hn, Bool.not_false]⟩
      omega
    exact ⟨this, fin listed a w I this⟩
  | fuel + 1, listed, a, w, I, hc => by
    refine ⟨fun h => fin listed a w I h, fun i hi => ?_⟩
    obtain ⟨hn, o, ho, _⟩ := mem_ready.1 hi
    have hlt : i < ops.size := (Array.getElem?_eq_some_iff.1 ho).1
    have hs := steps i o ho a w (fun a' w' => wpAny P .any ops Q fuel (listed.setIfInBounds i true) a' w') (I.now hi)
      (fun v w' hw hv => wpAny_of_steps trans stable hD steps fin fuel _ _ _ (I.step trans stable hD hi ho hw (fun _ _ => hv)) (by
        have hlt' : i < listed.size := by rw [I.size]; exact hlt
        have h1 : (List.range ops.size).countP (fun j => !(listed.setIfInBounds i true).getD j true) < (List.range ops.size).countP (fun i => !listed.getD i true) := by
          refine countP_lt (i := i) (List.mem_range.2 hlt) ?_ ?_ ?_
          · intro j _ hj
            by_cases hji : j = i
            · subst hji; rw [hn]; rfl
            · rw [getD_set_ne true (Ne.symm hji)] at hj; exact hj
          · rw [hn]; rfl
          · simp [Array.getD_eq_getD_getElem?, Array.getElem?_setIfInBounds_self_of_lt hlt']
        omega))
    unfold wpOp
    rw [ho]
    simp only
    split
    · rename_i hw; rw [if_pos hw] at hs; exact .inl hs
    · rename_i hw; rw [if_neg hw] at hs; exact hs
where
  countP_lt {l : List Nat} {p q : Nat → Bool} {i : Nat} (hi : i ∈ l) (hpq : ∀ j ∈ l, p j = true → q j = true) (hq : q i = true) (hp : p i = false) : l.countP p < l.countP q := by
    induction l with
    | nil => cases hi
    | cons x l ih =>
      rw [List.countP_cons, List.countP_cons]
      rcases List.mem_cons.1 hi with rfl | hi
      · have := List.countP_mono_left (p := p) (q := q) (l := l) (fun j hj => hpq j (List.mem_cons_of_mem _ hj))
        rw [hq, hp]
        simp
        omega
      · have h1 := ih hi (fun j hj => hpq j (List.mem_cons_of_mem _ hj))
        have h2 := hpq x (List.mem_cons_self ..)
        cases hpx : p x <;> cases hqx : q x <;> simp_all <;> omega

theorem all_listed (hf0 : fwdOk ops = true) {listed : Array Bool} (hs : listed.size = ops.size) (hr : Region.ready .any ops listed = []) : ∀ n i, i < n → i < ops.size → listed.getD i false = true
  | 0, _, h, _ => absurd h (Nat.not_lt_zero _)
  | n + 1, i, h, hi => by
    rcases Nat.lt_or_ge i n with h' | h'
    · exact all_listed hf0 hs hr n i h' hi
    · cases hl : listed.getD i false with
      | true => rfl
      | false =>
        exfalso
        have hn : listed.getD i true = false := by
          have hi' : i < listed.size := by rw [hs]; exact hi
          simp only [Array.getD_eq_getD_getElem?, Array.getElem?_eq_getElem hi', Option.getD_some] at *
          exact hl
        have : i ∈ Region.ready .any ops listed := by
          rw [mem_ready]
          refine ⟨hn, ops[i], Array.getElem?_eq_getElem hi, fun e he hb => ?_⟩
          have hf := hf0
          unfold fwdOk at hf
          rw [List.all_eq_true] at hf
          have h1 := hf i (List.mem_range.2 hi)
          rw [Array.getElem?_eq_getElem hi] at h1
          simp only [Option.map_some, Option.getD_some] at h1
          rw [Array.all_eq_true'] at h1
          have h2 := h1 e he
          rw [hb] at h2
          simp only [Bool.not_true, Bool.false_or, decide_eq_true_eq] at h2
          exact all_listed hf0 hs hr n e.on (by omega) (by omega)
        rw [hr] at this
        cases this

/-- A frame with all slots of a list of operations written. -/
def putAll (b : Act) : List Oper → (Nat → Value) → Act
  | [], _ => b
  | o :: os, f => putAll (b.put o.dst (match o.dst with | some d => f d | none => undef)) os f
theorem putAll_size (f : Nat → Value) : ∀ (os : List Oper) (b : Act), (putAll b os f).tmps.size = b.tmps.size ∧ (putAll b os f).defers = b.defers
  | [], _ => ⟨rfl, rfl⟩
  | o :: os, b => by
    obtain ⟨h1, h2⟩ := putAll_size f os (b.put o.dst (match o.dst with | some d => f d | none => undef))
    unfold putAll
    exact ⟨h1.trans size_put, h2.trans defers_put⟩
theorem putAll_get (f : Nat → Value) : ∀ (os : List Oper) (b : Act) (k : Nat), (∀ o ∈ os, ∀ d, o.dst = some d → d < b.tmps.size) →
    (putAll b os f).eval (.tmp k) = if os.any (fun o => o.dst == some k) then f k else b.eval (.tmp k)
  | [], _, _, _ => rfl
  | o :: os, b, k, hd => by
    have ih := putAll_get f os (b.put o.dst (match o.dst with | some d => f d | none => undef)) k (fun x hx d e => by rw [size_put]; exact hd x (List.mem_cons_of_mem _ hx) d e)
    unfold putAll
    rw [ih, List.any_cons]
    by_cases h : o.dst = some k
    · rw [h]
      simp only [BEq.rfl, Bool.true_or, if_true]
      split
      · rfl
      · exact eval_put_same (hd o (List.mem_cons_self ..) k h)
    · rw [eval_put_other h, beq_eq_false_iff_ne.2 h, Bool.false_or]
theorem act_ext {a b : Act} (h1 : a.tmps.size = b.tmps.size) (h2 : a.defers = b.defers) (h3 : ∀ k, a.eval (.tmp k) = b.eval (.tmp k)) : a = b := by
  obtain ⟨ta, da⟩ := a
  obtain ⟨tb, db⟩ := b
  simp only at h1 h2
  subst h2
  congr 1
  refine Array.ext h1 fun i hi hi' => ?_
  have := h3 i
  simpa [Act.eval, Array.getD_eq_getD_getElem?, hi, hi'] using this

/-- What is asked behind the region: of each slot what is known of it, one by one. -/
def FinAll (φ : Nat → Value → World → Prop) (w : World) (R : Act → Prop) : Nat → List Oper → Act → Prop
  | _, [], b => R b
  | i, o :: os, b => match o.dst with
    | none => FinAll φ w R (i + 1) os b
    | some d => ∀ v, φ i v w → FinAll φ w R (i + 1) os (b.put (some d) v)
theorem finAll_take {w : World} {R : Act → Prop} (f : Nat → Value) : ∀ (os : List Oper) (i : Nat) (b : Act), FinAll φ w R i os b → (∀ j o d, os[j]? = some o → o.dst = some d → φ (i + j) (f d) w) → R (putAll b os f)
  | [], _, _, h, _ => h
  | o :: os, i, b, h, hf => by
    unfold FinAll at h
    unfold putAll
    have hf' : ∀ j o d, os[j]? = some o → o.dst = some d → φ (i + 1 + j) (f d) w := fun j x d hx hd => by
      have := hf (j + 1) x d (by simpa using hx) hd
      rw [show i + 1 + j = i + (j + 1) by omega]; exact this
    cases hd : o.dst with
    | none =>
      rw [hd] at h
      exact finAll_take f os (i + 1) b h hf'
    | some d =>
      rw [hd] at h
      exact finAll_take f os (i + 1) _ (h (f d) (by have := hf 0 o d rfl hd; rwa [Nat.add_zero] at this)) hf'

/-- The steps, one by one. -/
def StepsOk (P : Program) (ops : Array Oper) (Q : Exit → Act → World → Prop) (le : World → World → Prop) (φ : Nat → Value → World → Prop) (a0 : Act) (w0 : World) : Nat → List Oper → Prop
  | _, [] => True
  | i, o :: os => StepOk P ops Q le φ a0 w0 i o ∧ StepsOk P ops Q le φ a0 w0 (i + 1) os
theorem stepsOk_at : ∀ (os : List Oper) (i : Nat), StepsOk P ops Q le φ a0 w0 i os → ∀ j o, os[j]? = some o → StepOk P ops Q le φ a0 w0 (i + j) o
  | [], _, _, _, _, h => by simp at h
  | x :: os, i, hs, 0, o, h => by
    simp only [List.getElem?_cons_zero, Option.some.injEq] at h
    subst h
    exact hs.1
  | x :: os, i, hs, j + 1, o, h => by
    have := stepsOk_at os (i + 1) hs.2 j o (by simpa using h)
    rw [show i + (j + 1) = i + 1 + j by omega]; exact this

/-- The law. -/
theorem wp_region_slots {id : Nat} {l : List Oper} (le : World → World → Prop) (φ : Nat → Value → World → Prop) (refl : ∀ x, le x x) (trans : ∀ {x y z}, le x y → le y z → le x z) (stable : ∀ j v x y, le x y → φ j v x → φ j v y)
    (hm : P.follows .mixedOrders = true) (hF : fwdOk l.toArray = true) (hD : dstsOk l.toArray a0.tmps.size = true)
    (steps : StepsOk P l.toArray Q le φ a0 w0.drew 0 l)
    (fin : ∀ w, le w0.drew w → FinAll φ w (fun a => Q .normal a w) 0 l a0) :
    (Code.region id l.toArray true).wp P Q a0 w0 := by
  refine wp_region_any hm ?_
  refine wpAny_of_steps (le := le) (φ := φ) (a0 := a0) (w0 := w0.drew) trans stable hD (fun i o ho => ?_) (fun listed a w I hr => ?_) _ _ _ _ ?_ ?_
  · have := stepsOk_at l 0 steps i o (by simpa using ho)
    rwa [Nat.zero_add] at this
  · have hall := fun i hi => all_listed hF I.size hr (i + 1) i (Nat.lt_succ_self i) hi
    have hf := finAll_take (fun d => a.eval (.tmp d)) l 0 a0 (fin w I.le) (fun j o d hj hd => by
      rw [Nat.zero_add]
      have hj' : l.toArray[j]? = some o := by simpa using hj
      exact I.done j d (by unfold dstAt; rw [hj']; exact hd) (hall j (Array.getElem?_eq_some_iff.1 hj').1))
    have hin : ∀ o ∈ l, ∀ d, o.dst = some d → d < a0.tmps.size := by
      intro o ho d hd
      obtain ⟨j, hj⟩ := List.getElem?_of_mem ho
      have hj' : l.toArray[j]? = some o := by simpa using hj
      unfold dstsOk at hD
      rw [List.all_eq_true] at hD
      have := hD j (List.mem_range.2 (Array.getElem?_eq_some_iff.1 hj').1)
      have e : dstAt l.toArray j = some d := by unfold dstAt; rw [hj']; exact hd
      rw [e] at this
      simp only [Bool.and_eq_true, decide_eq_true_eq] at this
      exact this.1
    have hs := putAll_size (fun d => a.eval (.tmp d)) l a0
    have : putAll a0 l (fun d => a.eval (.tmp d)) = a := by
      refine act_ext (hs.1.trans I.tmps.symm) (hs.2.trans I.defers.symm) fun k => ?_
      rw [putAll_get _ _ _ _ hin]
      split
      · rfl
      · rename_i h
        refine (I.rest k fun j hj hd => h ?_).symm
        rw [List.any_eq_true]
        unfold dstAt at hd
        cases ho : l.toArray[j]? with
        | none => rw [ho] at hd; cases hd
        | some o =>
          rw [ho] at hd
          exact ⟨o, List.mem_of_getElem? (by simpa using ho), by simpa using hd⟩
    rw [this] at hf
    exact hf
  · refine ⟨by simp, refl _, rfl, rfl, ?_, ?_, fun k _ => rfl⟩
    · intro j o _ hl
      simp only [Array.getD_eq_getD_getElem?, Array.getElem?_replicate] at hl
      split at hl <;> cases hl
    · intro j d _ hl
      simp only [Array.getD_eq_getD_getElem?, Array.getElem?_replicate] at hl
      split at hl <;> cases hl
  · have := List.countP_le_length (p := fun i => !(Array.replicate l.toArray.size false).getD i true) (l := List.range l.toArray.size)
    simpa using this
end

/-! With what lies in memory growing alone. -/
theorem cellLt {W : World} {a : Addr} {v : Value} (h : W.cell? a = some v) : a.block < W.heap.size := by
  rcases Nat.lt_or_ge a.block W.heap.size with h' | h'
  · exact h'
  · simp [World.cell?, Array.getElem?_eq_none h'] at h
theorem keep_cell {a : Addr} {v : Value} {W W' : World} (hb : RowKit.Below W.heap.size W W') (h : W.cell? a = some v) : W'.cell? a = some v := (hb.cell (cellLt h)).trans h
def slotLe (x y : World) : Prop := RowKit.Below x.heap.size x y
theorem below_undrew {w V : World} (h : slotLe w.drew V) : RowKit.Below w.heap.size w V := (RowKit.Below.refl _ w).drew.trans h
theorem slotLe_refl (x : World) : slotLe x x := RowKit.Below.refl _ x
theorem slotLe_trans {x y z : World} (h : slotLe x y) (k : slotLe y z) : slotLe x z := RowKit.Below.trans h (k.mono h.size)
def slotPhi (l : List (Value → World → Prop)) (j : Nat) : Value → World → Prop := l.getD j (fun _ _ => True)
/-- Each predicate stands when more memory is made. -/
def StableAll : List (Value → World → Prop) → Prop
  | [] => True
  | p :: l => (∀ v x y, slotLe x y → p v x → p v y) ∧ StableAll l
theorem slotPhi_stable : ∀ {l : List (Value → World → Prop)}, StableAll l → ∀ j v x y, slotLe x y → slotPhi l j v x → slotPhi l j v y
  | [], _, _, _, _, _, _, _ => trivial
  | _p :: _l, h, 0, v, x, y, hxy, hp => h.1 v x y hxy hp
  | _p :: l, h, j + 1, v, x, y, hxy, hp => slotPhi_stable (l := l) h.2 j v x y hxy hp
theorem stable_const {c : Value} : ∀ (v : Value) (x y : World), slotLe x y → (fun (v : Value) (_ : World) => v = c) v x → (fun (v : Value) (_ : World) => v = c) v y := fun _ _ _ _ h => h
theorem stable_true : ∀ (v : Value) (x y : World), slotLe x y → (fun (_ : Value) (_ : World) => True) v x → (fun (_ : Value) (_ : World) => True) v y := fun _ _ _ _ h => h
end Go.Proofs.Ytchlemajppnehaa

/- A region that draws its order, in a round of a loop over a function, whose operations only read: one walk in the order of the text serves every order. -/
namespace Go.Proofs.Ytchlemajppnehaa
open Go
section
variable {F : Fence} {n : Nat} {P : Program} {ops : Array Oper} {md : Region.Mode} {C : World → Prop}

/-- No operation of the list is a defer statement. -/
def noDefer (ops : Array Oper) : Bool := ops.all fun o => match o.op with | .defer _ => false | _ => true

theorem noDefer_spec (h : noDefer ops = true) {i : Nat} {o : Oper} (hi : ops[i]? = some o) : ∀ c, o.op ≠ .defer c := by
  intro c hc
  unfold noDefer at h
  rw [Array.all_eq_true'] at h
  have := h o (Array.mem_of_getElem? hi)
  rw [hc] at this
  cases this

theorem wpIn_of_quiet_r {o : Oper} {a : Act} {K : Act → Prop} {K' : Act → World → Prop} {Q' : Exit → Act → World → Prop} {w : World} (hnd : ∀ c, o.op ≠ .defer c) (hw : C w) (h : ∀ a w', C w' → K a → K' a w')
    (ha : o.askedIn F P a C) (hh : o.quietIn F n P a C K) : o.wpIn F n P a w K' Q' := by
  obtain ⟨v, h1, h2⟩ := hh
  have h3 := h1 w hw
  unfold Oper.quietAtIn at h3
  unfold Oper.wpIn
  refine ⟨ha w hw, ?_⟩
  rw [Oper.semAt_eq _ _ _ hnd]
  generalize (execOp a.eval o).run P w = r at *
  cases r with
  | ok x w' =>
    cases x <;> simp only [Oper.quietUponIn] at h3 <;> simp only [Oper.uponIn]
    case value u =>
      obtain ⟨e1, e2⟩ := h3
      rw [e1, e2]
      exact h _ _ hw h2
    case skip =>
      obtain ⟨e1, e2⟩ := h3
      rw [e1, ← e2]
      exact h _ _ hw h2
    case enter f args =>
      obtain ⟨e1, hd, hc⟩ := h3
      rw [e1]
      exact ⟨hd, hc.mono fun e w'' ⟨he, hw''⟩ => by subst he; exact h _ _ hw'' h2⟩
  | halt x w' => simp only [Oper.quietUponIn] at h3

theorem wpOpIn_of_qOpIn_r {i : Nat} {a : Act} {K : Act → Prop} {K' : Act → World → Prop} {Q' : Exit → Act → World → Prop} {w : World} (hnd : noDefer ops = true) (hC : C w) (h : ∀ a w', C w' → K a → K' a w')
    (hh : qOpIn F n P ops C i K a) : wpOpIn F n P ops Q' i K' a w := by
  unfold qOpIn at hh
  unfold wpOpIn
  split
  · rename_i ho; simp only [ho] at hh; exact h _ _ hC hh
  · rename_i o ho
    simp only [ho] at hh
    obtain ⟨ha, hh⟩ := hh
    split
    · rename_i hw; simp only [hw, if_true] at hh; exact wpIn_of_quiet_r (noDefer_spec hnd ho) hC h ha hh
    · rename_i hw; simp only [hw] at hh; exact ⟨ha w hC, h _ _ hC hh⟩

theorem wpAnyIn_of_quiet_r {Q : Act → Prop} {Q' : Exit → Act → World → Prop} (hnd : noDefer ops = true) (hQ : ∀ a w, C w → Q a → Q' .normal a w) : ∀ (fuel : Nat) (listed : Array Bool) (a : Act) (w : World), C w →
    wpAnyQIn F n P md ops C Q fuel listed a → wpAnyIn F n P md ops Q' fuel listed a w
  | 0, _, _, _, hw, h => ⟨h.1, hQ _ _ hw h.2⟩
  | fuel + 1, _, _, _, hw, h => ⟨fun h0 => hQ _ _ hw (h.1 h0), fun i hi => wpOpIn_of_qOpIn_r hnd hw (fun a' w' hw' => wpAnyIn_of_quiet_r hnd hQ fuel _ a' w' hw') (h.2 i hi)⟩

theorem wpIn_region_quiet_r {id : Nat} {Q : Exit → Act → World → Prop} {a : Act} {w : World} (hnd : noDefer ops = true) (hm : P.follows .mixedOrders = true) (hB : Region.lexB .any ops = true) (hC : C { w with drawn := w.drawn + 1 })
    (h : wpQuietIn F n P ops C (fun a' => ∀ w', C w' → Q .normal a' w') ops.toList a) : (Code.region id ops true).wpIn F n P Q a w := by
  simp only [Region.lexB, Bool.and_eq_true] at hB
  refine wpIn_region_any hm (wpAnyIn_of_quiet_r (Q := fun a' => ∀ w', C w' → Q .normal a' w') hnd (fun _ w' hw' h => h w' hw') _ _ _ _ hC ?_)
  have := wpAnyQIn_lex (F := F) (n := n) (C := C) (md := .any) hB.1 ops.toList 0 (Array.replicate ops.size false) a (by simp) (by simpa using hB.2) h
  simpa using this

/-- At the class: some draws. -/
theorem wpIn_region_quiet_rlit {id : Nat} {Q : Exit → Act → World → Prop} {a : Act} {w : World} {l : List Oper} (hnd : noDefer l.toArray = true) (hm : P.follows .mixedOrders = true) (hB : Region.lexB .any l.toArray = true)
    (h : wpQuietIn F n P l.toArray (fun w' => ∃ n, w' = w.drewN n) (fun a' => ∀ w', (∃ n, w' = w.drewN n) → Q .normal a' w') l a) : (Code.region id l.toArray true).wpIn F n P Q a w :=
  wpIn_region_quiet_r (C := fun w' => ∃ n, w' = w.drewN n) hnd hm hB ⟨1, rfl⟩ (by simpa using h)
/-- At whatever class. -/
theorem wpIn_region_class {id : Nat} {Q : Exit → Act → World → Prop} {a : Act} {w : World} {l : List Oper} (C : World → Prop) (hnd : noDefer l.toArray = true) (hm : P.follows .mixedOrders = true) (hB : Region.lexB .any l.toArray = true) (hC : C w.drew)
    (h : wpQuietIn F n P l.toArray C (fun a' => ∀ w', C w' → Q .normal a' w') l a) : (Code.region id l.toArray true).wpIn F n P Q a w :=
  wpIn_region_quiet_r (C := C) hnd hm hB hC (by simpa using h)
end

/-- A world that has grown out of W: what lay in W lies as it lay. -/
structure Grew (W : World) : Type where
  w : World
  below : RowKit.Below W.heap.size W w

instance Grew.some_world (W : World) : Nonempty (Grew W) := ⟨⟨W, RowKit.Below.refl _ W⟩⟩
theorem Grew.cell {W : World} {a : Addr} {v : Value} (h : W.cell? a = some v) (i : Grew W) : i.w.cell? a = some v := by
  have hl : a.block < W.heap.size := by
    rcases Nat.lt_or_ge a.block W.heap.size with h' | h'
    · exact h'
    · simp [World.cell?, Array.getElem?_eq_none h'] at h
  exact (i.below.cell hl).trans h
theorem Grew.calls {F : Fence} {n : Nat} {P : Program} {f : FuncId} {args : Array Value} {W : World} (i : Grew W) (v : Value) (h : CallsIn F n P f args i.w fun e w' => e = .returned v ∧ RowKit.Below i.w.heap.size i.w w') :
    CallsIn F n P f args i.w fun e w'' => e = .returned v ∧ ∃ j : Grew W, w'' = j.w :=
  h.mono fun _ _ ⟨he, hb⟩ => ⟨he, ⟨_, i.below.trans (hb.mono i.below.size)⟩, rfl⟩
theorem wpIn_region_grew {F : Fence} {n : Nat} {P : Program} {id : Nat} {Q : Exit → Act → World → Prop} {a : Act} {W : World} {l : List Oper} (hnd : noDefer l.toArray = true) (hm : P.follows .mixedOrders = true) (hB : Region.lexB .any l.toArray = true)
    (h : wpQuietIn F n P l.toArray (fun w' => ∃ i : Grew W, w' = i.w) (fun a' => ∀ w', (∃ i : Grew W, w' = i.w) → Q .normal a' w') l a) : (Code.region id l.toArray true).wpIn F n P Q a W :=
  wpIn_region_class (fun w' => ∃ i : Grew W, w' = i.w) hnd hm hB ⟨⟨W.drew, (RowKit.Below.refl _ W).drew⟩, rfl⟩ h
end Go.Proofs.Ytchlemajppnehaa

/- The law of slots in a round of a range over a function. -/
namespace Go.Proofs.Ytchlemajppnehaa
open Go

theorem rowsIn_wide {l n : Nat} {P : Program} {row : String} {args : Array Value} {w : World} {R : Value → World → Prop} (h : Rows P row args w R) : RowsIn (Fence.wide.inRound l) n P row args w R := by
  intro c cs _
  obtain ⟨v, w', r, s⟩ := h c cs
  exact ⟨v, w', r, (stepsIn_wide (P := P)).2 s⟩
theorem wpIn_of_wp {l n : Nat} {P : Program} {o : Oper} {a : Act} {w : World} {K : Act → World → Prop} {Q : Exit → Act → World → Prop} (hd : ∀ c, o.op ≠ .defer c) (h : o.wp P a w K Q) : o.wpIn (Fence.wide.inRound l) n P a w K Q := by
  refine ⟨fun _ _ => trivial, ?_⟩
  rw [Oper.semAt_eq _ _ _ hd]
  unfold Oper.wp at h
  generalize (execOp a.eval o).run P w = res at h
  cases res with
  | ok x w' =>
    cases x with
    | value v => exact h
    | skip => exact h
    | defer d => exact h
    | enter f args => exact ⟨fun e => by simp [Fence.wide] at e, CallsIn.inRound l (callsIn_wide.2 h)⟩
    | row row args => exact ⟨fun e => by simp [Fence.wide] at e, rowsIn_wide h⟩
    | _ => first | exact h.elim | exact h
  | halt x w' =>
    cases x with
    | panic v => exact h
    | _ => first | exact h.elim | exact h

theorem countP_lt {l : List Nat} {p q : Nat → Bool} {i : Nat} (hi : i ∈ l) (hpq : ∀ j ∈ l, p j = true → q j = true) (hq : q i = true) (hp : p i = false) : l.countP p < l.countP q := by
  induction l with
  | nil => cases hi
  | cons x l ih =>
    rw [List.countP_cons, List.countP_cons]
    rcases List.mem_cons.1 hi with rfl | hi
    · have := List.countP_mono_left (p := p) (q := q) (l := l) (fun j hj => hpq j (List.mem_cons_of_mem _ hj))
      rw [hq, hp]
      simp
      omega
    · have h1 := ih hi (fun j hj => hpq j (List.mem_cons_of_mem _ hj))
      have h2 := hpq x (List.mem_cons_self ..)
      cases hpx : p x <;> cases hqx : q x <;> simp_all <;> omega

section
variable {P : Program} {ops : Array Oper} {Q : Exit → Act → World → Prop} {le : World → World → Prop} {φ : Nat → Value → World → Prop} {a0 : Act} {w0 : World}
theorem wpAnyIn_of_steps {r n : Nat} (hnd : noDefer ops = true) (trans : ∀ {x y z}, le x y → le y z → le x z) (stable : ∀ j v x y, le x y → φ j v x → φ j v y) (hD : dstsOk ops a0.tmps.size = true)
    (steps : ∀ i o, ops[i]? = some o → StepOk P ops Q le φ a0 w0 i o)
    (fin : ∀ listed a w, Inv ops le φ a0 w0 listed a w → Region.ready .any ops listed = [] → Q .normal a w) :
    ∀ (fuel : Nat) (listed : Array Bool) (a : Act) (w : World), Inv ops le φ a0 w0 listed a w → (List.range ops.size).countP (fun i => !listed.getD i true) ≤ fuel → wpAnyIn (Fence.wide.inRound r) n P .any ops Q fuel listed a w
  | 0, listed, a, w, I, hc => by
    have : Region.ready .any ops listed = [] := by
      rw [List.eq_nil_iff_forall_not_mem]
      intro i hi
      obtain ⟨hn, o, ho, _⟩ := mem_ready.1 hi
      have hlt : i < ops.size := (Array.getElem?_eq_some_iff.1 ho).1
      have : 0 < (List.range ops.size).countP (fun i => !listed.getD i true) := List.countP_pos_iff.2 ⟨i, List.mem_range.2 hlt, by simp only [hn, Bool.not_false]⟩
      omega
    exact ⟨this, fin listed a w I this⟩
  | fuel + 1, listed, a, w, I, hc => by
    refine ⟨fun h => fin listed a w I h, fun i hi => ?_⟩
    obtain ⟨hn, o, ho, _⟩ := mem_ready.1 hi
    have hlt : i < ops.size := (Array.getElem?_eq_some_iff.1 ho).1
    have hs := steps i o ho a w (fun a' w' => wpAnyIn (Fence.wide.inRound r) n P .any ops Q fuel (listed.setIfInBounds i true) a' w') (I.now hi)
      (fun v w' hw hv => wpAnyIn_of_steps hnd trans stable hD steps fin fuel _ _ _ (I.step trans stable hD hi ho hw (fun _ _ => hv)) (by
        have hlt' : i < listed.size := by rw [I.size]; exact hlt
        have h1 : (List.range ops.size).countP (fun j => !(listed.setIfInBounds i true).getD j true) < (List.range ops.size).countP (fun i => !listed.getD i true) := by
          refine countP_lt (i := i) (List.mem_range.2 hlt) ?_ ?_ ?_
          · intro j _ hj
            by_cases hji : j = i
            · subst hji; rw [hn]; rfl
            · rw [getD_set_ne true (Ne.symm hji)] at hj; exact hj
          · rw [hn]; rfl
          · simp [Array.getD_eq_getD_getElem?, Array.getElem?_setIfInBounds_self_of_lt hlt']
        omega))
    unfold wpOpIn
    rw [ho]
    simp only
    split
    · rename_i hw; rw [if_pos hw] at hs; exact wpIn_of_wp (noDefer_spec hnd ho) hs
    · rename_i hw; rw [if_neg hw] at hs; exact ⟨fun _ _ => trivial, hs⟩
/-- The law. -/
theorem wpIn_region_slots {id r n : Nat} {l : List Oper} (le : World → World → Prop) (φ : Nat → Value → World → Prop) (refl : ∀ x, le x x) (trans : ∀ {x y z}, le x y → le y z → le x z) (stable : ∀ j v x y, le x y → φ j v x → φ j v y)
    (hm : P.follows .mixedOrders = true) (hnd : noDefer l.toArray = true) (hF : fwdOk l.toArray = true) (hD : dstsOk l.toArray a0.tmps.size = true)
    (steps : StepsOk P l.toArray Q le φ a0 w0.drew 0 l)
    (fin : ∀ w, le w0.drew w → FinAll φ w (fun a => Q .normal a w) 0 l a0) :
    (Code.region id l.toArray true).wpIn (Fence.wide.inRound r) n P Q a0 w0 := by
  refine wpIn_region_any hm ?_
  refine wpAnyIn_of_steps (le := le) (φ := φ) (a0 := a0) (w0 := w0.drew) hnd trans stable hD (fun i o ho => ?_) (fun listed a w I hr => ?_) _ _ _ _ ?_ ?_
  · have := stepsOk_at l 0 steps i o (by simpa using ho)
    rwa [Nat.zero_add] at this
  · have hall := fun i hi => all_listed hF I.size hr (i + 1) i (Nat.lt_succ_self i) hi
    have hf := finAll_take (fun d => a.eval (.tmp d)) l 0 a0 (fin w I.le) (fun j o d hj hd => by
      rw [Nat.zero_add]
      have hj' : l.toArray[j]? = some o := by simpa using hj
      exact I.done j d (by unfold dstAt; rw [hj']; exact hd) (hall j (Array.getElem?_eq_some_iff.1 hj').1))
    have hin : ∀ o ∈ l, ∀ d, o.dst = some d → d < a0.tmps.size := by
      intro o ho d hd
      obtain ⟨j, hj⟩ := List.getElem?_of_mem ho
      have hj' : l.toArray[j]? = some o := by simpa using hj
      unfold dstsOk at hD
      rw [List.all_eq_true] at hD
      have := hD j (List.mem_range.2 (Array.getElem?_eq_some_iff.1 hj').1)
      have e : dstAt l.toArray j = some d := by unfold dstAt; rw [hj']; exact hd
      rw [e] at this
      simp only [Bool.and_eq_true, decide_eq_true_eq] at this
      exact this.1
    have hs := putAll_size (fun d => a.eval (.tmp d)) l a0
    have : putAll a0 l (fun d => a.eval (.tmp d)) = a := by
      refine act_ext (hs.1.trans I.tmps.symm) (hs.2.trans I.defers.symm) fun k => ?_
      rw [putAll_get _ _ _ _ hin]
      split
      · rfl
      · rename_i h
        refine (I.rest k fun j hj hd => h ?_).symm
        rw [List.any_eq_true]
        unfold dstAt at hd
        cases ho : l.toArray[j]? with
        | none => rw [ho] at hd; cases hd
        | some o =>
          rw [ho] at hd
          exact ⟨o, List.mem_of_getElem? (by simpa using ho), by simpa using hd⟩
    rw [this] at hf
    exact hf
  · refine ⟨by simp, refl _, rfl, rfl, ?_, ?_, fun k _ => rfl⟩
    · intro j o _ hl
      simp only [Array.getD_eq_getD_getElem?, Array.getElem?_replicate] at hl
      split at hl <;> cases hl
    · intro j d _ hl
      simp only [Array.getD_eq_getD_getElem?, Array.getElem?_replicate] at hl
      split at hl <;> cases hl
  · have := List.countP_le_length (p := fun i => !(Array.replicate l.toArray.size false).getD i true) (l := List.range l.toArray.size)
    simpa using this
end
end Go.Proofs.Ytchlemajppnehaa

/- A region that draws its order, whose operations only read, or call what makes memory, ahead of one last operation (a store) that waits for all of them: one walk in the order of the text serves every order. -/
namespace Go.Proofs.Ytchlemajppnehaa
open Go
section
variable {F : Fence} {n : Nat} {P : Program} {md : Region.Mode} {C : World → Prop}

/-- Each operation waits for earlier ones alone. -/
def backB (md : Region.Mode) (ops : Array Oper) : Bool := (List.range ops.size).all fun k => match ops[k]? with | some o => o.after.all (fun e => !Region.binds md e || decide (e.on < k)) | none => true
/-- The operation m waits for all ahead of it. -/
def lastB (md : Region.Mode) (ops : Array Oper) (m : Nat) : Bool := match ops[m]? with | some o => (List.range m).all fun i => o.after.any fun e => Region.binds md e && e.on == i | none => false

theorem ready_ne {ops : Array Oper} {listed : Array Bool} (hb : backB md ops = true) (hs : listed.size = ops.size) {m : Nat} (hm : m < ops.size) (hu : listed.getD m true = false) : Region.ready md ops listed ≠ [] := by
  have key : ∀ k, k < ops.size → listed.getD k true = false → Region.ready md ops listed ≠ [] := by
    intro k
    induction k using Nat.strongRecOn with
    | _ k ih =>
      intro hk hun
      by_cases h : ∃ j, j < k ∧ listed.getD j true = false
      · obtain ⟨j, hj, hju⟩ := h
        exact ih j hj (by omega) hju
      · intro e
        have hmem : k ∈ Region.ready md ops listed := by
          refine mem_ready.2 ⟨hun, ops[k], Array.getElem?_eq_getElem hk, fun ed hed hbd => ?_⟩
          have h1 := List.all_eq_true.1 hb k (List.mem_range.2 hk)
          rw [Array.getElem?_eq_getElem hk] at h1
          have h2 := Array.all_eq_true_iff_forall_mem.1 h1 ed hed
          simp only [hbd, Bool.not_true, Bool.false_or, decide_eq_true_eq] at h2
          have h3 : ¬ listed.getD ed.on true = false := fun h3 => h ⟨ed.on, h2, h3⟩
          have h4 : ed.on < listed.size := by omega
          simp only [Array.getD, h4, dite_true] at h3 ⊢
          simpa using h3
        rw [e] at hmem
        cases hmem
  exact key m hm hu
theorem last_all {ops : Array Oper} {listed : Array Bool} {m : Nat} (hl : lastB md ops m = true) (hr : m ∈ Region.ready md ops listed) : ∀ i, i < m → listed.getD i false = true := by
  intro i hi
  obtain ⟨_, o, ho, hall⟩ := mem_ready.1 hr
  unfold lastB at hl
  rw [ho] at hl
  have h1 := List.all_eq_true.1 hl i (List.mem_range.2 hi)
  obtain ⟨e, he, hb⟩ := Array.any_eq_true'.1 h1
  simp only [Bool.and_eq_true, beq_iff_eq] at hb
  have := hall e he hb.1
  rw [hb.2] at this
  exact this
theorem ready_done {ops : Array Oper} {listed : Array Bool} {m : Nat} (hs : listed.size = ops.size) (hm : m + 1 = ops.size) (h : ∀ i, i < m → listed.getD i false = true) : Region.ready md ops (listed.setIfInBounds m true) = [] := by
  apply List.eq_nil_iff_forall_not_mem.2
  intro j hj
  obtain ⟨hun, o, ho, _⟩ := mem_ready.1 hj
  have hjl : j < ops.size := (Array.getElem?_eq_some_iff.1 ho).1
  by_cases e : j = m
  · subst e
    have : j < listed.size := by omega
    simp [Array.getD, this] at hun
  · have h1 := h j (by omega)
    rw [getD_set_ne true (fun e' => e e'.symm)] at hun
    rw [getD_both hun] at h1
    cases h1
theorem ready_congr {ops ops' : Array Oper} (hsz : ops'.size = ops.size) (haft : ∀ i : Nat, (ops'[i]?).map Oper.after = (ops[i]?).map Oper.after) (listed : Array Bool) : Region.ready md ops' listed = Region.ready md ops listed := by
  unfold Region.ready
  rw [hsz]
  apply List.filter_congr
  intro i _
  have e : ∀ (ops : Array Oper), ((ops[i]?).map (fun o : Oper => o.after.all fun e => !Region.binds md e || listed.getD e.on false)) = ((ops[i]?).map Oper.after).map (fun x => x.all fun e => !Region.binds md e || listed.getD e.on false) := fun ops => by rw [Option.map_map]; rfl
  rw [e ops', e ops, haft i]

/-- An operation that yields nothing, in the place of the last one. -/
def idle (t : Oper) : Oper := { t with op := .move (.const undef) }
def swapL : List Oper → List Oper
  | [] => []
  | [t] => [idle t]
  | o :: p :: r => o :: swapL (p :: r)
theorem swapL_app : ∀ (l : List Oper) (t : Oper), swapL (l ++ [t]) = l ++ [idle t]
  | [], t => rfl
  | [o], t => rfl
  | o :: p :: r, t => by
    show o :: swapL (p :: r ++ [t]) = _
    rw [swapL_app (p :: r) t]
    rfl

variable {ops ops' : Array Oper} {m : Nat} {t : Oper}
theorem yielded_congr (hd : ∀ i : Nat, (ops'[i]?).map Oper.dst = (ops[i]?).map Oper.dst) (tmps : Array Value) : yielded ops' tmps = yielded ops tmps := by
  funext j
  unfold yielded
  have e : ∀ (ops : Array Oper), (ops[j]?).bind Oper.dst = ((ops[j]?).map Oper.dst).bind id := fun ops => by cases ops[j]? <;> rfl
  rw [e ops', e ops, hd j]

theorem wpAnyIn_tail {Q : Act → Prop} {Q' : Exit → Act → World → Prop} (hsz : ops'.size = ops.size) (hm : m + 1 = ops.size) (hother : ∀ i, i ≠ m → ops'[i]? = ops[i]?) (ht : ops[m]? = some t) (ht' : ops'[m]? = some (idle t)) (htd : t.dst = none) (htg : t.guard = none)
    (hback : backB md ops = true) (hlast : lastB md ops m = true) (hnd : noDefer ops = true) (hQ : ∀ a w, C w → Q a → wpListIn F n P ops Q' [t] a w) :
    ∀ (fuel : Nat) (listed : Array Bool) (a : Act) (w : World), listed.size = ops.size → listed.getD m true = false → C w → wpAnyQIn F n P md ops' C Q fuel listed a → wpAnyIn F n P md ops Q' fuel listed a w := by
  have haft : ∀ i : Nat, (ops'[i]?).map Oper.after = (ops[i]?).map Oper.after := fun i => by
    by_cases e : i = m
    · rw [e, ht, ht']; rfl
    · rw [hother i e]
  have hdst : ∀ i : Nat, (ops'[i]?).map Oper.dst = (ops[i]?).map Oper.dst := fun i => by
    by_cases e : i = m
    · rw [e, ht, ht']; rfl
    · rw [hother i e]
  have hrd := ready_congr (md := md) hsz haft
  intro fuel
  induction fuel with
  | zero =>
    intro listed a w hs hu hC h
    have h0 := h.1
    rw [hrd] at h0
    exact absurd h0 (ready_ne hback hs (by omega) hu)
  | succ fuel ih =>
    intro listed a w hs hu hC h
    refine ⟨fun h0 => absurd h0 (ready_ne hback hs (by omega) hu), fun i hi => ?_⟩
    have hi' : i ∈ Region.ready md ops' listed := by rw [hrd]; exact hi
    have hq := h.2 i hi'
    by_cases e : i = m
    · rw [e] at hi hq ⊢
      have hd := ready_done (md := md) hs hm (last_all hlast hi)
      have hQa : Q a := by
        unfold qOpIn at hq
        simp only [ht'] at hq
        have hw : Region.wanted (idle t) (yielded ops' a.tmps) = true := by unfold Region.wanted idle; simp only [htg]
        rw [hw] at hq
        simp only [if_true] at hq
        obtain ⟨_, v, _, hK⟩ := hq
        have hput : a.put (idle t).dst v = a := by
          have : (idle t).dst = none := htd
          rw [this]; rfl
        rw [hput] at hK
        cases fuel with
        | zero => exact hK.2
        | succ f => exact hK.1 (by rw [hrd]; exact hd)
      have hl := hQ a w hC hQa
      unfold wpOpIn
      simp only [ht]
      have hfin : ∀ (a' : Act) (w' : World), Q' .normal a' w' → wpAnyIn F n P md ops Q' fuel (listed.setIfInBounds m true) a' w' := fun a' w' h' => by
        cases fuel with
        | zero => exact ⟨hd, h'⟩
        | succ f => exact ⟨fun _ => h', fun j hj => by rw [hd] at hj; cases hj⟩
      unfold wpListIn at hl
      by_cases hw : Region.wanted t (yielded ops a.tmps) = true
      · rw [if_pos hw] at hl ⊢
        exact Oper.wpIn_mono (fun a' w' h' => hfin a' w' h') hl
      · rw [if_neg hw] at hl ⊢
        exact ⟨hl.1, hfin _ _ hl.2⟩
    · have hun : (listed.setIfInBounds i true).getD m true = false := by
        rw [getD_set_ne true e]
        exact hu
      have hq2 : qOpIn F n P ops C i (wpAnyQIn F n P md ops' C Q fuel (listed.setIfInBounds i true)) a := by
        unfold qOpIn at hq ⊢
        rw [hother i e, yielded_congr hdst] at hq
        exact hq
      exact wpOpIn_of_qOpIn_r hnd hC (fun a' w' hw' hh => ih _ a' w' (by simpa using hs) hun hw' hh) hq2

theorem wpIn_region_tail {id : Nat} {l : List Oper} {Q : Exit → Act → World → Prop} {a : Act} {w : World} (C : World → Prop) (htd : t.dst = none) (htg : t.guard = none) (hback : backB .any (l ++ [t]).toArray = true) (hlast : lastB .any (l ++ [t]).toArray l.length = true)
    (hnd : noDefer (l ++ [t]).toArray = true) (hmx : P.follows .mixedOrders = true) (hB : Region.lexB .any (l ++ [idle t]).toArray = true) (hC : C w.drew)
    (h : wpQuietIn F n P (l ++ [idle t]).toArray C (fun a' => ∀ w', C w' → wpListIn F n P (l ++ [t]).toArray Q [t] a' w') (l ++ [idle t]) a) : (Code.region id (l ++ [t]).toArray true).wpIn F n P Q a w := by
  simp only [Region.lexB, Bool.and_eq_true] at hB
  refine wpIn_region_any hmx ?_
  refine wpAnyIn_tail (C := C) (ops' := (l ++ [idle t]).toArray) (m := l.length) (t := t) (Q := fun a' => ∀ w', C w' → wpListIn F n P (l ++ [t]).toArray Q [t] a' w') (by simp) (by simp) (fun i hi => ?_) (by simp) (by simp) htd htg hback hlast hnd (fun a w hw h => h w hw) _ _ _ _ (by simp) (by simp [Array.getD]) hC ?_
  · simp only [List.getElem?_toArray]
    rcases Nat.lt_or_ge i l.length with h1 | h1
    · rw [List.getElem?_append_left h1, List.getElem?_append_left h1]
    · rw [List.getElem?_eq_none (by simp; omega), List.getElem?_eq_none (by simp; omega)]
  · have h2 := wpAnyQIn_lex (F := F) (n := n) (C := C) (md := .any) hB.1 (l ++ [idle t]) 0 (Array.replicate (l ++ [idle t]).toArray.size false) a (by simp) (by simpa using hB.2) h
    simpa using h2
theorem swapL_eq {L : List Oper} (hne : L ≠ []) : swapL L = L.dropLast ++ [idle (L.getLast hne)] := by
  have h := swapL_app L.dropLast (L.getLast hne)
  rw [List.dropLast_concat_getLast hne] at h
  exact h
/-- At a list that is written out, in the class of the worlds that have grown out of W. -/
theorem wpIn_region_tailG {id : Nat} {L : List Oper} {Q : Exit → Act → World → Prop} {a : Act} {W : World} (hne : L ≠ []) (htd : (L.getLast hne).dst = none) (htg : (L.getLast hne).guard = none) (hback : backB .any L.toArray = true) (hlast : lastB .any L.toArray (L.length - 1) = true)
    (hnd : noDefer L.toArray = true) (hmx : P.follows .mixedOrders = true) (hB : Region.lexB .any (swapL L).toArray = true)
    (h : wpQuietIn F n P (swapL L).toArray (fun w' => ∃ i : Grew W, w' = i.w) (fun a' => ∀ w', (∃ i : Grew W, w' = i.w) → wpListIn F n P L.toArray Q [L.getLast hne] a' w') (swapL L) a) : (Code.region id L.toArray true).wpIn F n P Q a W := by
  have e := List.dropLast_concat_getLast hne
  rw [swapL_eq hne] at hB h
  have h2 := wpIn_region_tail (F := F) (n := n) (P := P) (id := id) (l := L.dropLast) (t := L.getLast hne) (Q := Q) (a := a) (w := W) (fun w' => ∃ i : Grew W, w' = i.w) htd htg (by rw [e]; exact hback) (by rw [e, List.length_dropLast]; exact hlast) (by rw [e]; exact hnd) hmx hB ⟨⟨W.drew, (RowKit.Below.refl _ W).drew⟩, rfl⟩ (by rw [e]; exact h)
  rw [e] at h2
  exact h2
/-- The idle operation at the walk's end. -/
theorem wpQuietIn_idle {ops : Array Oper} {Q : Act → Prop} {a : Act} (htd : t.dst = none) (htg : t.guard = none) (h : Q a) : wpQuietIn F n P ops C Q [idle t] a := by
  refine wpQuietIn_step (fun w _ f hf => ?_) (fun K hK => ?_)
  · simp [Oper.about, idle] at hf
  · have hw : Region.wanted (idle t) (yielded ops a.tmps) = true := by unfold Region.wanted idle; simp only [htg]
    rw [hw]
    simp only [if_true]
    refine ⟨undef, fun w _ => ?_, ?_⟩
    · simp [Oper.quietAtIn, idle, execOp, Oper.quietUponIn]
      rfl
    · have : (idle t).dst = none := htd
      rw [this]
      exact hK _ h
end
end Go.Proofs.Ytchlemajppnehaa

/- The law of slots, the last operation being another matter: it waits for all others, and is walked behind them. -/
namespace Go.Proofs.Ytchlemajppnehaa
open Go

/-- Each operation ahead of m is waited for by one behind it, up to m. -/
def chainB (ops : Array Oper) (m : Nat) : Bool := (List.range m).all fun i => (List.range (m + 1)).any fun j => decide (i < j) && waitsFor ops j i
section
variable {P : Program} {ops : Array Oper} {Q : Exit → Act → World → Prop} {le : World → World → Prop} {φ : Nat → Value → World → Prop} {a0 : Act} {w0 : World}
theorem Inv.dep {listed : Array Bool} {a : Act} {w : World} (I : Inv ops le φ a0 w0 listed a w) {j i : Nat} (hw : waitsFor ops j i = true) (hj : listed.getD j false = true ∨ j ∈ Region.ready .any ops listed) : listed.getD i false = true := by
  unfold waitsFor at hw
  cases ho : ops[j]? with
  | none => rw [ho] at hw; cases hw
  | some o =>
    rw [ho] at hw
    simp only [Option.map_some, Option.getD_some] at hw
    rw [Array.any_eq_true'] at hw
    obtain ⟨e, he, hb⟩ := hw
    simp only [Bool.and_eq_true, beq_iff_eq] at hb
    rw [← hb.2]
    rcases hj with hj | hj
    · exact I.closed j o ho hj e he hb.1
    · obtain ⟨_, o', ho', hall⟩ := mem_ready.1 hj
      rw [ho] at ho'; cases ho'
      exact hall e he hb.1
theorem Inv.last {listed : Array Bool} {a : Act} {w : World} (I : Inv ops le φ a0 w0 listed a w) {m : Nat} (hc : chainB ops m = true) (hm : m ∈ Region.ready .any ops listed) : ∀ k i, m ≤ i + k → i < m → listed.getD i false = true
  | 0, i, h, hi => by omega
  | k + 1, i, h, hi => by
    unfold chainB at hc
    have h1 := List.all_eq_true.1 hc i (List.mem_range.2 hi)
    obtain ⟨j, hj, h2⟩ := List.any_eq_true.1 h1
    simp only [Bool.and_eq_true, decide_eq_true_eq] at h2
    rw [List.mem_range] at hj
    by_cases hjm : j = m
    · subst hjm; exact I.dep h2.2 (.inr hm)
    · exact I.dep h2.2 (.inl (I.last hc hm k j (by omega) (by omega)))

theorem wpIn_region_slotsT_any {l : List Oper} {t : Oper} {r n : Nat} (hnd : noDefer ops = true) (hops : ops = (l ++ [t]).toArray) (htg : t.guard = none) (hF : fwdOk ops = true) (hc : chainB ops l.length = true) (trans : ∀ {x y z}, le x y → le y z → le x z) (stable : ∀ j v x y, le x y → φ j v x → φ j v y) (hD : dstsOk ops a0.tmps.size = true)
    (steps : ∀ i o, i < l.length → ops[i]? = some o → StepOk P ops Q le φ a0 w0 i o)
    (fin : ∀ w, le w0 w → FinAll φ w (fun a => wpListIn (Fence.wide.inRound r) n P ops Q [t] a w) 0 l a0) :
    ∀ (fuel : Nat) (listed : Array Bool) (a : Act) (w : World), Inv ops le φ a0 w0 listed a w → listed.getD l.length true = false → (List.range ops.size).countP (fun i => !listed.getD i true) ≤ fuel → wpAnyIn (Fence.wide.inRound r) n P .any ops Q fuel listed a w
  | 0, listed, a, w, I, hu, hcnt => by
    have hlt : l.length < ops.size := by rw [hops]; simp
    have : 0 < (List.range ops.size).countP (fun i => !listed.getD i true) := List.countP_pos_iff.2 ⟨l.length, List.mem_range.2 hlt, by simp only [hu, Bool.not_false]⟩
    omega
  | fuel + 1, listed, a, w, I, hu, hcnt => by
    have hlt : l.length < ops.size := by rw [hops]; simp
    have ht : ops[l.length]? = some t := by rw [hops]; simp
    have hne : Region.ready .any ops listed ≠ [] := fun e => by
      have h1 := all_listed hF I.size e (l.length + 1) l.length (Nat.lt_succ_self _) hlt
      rw [getD_true_false (by rw [I.size]; exact hlt) hu] at h1
      cases h1
    refine ⟨fun h => absurd h hne, fun i hi => ?_⟩
    obtain ⟨hn, o, ho, _⟩ := mem_ready.1 hi
    have hilt : i < ops.size := (Array.getElem?_eq_some_iff.1 ho).1
    by_cases him : i = l.length
    · subst him
      rw [ht] at ho; cases ho
      have hall : ∀ j, j < l.length → listed.getD j false = true := fun j hj => I.last hc hi l.length j (by omega) hj
      have hidx : ∀ j o, l[j]? = some o → ops[j]? = some o := fun j o hj => by
        rw [hops, List.getElem?_toArray, List.getElem?_append_left (List.getElem?_eq_some_iff.1 hj).1]; exact hj
      have hf := finAll_take (fun d => a.eval (.tmp d)) l 0 a0 (fin w I.le) (fun j o d hj hd => by
        rw [Nat.zero_add]
        exact I.done j d (by unfold dstAt; rw [hidx j o hj]; exact hd) (hall j (List.getElem?_eq_some_iff.1 hj).1))
      have hin : ∀ o ∈ l, ∀ d, o.dst = some d → d < a0.tmps.size := by
        intro o ho d hd
        obtain ⟨j, hj⟩ := List.getElem?_of_mem ho
        have hj' := hidx j o hj
        unfold dstsOk at hD
        rw [List.all_eq_true] at hD
        have := hD j (List.mem_range.2 (Array.getElem?_eq_some_iff.1 hj').1)
        have e : dstAt ops j = some d := by unfold dstAt; rw [hj']; exact hd
        rw [e] at this
        simp only [Bool.and_eq_true, decide_eq_true_eq] at this
        exact this.1
      have hs := putAll_size (fun d => a.eval (.tmp d)) l a0
      have hpa : putAll a0 l (fun d => a.eval (.tmp d)) = a := by
        refine act_ext (hs.1.trans I.tmps.symm) (hs.2.trans I.defers.symm) fun k => ?_
        rw [putAll_get _ _ _ _ hin]
        split
        · rfl
        · rename_i h
          refine (I.rest k fun j hj hd => h ?_).symm
          rw [List.any_eq_true]
          have hjl : j ≠ l.length := fun e => by
            subst e
            rw [getD_true_false (by rw [I.size]; exact hlt) hu] at hj
            cases hj
          unfold dstAt at hd
          cases ho : ops[j]? with
          | none => rw [ho] at hd; cases hd
          | some o =>
            rw [ho] at hd
            have hj2 : j < ops.size := (Array.getElem?_eq_some_iff.1 ho).1
            have hjlt : j < l.length := by have : ops.size = l.length + 1 := by rw [hops]; simp
                                           omega
            refine ⟨o, ?_, by simpa using hd⟩
            rw [hops, List.getElem?_toArray, List.getElem?_append_left hjlt] at ho
            exact List.mem_of_getElem? ho
      rw [hpa] at hf
      have hd : Region.ready .any ops (listed.setIfInBounds l.length true) = [] := ready_done I.size (by rw [hops]; simp) hall
      have hw : Region.wanted t (yielded ops a.tmps) = true := wanted_no htg
      unfold wpOpIn
      simp only [ht]
      have hfin : ∀ (a' : Act) (w' : World), Q .normal a' w' → wpAnyIn (Fence.wide.inRound r) n P .any ops Q fuel (listed.setIfInBounds l.length true) a' w' := fun a' w' h' => by
        cases fuel with
        | zero => exact ⟨hd, h'⟩
        | succ f => exact ⟨fun _ => h', fun j hj => by rw [hd] at hj; cases hj⟩
      unfold wpListIn at hf
      rw [if_pos hw] at hf ⊢
      exact Oper.wpIn_mono (fun a' w' h' => hfin a' w' h') hf
    · have hs := steps i o (by have : ops.size = l.length + 1 := by rw [hops]; simp
                               omega) ho a w (fun a' w' => wpAnyIn (Fence.wide.inRound r) n P .any ops Q fuel (listed.setIfInBounds i true) a' w') (I.now hi)
        (fun v w' hw hv => wpIn_region_slotsT_any hnd hops htg hF hc trans stable hD steps fin fuel _ _ _ (I.step trans stable hD hi ho hw (fun _ _ => hv)) (by rw [getD_set_ne true him]; exact hu) (by
          have hlt' : i < listed.size := by rw [I.size]; exact hilt
          have h1 : (List.range ops.size).countP (fun j => !(listed.setIfInBounds i true).getD j true) < (List.range ops.size).countP (fun i => !listed.getD i true) := by
            refine countP_lt (i := i) (List.mem_range.2 hilt) ?_ ?_ ?_
            · intro j _ hj
              by_cases hji : j = i
              · subst hji; rw [hn]; rfl
              · rw [getD_set_ne true (Ne.symm hji)] at hj; exact hj
            · rw [hn]; rfl
            · simp [Array.getD_eq_getD_getElem?, Array.getElem?_setIfInBounds_self_of_lt hlt']
          omega))
      unfold wpOpIn
      rw [ho]
      simp only
      split
      · rename_i hw; rw [if_pos hw] at hs; exact wpIn_of_wp (noDefer_spec hnd ho) hs
      · rename_i hw; rw [if_neg hw] at hs; exact ⟨fun _ _ => trivial, hs⟩

/-- The law. -/
theorem wpIn_region_slotsT {id : Nat} {l : List Oper} {t : Oper} {r n : Nat} (hnd : noDefer (l ++ [t]).toArray = true) (le : World → World → Prop) (φ : Nat → Value → World → Prop) (refl : ∀ x, le x x) (trans : ∀ {x y z}, le x y → le y z → le x z) (stable : ∀ j v x y, le x y → φ j v x → φ j v y)
    (hm : P.follows .mixedOrders = true) (htg : t.guard = none) (hF : fwdOk (l ++ [t]).toArray = true) (hc : chainB (l ++ [t]).toArray l.length = true) (hD : dstsOk (l ++ [t]).toArray a0.tmps.size = true)
    (steps : StepsOk P (l ++ [t]).toArray Q le φ a0 w0.drew 0 l)
    (fin : ∀ w, le w0.drew w → FinAll φ w (fun a => wpListIn (Fence.wide.inRound r) n P (l ++ [t]).toArray Q [t] a w) 0 l a0) :
    (Code.region id (l ++ [t]).toArray true).wpIn (Fence.wide.inRound r) n P Q a0 w0 := by
  refine wpIn_region_any hm ?_
  refine wpIn_region_slotsT_any hnd (le := le) (φ := φ) (a0 := a0) (w0 := w0.drew) rfl htg hF hc trans stable hD (fun i o hi ho => ?_) fin _ _ _ _ ?_ ?_ ?_
  · have hl : l[i]? = some o := by rw [List.getElem?_toArray, List.getElem?_append_left hi] at ho; exact ho
    have := stepsOk_at l 0 steps i o hl
    rwa [Nat.zero_add] at this
  · refine ⟨by simp, refl _, rfl, rfl, ?_, ?_, fun k _ => rfl⟩
    · intro j o _ hl
      simp only [Array.getD_eq_getD_getElem?, Array.getElem?_replicate] at hl
      split at hl <;> cases hl
    · intro j d _ hl
      simp only [Array.getD_eq_getD_getElem?, Array.getElem?_replicate] at hl
      split at hl <;> cases hl
  · simp [Array.getD_eq_getD_getElem?]
  · have := List.countP_le_length (p := fun i => !(Array.replicate (l ++ [t]).toArray.size false).getD i true) (l := List.range (l ++ [t]).toArray.size)
    simpa using this
/-- At a list that is written out. -/
theorem wpIn_region_slotsTL {id : Nat} {L : List Oper} {r n : Nat} (hnd : noDefer L.toArray = true) (hne : L ≠ []) (le : World → World → Prop) (φ : Nat → Value → World → Prop) (refl : ∀ x, le x x) (trans : ∀ {x y z}, le x y → le y z → le x z) (stable : ∀ j v x y, le x y → φ j v x → φ j v y)
    (hm : P.follows .mixedOrders = true) (htg : (L.getLast hne).guard = none) (hF : fwdOk L.toArray = true) (hc : chainB L.toArray (L.length - 1) = true) (hD : dstsOk L.toArray a0.tmps.size = true)
    (steps : StepsOk P L.toArray Q le φ a0 w0.drew 0 L.dropLast)
    (fin : ∀ w, le w0.drew w → FinAll φ w (fun a => wpListIn (Fence.wide.inRound r) n P L.toArray Q [L.getLast hne] a w) 0 L.dropLast a0) :
    (Code.region id L.toArray true).wpIn (Fence.wide.inRound r) n P Q a0 w0 := by
  have e := List.dropLast_concat_getLast hne
  have h := wpIn_region_slotsT (id := id) (l := L.dropLast) (t := L.getLast hne) (Q := Q) (a0 := a0) (w0 := w0) (by rw [e]; exact hnd) le φ refl trans stable hm htg (by rw [e]; exact hF) (by rw [e, List.length_dropLast]; exact hc) (by rw [e]; exact hD) (by rw [e]; exact steps) (fun w hw => by rw [e]; exact fin w hw)
  rw [e] at h
  exact h

theorem wp_region_slotsT_any {l : List Oper} {t : Oper} (hops : ops = (l ++ [t]).toArray) (htg : t.guard = none) (hF : fwdOk ops = true) (hc : chainB ops l.length = true) (trans : ∀ {x y z}, le x y → le y z → le x z) (stable : ∀ j v x y, le x y → φ j v x → φ j v y) (hD : dstsOk ops a0.tmps.size = true)
    (steps : ∀ i o, i < l.length → ops[i]? = some o → StepOk P ops Q le φ a0 w0 i o)
    (fin : ∀ w, le w0 w → FinAll φ w (fun a => wpList P ops Q [t] a w) 0 l a0) :
    ∀ (fuel : Nat) (listed : Array Bool) (a : Act) (w : World), Inv ops le φ a0 w0 listed a w → listed.getD l.length true = false → (List.range ops.size).countP (fun i => !listed.getD i true) ≤ fuel → wpAny P .any ops Q fuel listed a w
  | 0, listed, a, w, I, hu, hcnt => by
    have hlt : l.length < ops.size := by rw [hops]; simp
    have : 0 < (List.range ops.size).countP (fun i => !listed.getD i true) := List.countP_pos_iff.2 ⟨l.length, List.mem_range.2 hlt, by simp only [hu, Bool.not_false]⟩
    omega
  | fuel + 1, listed, a, w, I, hu, hcnt => by
    have hlt : l.length < ops.size := by rw [hops]; simp
    have ht : ops[l.length]? = some t := by rw [hops]; simp
    have hne : Region.ready .any ops listed ≠ [] := fun e => by
      have h1 := all_listed hF I.size e (l.length + 1) l.length (Nat.lt_succ_self _) hlt
      rw [getD_true_false (by rw [I.size]; exact hlt) hu] at h1
      cases h1
    refine ⟨fun h => absurd h hne, fun i hi => ?_⟩
    obtain ⟨hn, o, ho, _⟩ := mem_ready.1 hi
    have hilt : i < ops.size := (Array.getElem?_eq_some_iff.1 ho).1
    by_cases him : i = l.length
    · subst him
      rw [ht] at ho; cases ho
      have hall : ∀ j, j < l.length → listed.getD j false = true := fun j hj => I.last hc hi l.length j (by omega) hj
      have hidx : ∀ j o, l[j]? = some o → ops[j]? = some o := fun j o hj => by
        rw [hops, List.getElem?_toArray, List.getElem?_append_left (List.getElem?_eq_some_iff.1 hj).1]; exact hj
      have hf := finAll_take (fun d => a.eval (.tmp d)) l 0 a0 (fin w I.le) (fun j o d hj hd => by
        rw [Nat.zero_add]
        exact I.done j d (by unfold dstAt; rw [hidx j o hj]; exact hd) (hall j (List.getElem?_eq_some_iff.1 hj).1))
      have hin : ∀ o ∈ l, ∀ d, o.dst = some d → d < a0.tmps.size := by
        intro o ho d hd
        obtain ⟨j, hj⟩ := List.getElem?_of_mem ho
        have hj' := hidx j o hj
        unfold dstsOk at hD
        rw [List.all_eq_true] at hD
        have := hD j (List.mem_range.2 (Array.getElem?_eq_some_iff.1 hj').1)
        have e : dstAt ops j = some d := by unfold dstAt; rw [hj']; exact hd
        rw [e] at this
        simp only [Bool.and_eq_true, decide_eq_true_eq] at this
        exact this.1
      have hs := putAll_size (fun d => a.eval (.tmp d)) l a0
      have hpa : putAll a0 l (fun d => a.eval (.tmp d)) = a := by
        refine act_ext (hs.1.trans I.tmps.symm) (hs.2.trans I.defers.symm) fun k => ?_
        rw [putAll_get _ _ _ _ hin]
        split
        · rfl
        · rename_i h
          refine (I.rest k fun j hj hd => h ?_).symm
          rw [List.any_eq_true]
          have hjl : j ≠ l.length := fun e => by
            subst e
            rw [getD_true_false (by rw [I.size]; exact hlt) hu] at hj
            cases hj
          unfold dstAt at hd
          cases ho : ops[j]? with
          | none => rw [ho] at hd; cases hd
          | some o =>
            rw [ho] at hd
            have hj2 : j < ops.size := (Array.getElem?_eq_some_iff.1 ho).1
            have hjlt : j < l.length := by have : ops.size = l.length + 1 := by rw [hops]; simp
                                           omega
            refine ⟨o, ?_, by simpa using hd⟩
            rw [hops, List.getElem?_toArray, List.getElem?_append_left hjlt] at ho
            exact List.mem_of_getElem? ho
      rw [hpa] at hf
      have hd : Region.ready .any ops (listed.setIfInBounds l.length true) = [] := ready_done I.size (by rw [hops]; simp) hall
      have hw : Region.wanted t (yielded ops a.tmps) = true := wanted_no htg
      unfold wpOp
      simp only [ht]
      have hfin : ∀ (a' : Act) (w' : World), Q .normal a' w' → wpAny P .any ops Q fuel (listed.setIfInBounds l.length true) a' w' := fun a' w' h' => by
        cases fuel with
        | zero => exact ⟨hd, h'⟩
        | succ f => exact ⟨fun _ => h', fun j hj => by rw [hd] at hj; cases hj⟩
      unfold wpList at hf
      rw [if_pos hw] at hf ⊢
      exact hf.imp (fun h => Oper.wp_mono (fun a' w' h' => hfin a' w' h') h) id
    · have hs := steps i o (by have : ops.size = l.length + 1 := by rw [hops]; simp
                               omega) ho a w (fun a' w' => wpAny P .any ops Q fuel (listed.setIfInBounds i true) a' w') (I.now hi)
        (fun v w' hw hv => wp_region_slotsT_any hops htg hF hc trans stable hD steps fin fuel _ _ _ (I.step trans stable hD hi ho hw (fun _ _ => hv)) (by rw [getD_set_ne true him]; exact hu) (by
          have hlt' : i < listed.size := by rw [I.size]; exact hilt
          have h1 : (List.range ops.size).countP (fun j => !(listed.setIfInBounds i true).getD j true) < (List.range ops.size).countP (fun i => !listed.getD i true) := by
            refine countP_lt (i := i) (List.mem_range.2 hilt) ?_ ?_ ?_
            · intro j _ hj
              by_cases hji : j = i
              · subst hji; rw [hn]; rfl
              · rw [getD_set_ne true (Ne.symm hji)] at hj; exact hj
            · rw [hn]; rfl
            · simp [Array.getD_eq_getD_getElem?, Array.getElem?_setIfInBounds_self_of_lt hlt']
          omega))
      unfold wpOp
      rw [ho]
      simp only
      split
      · rename_i hw; rw [if_pos hw] at hs; exact .inl hs
      · rename_i hw; rw [if_neg hw] at hs; exact hs

/-- The law. -/
theorem wp_region_slotsT {id : Nat} {l : List Oper} {t : Oper} (le : World → World → Prop) (φ : Nat → Value → World → Prop) (refl : ∀ x, le x x) (trans : ∀ {x y z}, le x y → le y z → le x z) (stable : ∀ j v x y, le x y → φ j v x → φ j v y)
    (hm : P.follows .mixedOrders = true) (htg : t.guard = none) (hF : fwdOk (l ++ [t]).toArray = true) (hc : chainB (l ++ [t]).toArray l.length = true) (hD : dstsOk (l ++ [t]).toArray a0.tmps.size = true)
    (steps : StepsOk P (l ++ [t]).toArray Q le φ a0 w0.drew 0 l)
    (fin : ∀ w, le w0.drew w → FinAll φ w (fun a => wpList P (l ++ [t]).toArray Q [t] a w) 0 l a0) :
    (Code.region id (l ++ [t]).toArray true).wp P Q a0 w0 := by
  refine wp_region_any hm ?_
  refine wp_region_slotsT_any (le := le) (φ := φ) (a0 := a0) (w0 := w0.drew) rfl htg hF hc trans stable hD (fun i o hi ho => ?_) fin _ _ _ _ ?_ ?_ ?_
  · have hl : l[i]? = some o := by rw [List.getElem?_toArray, List.getElem?_append_left hi] at ho; exact ho
    have := stepsOk_at l 0 steps i o hl
    rwa [Nat.zero_add] at this
  · refine ⟨by simp, refl _, rfl, rfl, ?_, ?_, fun k _ => rfl⟩
    · intro j o _ hl
      simp only [Array.getD_eq_getD_getElem?, Array.getElem?_replicate] at hl
      split at hl <;> cases hl
    · intro j d _ hl
      simp only [Array.getD_eq_getD_getElem?, Array.getElem?_replicate] at hl
      split at hl <;> cases hl
  · simp [Array.getD_eq_getD_getElem?]
  · have := List.countP_le_length (p := fun i => !(Array.replicate (l ++ [t]).toArray.size false).getD i true) (l := List.range (l ++ [t]).toArray.size)
    simpa using this
/-- At a list that is written out. -/
theorem wp_region_slotsTL {id : Nat} {L : List Oper} (hne : L ≠ []) (le : World → World → Prop) (φ : Nat → Value → World → Prop) (refl : ∀ x, le x x) (trans : ∀ {x y z}, le x y → le y z → le x z) (stable : ∀ j v x y, le x y → φ j v x → φ j v y)
    (hm : P.follows .mixedOrders = true) (htg : (L.getLast hne).guard = none) (hF : fwdOk L.toArray = true) (hc : chainB L.toArray (L.length - 1) = true) (hD : dstsOk L.toArray a0.tmps.size = true)
    (steps : StepsOk P L.toArray Q le φ a0 w0.drew 0 L.dropLast)
    (fin : ∀ w, le w0.drew w → FinAll φ w (fun a => wpList P L.toArray Q [L.getLast hne] a w) 0 L.dropLast a0) :
    (Code.region id L.toArray true).wp P Q a0 w0 := by
  have e := List.dropLast_concat_getLast hne
  have h := wp_region_slotsT (id := id) (l := L.dropLast) (t := L.getLast hne) (Q := Q) (a0 := a0) (w0 := w0) le φ refl trans stable hm htg (by rw [e]; exact hF) (by rw [e, List.length_dropLast]; exact hc) (by rw [e]; exact hD) (by rw [e]; exact steps) (fun w hw => by rw [e]; exact fin w hw)
  rw [e] at h
  exact h
end
end Go.Proofs.Ytchlemajppnehaa

/- append in a region that draws its order: rows of the region's own are kept (a relation for the law of slots). -/
set_option maxRecDepth 100000
namespace Go.Proofs.Ytchlemajppnehaa
open Go Go.RowKit Go.Shelf
theorem Blk.setCells {B : Nat} {t : TypeId} : ∀ (vs : List Value) (o : Nat) (W : World) (l : List Value), Blk W B l t → o + vs.length ≤ l.length → Blk (W.setCells B o vs) B (l.take o ++ vs ++ l.drop (o + vs.length)) t ∧ Trn (fun k => k = B) W (W.setCells B o vs)
  | [], o, W, l, h, _ => ⟨by simpa [World.setCells] using h, Trn.refl _ _⟩
  | v :: vs, o, W, l, h, hl => by
    simp only [List.length_cons] at hl
    have h1 := h.set o v
    obtain ⟨h2, h3⟩ := Blk.setCells vs (o + 1) (W.setCell ⟨B, o, none⟩ v) (l.set o v) h1 (by simp; omega)
    refine ⟨?_, (Trn.set1 h o v).trans (h3.to (.inl rfl))⟩
    have e : (l.set o v).take (o + 1) ++ vs ++ (l.set o v).drop (o + 1 + vs.length) = l.take o ++ v :: vs ++ l.drop (o + (vs.length + 1)) := by
      rw [List.take_succ_eq_append_getElem (by simp; omega), List.getElem_set_self, List.take_set_of_le (by omega), List.drop_set_of_lt (by omega)]
      simp [Nat.add_assoc, Nat.add_comm 1]
    rw [List.length_cons, ← e]
    exact h2
theorem eval_tmp9 (a : Act) (k : Nat) : a.eval (.tmp k) = a.tmps[k]?.getD undef := by simp [Act.eval]
/-- Each predicate stands when the world goes on by le. -/
def StableBy (le : World → World → Prop) : List (Value → World → Prop) → Prop
  | [] => True
  | p :: l => (∀ v x y, le x y → p v x → p v y) ∧ StableBy le l
theorem slotPhi_by {le : World → World → Prop} : ∀ {l : List (Value → World → Prop)}, StableBy le l → ∀ j v x y, le x y → slotPhi l j v x → slotPhi l j v y
  | [], _, _, _, _, _, _, _ => trivial
  | _p :: _l, h, 0, v, x, y, hxy, hp => h.1 v x y hxy hp
  | _p :: l, h, j + 1, v, x, y, hxy, hp => slotPhi_by (l := l) h.2 j v x y hxy hp
def rowsKept {α : Type} (enc : α → List Value) (k : Nat) (e : TypeId) (base : Nat) (L : List α) (W W' : World) : Prop := ∀ v j, OwnK enc k e base v (L.take j) W → OwnK enc k e base v (L.take j) W'
def leRow {α : Type} (enc : α → List Value) (k : Nat) (e : TypeId) (base : Nat) (L : List α) (W W' : World) : Prop := Below base W W' ∧ rowsKept enc k e base L W W'
section
variable {α : Type} {enc : α → List Value} {k : Nat} {e : TypeId} {base : Nat} {L : List α}
theorem leRow_refl (W : World) : leRow enc k e base L W W := ⟨Below.refl _ W, fun _ _ h => h⟩
theorem leRow_trans {x y z : World} (h : leRow enc k e base L x y) (g : leRow enc k e base L y z) : leRow enc k e base L x z := ⟨h.1.trans g.1, fun v j o => g.2 v j (h.2 v j o)⟩
theorem leRow_of {x y : World} (h : slotLe x y) (hb : base ≤ x.heap.size) : leRow enc k e base L x y := ⟨h.mono hb, fun _ _ o => ownK_below o h⟩
/-- Cells that are written as the long list says keep all its beginnings. -/
theorem kept_take {F cur new : List Value} {a q : Nat} (h1 : ∀ i, i < a → new[i]? = F[i]?) (h2 : ∀ i, a ≤ i → new[i]? = cur[i]?) (hc : cur.take q = F.take q) : new.take q = F.take q := by
  apply List.ext_getElem?
  intro i
  rw [List.getElem?_take, List.getElem?_take]
  split
  · rename_i hi
    by_cases ha : i < a
    · exact h1 i ha
    · have h3 := congrArg (fun l => l[i]?) hc
      simp only [List.getElem?_take, if_pos hi] at h3
      rw [h2 i (by omega), h3]
  · rfl
theorem flat_prefix {l L : List α} (h : l <+: L) : ∃ R, L.flatMap enc = l.flatMap enc ++ R := by
  obtain ⟨t, rfl⟩ := h
  exact ⟨t.flatMap enc, List.flatMap_append⟩
theorem run_apKeep {P : Program} (hk : ∀ a, (enc a).length = k) (h0 : 0 < k) (henc : ∀ a, ∀ u ∈ enc a, u.oneCell' = true) {x : Nat → Prop} (w : World) (t ty : TypeId) (z : Value) (bytes : Nat) (h1 : P.underlying t = some (.slice e))
    (h2 : (P.info? e).map (fun i => (i.zero, i.size, i.bytes)) = some (some z, k, bytes)) (hz : z.cells.size = k) (v : Value) (l : List α) (hown : OwnK enc k e base v l w) (yv : Value) (news : List α) (hy : RK enc x yv news w) (b1 : l.length + news.length ≤ 1000000) (b2 : bytes ≤ 1000) (hb : base ≤ w.heap.size) (hL : (l ++ news) <+: L) :
    ∃ v' w', (Builtin.append_ #[t, t] ty #[v, yv]).run P w = .ok v' w' ∧ OwnK enc k e base v' (l ++ news) w' ∧ leRow enc k e base L w w' ∧ ∀ a', (l = [] → ∀ b, news = [b] → b = a') → ∀ g, Blk w g (enc a') e → Blk w' g (enc a') e := by
  obtain ⟨v', w', hrun, ho, hg, hat⟩ := run_apRK (P := P) hk h0 henc w base t ty e z bytes h1 h2 hz v l hown yv news hy b1 b2 hb
  suffices hh : rowsKept enc k e base L w w' ∧ ∀ a', (l = [] → ∀ b, news = [b] → b = a') → ∀ g, Blk w g (enc a') e → Blk w' g (enc a') e from ⟨v', w', hrun, ho, ⟨below_ownK hown hg hb, hh.1⟩, hh.2⟩
  obtain ⟨i, hi, hz0, hz1, hz2⟩ := info_parts h2
  have hown2 := hown
  rcases hown2.2 with ⟨rfl, hn⟩ | ⟨g, cap, cur, rfl, hbg, hg0, hnc, hcm, hcs, htake⟩
  · exact ⟨fun v0 j o => ownK_grown (row := none) o hg (fun _ _ e => by cases e), fun a' _ g hB => hB.kept (hg.block g hB.lt (fun e => by cases e))⟩
  obtain ⟨ao, cap', rfl, hcap', hc⟩ := hy.form
  by_cases hn : news = []
  · subst hn
    have hr : (Builtin.append_ #[t, t] ty #[.slice (some ⟨g, 0, none⟩) l.length cap, .slice ao ([] : List α).length cap']).run P w = .ok (.slice (some ⟨g, 0, none⟩) l.length cap) w := by
      cases ao with
      | none => exact run_append_nothing (P := P) w t t ty e i h1 hi _ l.length cap hnc _ (Src.ofNil w h1 cap')
      | some ad => exact run_append_nothing (P := P) w t t ty e i h1 hi _ l.length cap hnc _ (Src.ofSlice _ h1 ad 0 cap' [] (by simp) (fun j v hj => by simp at hj) (by simp))
    rw [hr] at hrun
    cases hrun
    exact ⟨fun _ _ o => o, fun _ _ _ hB => hB⟩
  have hpos : 0 < news.length := List.length_pos_iff.2 hn
  have hfl : (news.flatMap enc).length = news.length * k := flat_len enc k hk news
  have hll : (l.flatMap enc).length = l.length * k := flat_len enc k hk l
  obtain ⟨b, off, rfl, _, _⟩ := hc 0 ((news.flatMap enc)[0]'(by rw [hfl]; exact Nat.mul_pos hpos h0)) (List.getElem?_eq_getElem _)
  have hnew : ∀ j u, (news.flatMap enc)[j]? = some u → w.cell? ((⟨b, off, none⟩ : Addr).add j) = some u := fun j u hu => by
    obtain ⟨b', off', e', _, c⟩ := hc j u hu
    cases e'
    have e2 : (⟨b, off, none⟩ : Addr).add j = ⟨b, off + j, none⟩ := by unfold Addr.add; split <;> simp_all
    rw [e2]; exact c
  have hblk : Blk w g cur.toList e := by show w.heap[g]? = some (.cells cur.toList.toArray e (0, 0)); rw [hg0]
  have hlen : cur.toList.length = cap * k := by rw [Array.length_toList]; exact hcs
  have hmax : l.length + news.length ≤ maxLen := Nat.le_trans b1 (by unfold maxLen; decide)
  by_cases hroom : l.length + news.length ≤ cap
  · have hmk : (l.length + news.length) * k ≤ cap * k := Nat.mul_le_mul_right k hroom
    rw [Nat.add_mul] at hmk
    have hcell : ∀ j, j < (news.flatMap enc).length → (w.cell? ⟨g, 0 + l.length * i.size + j, none⟩).isSome = true := fun j hj => by
      rw [hblk.cell (i := 0 + l.length * i.size + j) (v := cur.toList[0 + l.length * i.size + j]'(by rw [hlen, hz1]; omega)) (List.getElem?_eq_getElem _)]
      rfl
    have hr := run_append_room_cells (P := P) w t ty e i h1 hi g 0 l.length cap ⟨b, off, none⟩ news.length cap' (news.flatMap enc) (by rw [hfl, hz1]) hnew (fun u hu => by obtain ⟨a, _, ha⟩ := List.mem_flatMap.1 hu; exact henc a u ha) hroom hcell (fun j _ => hblk.frozen _)
    rw [hr] at hrun
    cases hrun
    rw [Nat.zero_add, hz1]
    obtain ⟨hB, hT⟩ := Blk.setCells (news.flatMap enc) (l.length * k) w cur.toList hblk (by rw [hlen, hfl]; omega)
    refine ⟨fun v0 j o => ?_, fun a' ha' g' hB' => ?_⟩
    case refine_2 =>
      by_cases hgg : g' = g
      · subst hgg
        have h5 := hB'.cells hblk
        have h6 : k = cap * k := by rw [← hlen, ← h5, hk]
        have h7 : cap = 1 := by
          rcases Nat.lt_or_ge cap 1 with h | h
          · obtain rfl : cap = 0 := by omega
            omega
          · rcases Nat.lt_or_ge 1 cap with h | h
            · have := Nat.mul_le_mul_right k h
              omega
            · omega
        have h8 : l = [] := List.length_eq_zero_iff.1 (by omega)
        obtain ⟨b', hb'⟩ := List.length_eq_one_iff.1 (show news.length = 1 by omega)
        obtain rfl := ha' h8 b' hb'
        subst h8 hb'
        rw [← h5] at hB
        simp only [List.length_nil, Nat.zero_mul, List.take_zero, List.nil_append, Nat.zero_add, List.flatMap_cons, List.flatMap_nil, List.append_nil, List.drop_length] at hB ⊢
        exact hB
      · exact hB'.kept (hT.block g' hB'.lt hgg)
    rcases o.2 with ⟨rfl, hn0⟩ | ⟨g0, cap0, cur0, rfl, hbg0, hg00, hnc0, hcm0, hcs0, ht0⟩
    · exact ⟨o.1, .inl ⟨rfl, hn0⟩⟩
    · by_cases hgg : g0 = g
      · subst hgg
        rw [hg0] at hg00
        injection hg00 with hg00
        injection hg00 with hcc _
        subst hcc
        refine ⟨o.1, .inr ⟨g0, cap0, _, rfl, hbg0, hB, hnc0, hcm0, ?_, ?_⟩⟩
        · have h9 : cap * k = cap0 * k := hcs.symm.trans hcs0
          rw [List.size_toArray, List.length_append, List.length_append, List.length_take, List.length_drop, hlen, hfl]
          omega
        · obtain ⟨R, hR⟩ := flat_prefix (enc := enc) hL
          have hF : (L.take j).flatMap enc = (L.flatMap enc).take ((L.take j).length * k) := by
            have h3 : L.flatMap enc = (L.take j).flatMap enc ++ (L.drop j).flatMap enc := by rw [← List.flatMap_append, List.take_append_drop]
            rw [h3, List.take_left' (flat_len enc k hk _)]
          rw [hF] at ht0
          rw [hF]
          have htk : cur.toList.take (l.length * k) = l.flatMap enc := htake
          have hnl : (cur.toList.take (l.length * k) ++ news.flatMap enc) = (l ++ news).flatMap enc := by rw [htk, List.flatMap_append]
          have hnll : ((l ++ news).flatMap enc).length = l.length * k + news.length * k := by rw [List.flatMap_append, List.length_append, hll, hfl]
          simp only []
          refine kept_take (a := l.length * k + news.length * k) (fun i hi2 => ?_) (fun i hi2 => ?_) ht0
          · rw [hnl, List.getElem?_append_left (by rw [hnll]; exact hi2), hR, List.getElem?_append_left (by rw [hnll]; exact hi2)]
          · rw [hnl, List.getElem?_append_right (by rw [hnll]; exact hi2), List.getElem?_drop, hnll, hfl]
            congr 1
            omega
      · refine ⟨o.1, .inr ⟨g0, cap0, cur0, rfl, hbg0, ?_, hnc0, hcm0, hcs0, ht0⟩⟩
        exact (hT.block g0 (Array.getElem?_eq_some_iff.1 hg00).1 hgg).trans hg00
  · have hlim : (l.length + news.length) * bytes ≤ 140737488355328 := Nat.le_trans (Nat.mul_le_mul b1 b2) (by decide)
    have hr := run_append_grow (P := P) w t ty e i z h1 hi hz0 ⟨g, 0, none⟩ l.length cap (l.flatMap enc) (by rw [hll, hz1]) (fun j u hj => World.ownsRow.cells hown (g := g) rfl j u hj) ⟨b, off, none⟩ news.length cap' (news.flatMap enc) (by rw [hfl, hz1]) hnew (by omega) (by simp only [maxLen] at hmax; omega) (growslice_fits (by omega) (by rw [hz2]; exact hlim))
    rw [hr] at hrun
    cases hrun
    have hbb : Below w.heap.size w (w.drew.alloc (.cells ((l.flatMap enc).toArray ++ (news.flatMap enc).toArray ++ Builtin.zeroCells z.cells (grownCap w (l.length + news.length) cap e - (l.length + news.length))) e)) := ((Below.refl _ w).drew).alloc (Nat.le_refl _) _
    exact ⟨fun _ _ o => ownK_below o hbb, fun _ _ g' hB => hB.kept (hbb.block g' hB.lt)⟩
/-- At the operation. -/
theorem wp_apKeep {P : Program} (hk : ∀ a, (enc a).length = k) (h0 : 0 < k) (henc : ∀ a, ∀ u ∈ enc a, u.oneCell' = true) {x : Nat → Prop} {w : World} {t : TypeId} {z : Value} {bytes : Nat} (h1 : P.underlying t = some (.slice e))
    (h2 : (P.info? e).map (fun i => (i.zero, i.size, i.bytes)) = some (some z, k, bytes)) (hz : z.cells.size = k) (b2 : bytes ≤ 1000) {o : Oper} {a : Act} {K : Act → World → Prop} {Q : Exit → Act → World → Prop}
    (s y : Operand) (hop : o.op = Op.call { callee := Callee.builtin Builtin.append, args := #[s, y], argTypes := #[t, t] })
    (v : Value) (l : List α) (hs : a.eval s = v) (hown : OwnK enc k e base v l w) (yv : Value) (news : List α) (hy : a.eval y = yv) (hr : RK enc x yv news w) (b1 : l.length + news.length ≤ 1000000) (hb : base ≤ w.heap.size) (hL : (l ++ news) <+: L)
    (hK : ∀ v' w', OwnK enc k e base v' (l ++ news) w' → leRow enc k e base L w w' → (∀ a', (l = [] → ∀ b, news = [b] → b = a') → ∀ g, Blk w g (enc a') e → Blk w' g (enc a') e) → K (a.put o.dst v') w') : Oper.wp P o a w K Q := by
  obtain ⟨v', w', hrun, r1, r2, r3⟩ := run_apKeep (P := P) (base := base) (L := L) hk h0 henc w t o.type z bytes h1 h2 hz v l hown yv news hr b1 b2 hb hL
  unfold Oper.wp
  simp [execOp, hop, resolve, invoke, builtin, hs, hy, hrun, Result.andThen]
  exact hK v' w' r1 r2 r3
/-- append([]T{}, y...): what was there is left alone. -/
theorem run_litRK {P : Program} (hk : ∀ a, (enc a).length = k) (h0 : 0 < k) {x : Nat → Prop} (w : World) (t ty : TypeId) (z : Value) (bytes : Nat) (h1 : P.underlying t = some (.slice e))
    (h2 : (P.info? e).map (fun i => (i.zero, i.size, i.bytes)) = some (some z, k, bytes)) (hz : z.cells.size = k) (g : Nat) (hown : OwnK enc k e base (.slice (some ⟨g, 0, none⟩) 0 0) [] w) (yv : Value) (news : List α) (hy : RK enc x yv news w) (b1 : news.length ≤ 1000000) (b2 : bytes ≤ 1000) (hb : base ≤ w.heap.size) :
    ∃ v' w', (Builtin.append_ #[t, t] ty #[.slice (some ⟨g, 0, none⟩) 0 0, yv]).run P w = .ok v' w' ∧ OwnK enc k e base v' news w' ∧ Below w.heap.size w w' := by
  obtain ⟨ao, cap, rfl, hcap, hc⟩ := hy.form
  obtain ⟨i, hi, hz0, hz1, hz2⟩ := info_parts h2
  by_cases hn : news = []
  · subst hn
    refine ⟨_, _, ?_, hown, Below.refl _ w⟩
    cases ao with
    | none => exact run_append_nothing (P := P) w t t ty e i h1 hi _ 0 0 (Nat.le_refl _) _ (Src.ofNil w h1 cap)
    | some ad => exact run_append_nothing (P := P) w t t ty e i h1 hi _ 0 0 (Nat.le_refl _) _ (Src.ofSlice _ h1 ad 0 cap [] (by simp) (fun j v hj => by simp at hj) (by simp))
  · have hpos : 0 < news.length := List.length_pos_iff.2 hn
    have hfl : (news.flatMap enc).length = news.length * k := flat_len enc k hk news
    obtain ⟨b, off, rfl, _, _⟩ := hc 0 ((news.flatMap enc)[0]'(by rw [hfl]; exact Nat.mul_pos hpos h0)) (List.getElem?_eq_getElem _)
    have hnew : ∀ j u, (news.flatMap enc)[j]? = some u → w.cell? ((⟨b, off, none⟩ : Addr).add j) = some u := fun j u hu => by
      obtain ⟨b', off', e', _, c⟩ := hc j u hu
      cases e'
      have e2 : (⟨b, off, none⟩ : Addr).add j = ⟨b, off + j, none⟩ := by unfold Addr.add; split <;> simp_all
      rw [e2]; exact c
    have hlim : news.length * bytes ≤ 140737488355328 := Nat.le_trans (Nat.mul_le_mul b1 b2) (by decide)
    have hmax : news.length ≤ maxLen := Nat.le_trans b1 (by unfold maxLen; decide)
    have hr := run_append_grow (P := P) w t ty e i z h1 hi hz0 ⟨g, 0, none⟩ 0 0 [] (by simp) (fun j v hj => by simp at hj) ⟨b, off, none⟩ news.length cap (news.flatMap enc) (by rw [hfl, hz1]) hnew (by omega) (by simp only [maxLen] at hmax; omega) (growslice_fits (by omega) (by rw [hz2]; simpa using hlim))
    simp only [Nat.zero_add] at hr
    have hge := grownCap_ge w news.length 0 e
    have hcm := grownCap_le_maxLen w news.length 0 e hmax
    refine ⟨_, _, hr, ⟨hfl, .inr ⟨w.heap.size, _, _, rfl, hb, heap_alloc_new w.drew _, hge, hcm, ?_, ?_⟩⟩, (Below.refl _ w).drew.alloc (Nat.le_refl _) _⟩
    · simp only [Array.size_append, List.size_toArray, List.length_nil, size_zeroCells, hz, hfl, Nat.zero_add, ← Nat.add_mul]
      congr 1
      omega
    · simp only [Array.toList_append, List.nil_append]
      rw [← hfl]
      exact List.take_left
theorem wp_litRK {P : Program} (hk : ∀ a, (enc a).length = k) (h0 : 0 < k) {x : Nat → Prop} {w : World} {t : TypeId} {z : Value} {bytes : Nat} (h1 : P.underlying t = some (.slice e))
    (h2 : (P.info? e).map (fun i => (i.zero, i.size, i.bytes)) = some (some z, k, bytes)) (hz : z.cells.size = k) (b2 : bytes ≤ 1000) {o : Oper} {a : Act} {K : Act → World → Prop} {Q : Exit → Act → World → Prop}
    (s y : Operand) (hop : o.op = Op.call { callee := Callee.builtin Builtin.append, args := #[s, y], argTypes := #[t, t] })
    (hs : ∃ g, a.eval s = .slice (some ⟨g, 0, none⟩) 0 0 ∧ OwnK enc k e base (.slice (some ⟨g, 0, none⟩) 0 0) [] w) (yv : Value) (news : List α) (hy : a.eval y = yv) (hr : RK enc x yv news w) (b1 : news.length ≤ 1000000) (hb : base ≤ w.heap.size)
    (hK : ∀ v' w', OwnK enc k e base v' news w' → Below w.heap.size w w' → K (a.put o.dst v') w') : Oper.wp P o a w K Q := by
  obtain ⟨g, hs, hown⟩ := hs
  obtain ⟨v', w', hrun, r1, r2⟩ := run_litRK (P := P) (base := base) hk h0 w t o.type z bytes h1 h2 hz g hown yv news hr b1 b2 hb
  unfold Oper.wp
  simp [execOp, hop, resolve, invoke, builtin, hs, hy, hrun, Result.andThen]
  exact hK v' w' r1 r2
/-- Rows of the long list are kept, and a literal of one element too. -/
def leRow1 (enc : α → List Value) (k : Nat) (e : TypeId) (base : Nat) (L : List α) (r : α) (W W' : World) : Prop := leRow enc k e base L W W' ∧ ∀ g, Blk W g (enc r) e → Blk W' g (enc r) e
theorem leRow1_refl {r : α} (W : World) : leRow1 enc k e base L r W W := ⟨leRow_refl W, fun _ h => h⟩
theorem leRow1_trans {r : α} {x y z : World} (h : leRow1 enc k e base L r x y) (g : leRow1 enc k e base L r y z) : leRow1 enc k e base L r x z := ⟨leRow_trans h.1 g.1, fun i o => g.2 i (h.2 i o)⟩
theorem leRow1_of {r : α} {x y : World} (h : slotLe x y) (hb : base ≤ x.heap.size) : leRow1 enc k e base L r x y := ⟨leRow_of h hb, fun g o => o.kept (h.block g o.lt)⟩
theorem RK.blk {r : α} {W : World} {g : Nat} (h : Blk W g (enc r) e) : RK enc (fun _ => True) (.slice (some ⟨g, 0, none⟩) 1 1) [r] W :=
  ⟨some ⟨g, 0, none⟩, 1, rfl, Nat.le_refl _, fun j u hu => ⟨g, 0, rfl, trivial, by
    rw [List.flatMap_cons, List.flatMap_nil, List.append_nil] at hu
    rw [Nat.zero_add]
    exact h.cell hu⟩⟩
end
end Go.Proofs.Ytchlemajppnehaa

/- The law TtlLeast. (Its regions 12 and 13 by tools/leastgen.py.) -/
set_option maxRecDepth 100000
namespace Go.Proofs.Ytchlemajppnehaa
open Go Go.RowKit Go.Shelf
attribute [local go_sem] Oper.semAt_some
theorem own_lit0z {n : Nat} (W : World) (h : n ≤ W.heap.size) : OwnK encZ 1 3 n (.slice (some ⟨W.heap.size, 0, none⟩) 0 0) [] (W.alloc (.cells #[] 3)) :=
  World.ownsRow_lit (base := n) (e := 3) (size := 1) W #[] 0 h (by simp) rfl
theorem below_undrZ {n : Nat} {w W : World} (h : Below n w.drew W) : Below n w W := ((Below.refl n w).drew).trans h
namespace Tt
theorem foldl_le : ∀ (l : List Int) (x : Int), l.foldl min x ≤ x ∧ (∀ z ∈ l, l.foldl min x ≤ z) ∧ (l.foldl min x = x ∨ l.foldl min x ∈ l)
  | [], x => ⟨Int.le_refl x, (fun z hz => by cases hz), .inl rfl⟩
  | y :: l, x => by
    obtain ⟨h1, h2, h3⟩ := foldl_le l (min x y)
    show l.foldl min (min x y) ≤ x ∧ (∀ z ∈ y :: l, l.foldl min (min x y) ≤ z) ∧ (l.foldl min (min x y) = x ∨ l.foldl min (min x y) ∈ y :: l)
    refine ⟨by omega, fun z hz => ?_, ?_⟩
    · rcases List.mem_cons.1 hz with rfl | hz
      · omega
      · exact h2 z hz
    · rcases h3 with h3 | h3
      · by_cases h : x ≤ y
        · exact .inl (by rw [h3]; omega)
        · exact .inr (List.mem_cons.2 (.inl (by rw [h3]; omega)))
      · exact .inr (List.mem_cons_of_mem _ h3)
theorem least_le {l : List Int} {z : Int} (h : z ∈ l) : least l ≤ z := by
  cases l with
  | nil => cases h
  | cons x l =>
    obtain ⟨h1, h2, _⟩ := foldl_le l x
    rcases List.mem_cons.1 h with rfl | h
    · exact h1
    · exact h2 z h
theorem least_mem {l : List Int} (h : l ≠ []) : least l ∈ l := by
  cases l with
  | nil => exact absurd rfl h
  | cons x l =>
    rcases (foldl_le l x).2.2 with e | e
    · exact List.mem_cons.2 (.inl e)
    · exact List.mem_cons_of_mem _ e
theorem least_turn {l : List Int} (h : l ≠ []) (i : Nat) : least (l.drop i ++ l.take i) = least l := by
  have hm : ∀ z, z ∈ l.drop i ++ l.take i ↔ z ∈ l := fun z => by
    rw [List.mem_append, or_comm, ← List.mem_append, List.take_append_drop]
  have hn : l.drop i ++ l.take i ≠ [] := fun e => h (by
    have := congrArg List.length e
    rw [List.length_append, List.length_drop, List.length_take, List.length_nil] at this
    exact List.length_eq_zero_iff.1 (by omega))
  have h1 := least_le ((hm _).2 (least_mem h))
  have h2 := least_le ((hm _).1 (least_mem hn))
  omega
end Tt
section
variable {l : List Int} {v : Value} {x : Nat → Prop} {w : World} {at_ : Int}
set_option maxHeartbeats 8000000 in
theorem least11_any (hat : Tt.B at_) (h : RK encZ x v l w) (hx : ∀ k, x k → k < w.heap.size) : Calls Try.prog 5 #[v, .int .i64 at_] w fun e w' => e = .returned (.bool true) ∧ Below w.heap.size w w' := by
  obtain ⟨ao, cap, rfl, _, _⟩ := h.form
  by_cases h0 : l.length = 0
  · have d0 : ((l.length : Int) == 0) = true := by simp [h0]
    go_enter Try.func5, Try.ntmps5
    go_wp2_with (go_at_call 9; refine (awake11_any _).mono ?_; rintro e w1 ⟨rfl, b1⟩)
    go_ret
    exact ⟨rfl, b1⟩
  have d0 : ((l.length : Int) == 0) = false := by rw [beq_eq_false_iff_ne]; omega
  by_cases h6 : 60 < l.length
  · have d1 : decide ((60 : Int) < (l.length : Int)) = true := by simp; omega
    go_enter Try.func5, Try.ntmps5
    go_wp2_with (go_at_call 9; refine (awake11_any _).mono ?_; rintro e w1 ⟨rfl, b1⟩)
    go_ret
    exact ⟨rfl, b1⟩
  have d1 : decide ((60 : Int) < (l.length : Int)) = false := by simp; omega
  have hne : l ≠ [] := fun e => h0 (by rw [e]; rfl)
  have hl : l.length < 100000 := by omega
  have hle := fun z (hz : z ∈ l) => Tt.least_le hz
  have hmem := Tt.least_mem hne
  have htn := Tt.least_turn hne
  have L0 := least_any h hl
  generalize hm : Tt.least l = m at *
  clear hm
  have HLZ := Lib.hid hle
  have HMEM := Lib.hid hmem
  have HTN := Lib.hid htn
  clear hle hmem htn
  go_enter Try.func5, Try.ntmps5
  go_wp2_with (go_at_call 16; refine L0.mono ?_; rintro e w1 ⟨rfl, rfl⟩)
  clear L0 d0 d1
  go_loopw [6, 7] (fun met i wr => ∃ j : Nat, j ≤ l.length ∧ i = .int .i64 (j : Int) ∧ met = .bool (decide (m ∈ l.take j)) ∧ wr = w) (fun _ i _ => l.length + 1 - (intOf i).toNat)
  case atStart => exact ⟨0, by omega, rfl, by simp, rfl⟩
  case round =>
    obtain ⟨j, hj, rfl, rfl, rfl⟩ := hrel
    by_cases hlt : j < l.length
    · obtain ⟨b, off, rfl, c0⟩ := rk_cell h hlt
      have d2 : decide ((j : Int) < (l.length : Int)) = true := by simpa using hlt
      have hz := HLZ.out l[j] (List.getElem_mem hlt)
      have ht : l.take (j + 1) = l.take j ++ [l[j]] := List.take_succ_eq_append_getElem hlt
      generalize l[j] = z at *
      have d3 : decide (z < m) = false := by simp; omega
      have hmm : decide (m ∈ l.take (j + 1)) = (decide (m ∈ l.take j) || (z == m)) := by
        rw [ht, Bool.eq_iff_iff, decide_eq_true_iff, Bool.or_eq_true, decide_eq_true_iff, beq_iff_eq, List.mem_append, List.mem_singleton]
        exact or_congr Iff.rfl eq_comm
      have HM := Lib.hid hmm
      clear hmm ht hz
      generalize decide (m ∈ l.take j) = mb at *
      by_cases hzm : z = m
      all_goals (
        first
          | have d4 : (z == m) = true := by simpa using hzm
          | have d4 : (z == m) = false := by simpa using hzm
        rw [d4] at HM
        clear hzm
        cases mb
        all_goals (
          go_wp2
          go_roundw
          case rel => exact ⟨j + 1, by omega, by go_num, by rw [HM.out]; rfl, trivial⟩
          case measure => simp [intOf]; omega))
    · have d2 : decide ((j : Int) < (l.length : Int)) = false := by simp; omega
      have e : l.take j = l := List.take_of_length_le (by omega)
      have em : decide (m ∈ l.take j) = true := by rw [e]; simpa using HMEM.out
      rw [em]
      clear e em hj
      obtain ⟨q1, q2⟩ := roundI_bounds at_ (l.length : Int) (by omega)
      have R := fun w => round_any at_ (l.length : Int) w (by omega) (by omega) hat.1 hat.2
      obtain ⟨i, hi⟩ : ∃ i : Nat, roundI at_ (l.length : Int) = (i : Int) := ⟨_, (Int.toNat_of_nonneg q1).symm⟩
      rw [hi] at R q2
      have hil : i < l.length := by omega
      obtain ⟨b, off, rfl, c0⟩ := rk_cell h hil
      go_wp2_with (go_at_call 21; refine (R _).mono ?_; rintro e w1 ⟨rfl, rfl⟩)
      obtain ⟨vt, ht1, ht2⟩ := run_dropK (P := Try.prog) encZ_len Try.underlying22 infoInt h (m := i) (by omega)
      obtain ⟨vd, hd1, hd2⟩ := run_takeK (P := Try.prog) encZ_len Try.underlying22 infoInt h (m := i) (by omega)
      have HRT := Lib.hid (fun W' (hb : Below wr.heap.size wr W') => ht2.below hb)
      have HRD := Lib.hid (fun W' (hb : Below wr.heap.size wr W') => hd2.below hb)
      have hl1 : (l.drop i).length ≤ 900000 := by rw [List.length_drop]; omega
      have hl2 : (l.take i).length + (l.drop i).length ≤ 900000 := by rw [List.length_drop, List.length_take]; omega
      obtain ⟨TT, hTT⟩ : ∃ T, l.drop i = T := ⟨_, rfl⟩
      obtain ⟨DD, hDD⟩ : ∃ D, l.take i = D := ⟨_, rfl⟩
      have HLE := HTN.out i
      rw [hTT] at HRT hl1 hl2 HLE
      rw [hDD] at HRD hl2 HLE
      have HLE := Lib.hid HLE
      obtain ⟨LL, hLL⟩ : ∃ LL, TT ++ DD = LL := ⟨_, rfl⟩
      obtain ⟨n1, hn1⟩ : ∃ n, TT.length = n := ⟨_, rfl⟩
      obtain ⟨n2, hn2⟩ : ∃ n, (TT ++ DD).length = n := ⟨_, rfl⟩
      have HLL : Hid ((TT ++ DD).length < 100000) := Lib.hid (by rw [← hTT, ← hDD, List.length_append, List.length_drop, List.length_take]; omega)
      have HN1 : Hid (LL.take n1 = TT) := Lib.hid (by rw [← hLL, ← hn1, List.take_left' rfl])
      have HN2 : Hid (LL.take n2 = TT ++ DD) := Lib.hid (by rw [← hLL, ← hn2, List.take_length])
      have HP1 : Hid (([] : List Int) ++ TT <+: LL) := Lib.hid ⟨DD, by rw [← hLL]; rfl⟩
      have HP2 : Hid (TT ++ DD <+: LL) := Lib.hid ⟨[], by rw [← hLL, List.append_nil]⟩
      have HC0 := Lib.hid c0
      have HBL := Lib.hid (cell_lt c0)
      generalize l[i] = z at *
      clear hTT hDD hLL hn1 hn2 ht2 hd2 h R hi q1 q2 hx hat hne h0 h6 c0
      refine wp_region_slotsTL (by simp) (leRow encZ 1 3 wr.heap.size LL) (slotPhi ((fun v W' => OwnK encZ 1 3 wr.heap.size v (LL.take 0) W') :: (fun v _ => v = ?f47) :: (fun v _ => v = ?f48) :: (fun v _ => v = ?f49) :: (fun v W' => OwnK encZ 1 3 wr.heap.size v (LL.take n1) W') :: (fun v _ => v = ?f51) :: (fun v _ => v = ?f52) :: (fun v _ => v = ?f53) :: (fun v W' => OwnK encZ 1 3 wr.heap.size v (LL.take n2) W') :: [])) leRow_refl (fun h g => leRow_trans h g) (slotPhi_by ?stb) (by kernel_rfl) (by kernel_rfl) (by kernel_rfl) (by kernel_rfl) (by kernel_rfl) ?steps ?fin
      case stb =>
        refine ⟨by intro v x y hle h; exact hle.2 v _ h, ?_⟩
        refine ⟨by intro _ _ _ _ h; exact h, ?_⟩
        refine ⟨by intro _ _ _ _ h; exact h, ?_⟩
        refine ⟨by intro _ _ _ _ h; exact h, ?_⟩
        refine ⟨by intro v x y hle h; exact hle.2 v _ h, ?_⟩
        refine ⟨by intro _ _ _ _ h; exact h, ?_⟩
        refine ⟨by intro _ _ _ _ h; exact h, ?_⟩
        refine ⟨by intro _ _ _ _ h; exact h, ?_⟩
        refine ⟨by intro v x y hle h; exact hle.2 v _ h, ?_⟩
        exact trivial
      case steps =>
        refine ⟨?_, ?_⟩
        · intro a W K N hK
          rw [if_pos (wanted_no rfl)]
          go_simp
          refine hK _ _ (leRow_of ((Below.refl _ _).alloc (Nat.le_refl _) _) N.le.1.size) ?_
          exact own_lit0z W N.le.1.size
        refine ⟨?_, ?_⟩
        · intro a W K N hK
          have e0 : a.tmps[0]?.getD undef = .slice (some ⟨b, off, none⟩) l.length cap := N.was' 0 _ (by kernel_rfl) rfl
          rw [if_pos (wanted_no rfl)]
          go_simp
          refine hK _ _ (leRow_refl _) ?_
          exact rfl
        refine ⟨?_, ?_⟩
        · intro a W K N hK
          have e8 : a.tmps[8]?.getD undef = .int .i64 (i : Int) := N.was' 8 _ (by kernel_rfl) rfl
          rw [if_pos (wanted_no rfl)]
          go_simp
          refine hK _ _ (leRow_refl _) ?_
          exact rfl
        refine ⟨?_, ?_⟩
        · intro a W K N hK
          have e47 : a.tmps[47]?.getD undef = _ := N.dep' 1 47 (by kernel_rfl)
          have e48 : a.tmps[48]?.getD undef = _ := N.dep' 2 48 (by kernel_rfl)
          rw [if_pos (wanted_no rfl)]
          go_simp
          refine hK _ _ (leRow_refl _) ?_
          exact rfl
        refine ⟨?_, ?_⟩
        · intro a W K N hK
          have e46 := Lib.hid (show (fun v W' => OwnK encZ 1 3 wr.heap.size v (LL.take 0) W') (a.tmps[46]?.getD undef) W from N.dep' 0 46 (by kernel_rfl))
          have e49 : a.tmps[49]?.getD undef = _ := N.dep' 3 49 (by kernel_rfl)
          rw [if_pos (wanted_no rfl)]
          refine wp_apKeep (L := LL) (base := wr.heap.size) encZ_len (by omega) encZ_one Try.underlying22 infoInt rfl (by omega) (.tmp 46) (.tmp 49) rfl _ ([]) (eval_tmp9 a 46) (by exact e46.out) _ (TT) ((eval_tmp9 a 49).trans e49) (HRT.out _ (below_undrZ N.le.1)) (by first | omega | (simp only [List.length_append]; omega) | (simp; omega)) N.le.1.size HP1.out ?_
          intro v5 w5 ho5 hle5 _
          refine hK _ _ hle5 ?_
          exact HN1.out ▸ ho5
        refine ⟨?_, ?_⟩
        · intro a W K N hK
          have e0 : a.tmps[0]?.getD undef = .slice (some ⟨b, off, none⟩) l.length cap := N.was' 0 _ (by kernel_rfl) rfl
          rw [if_pos (wanted_no rfl)]
          go_simp
          refine hK _ _ (leRow_refl _) ?_
          exact rfl
        refine ⟨?_, ?_⟩
        · intro a W K N hK
          have e8 : a.tmps[8]?.getD undef = .int .i64 (i : Int) := N.was' 8 _ (by kernel_rfl) rfl
          rw [if_pos (wanted_no rfl)]
          go_simp
          refine hK _ _ (leRow_refl _) ?_
          exact rfl
        refine ⟨?_, ?_⟩
        · intro a W K N hK
          have e51 : a.tmps[51]?.getD undef = _ := N.dep' 5 51 (by kernel_rfl)
          have e52 : a.tmps[52]?.getD undef = _ := N.dep' 6 52 (by kernel_rfl)
          rw [if_pos (wanted_no rfl)]
          go_simp
          refine hK _ _ (leRow_refl _) ?_
          exact rfl
        refine ⟨?_, ?_⟩
        · intro a W K N hK
          have e50 := Lib.hid (show (fun v W' => OwnK encZ 1 3 wr.heap.size v (LL.take n1) W') (a.tmps[50]?.getD undef) W from N.dep' 4 50 (by kernel_rfl))
          have e53 : a.tmps[53]?.getD undef = _ := N.dep' 7 53 (by kernel_rfl)
          rw [if_pos (wanted_no rfl)]
          refine wp_apKeep (L := LL) (base := wr.heap.size) encZ_len (by omega) encZ_one Try.underlying22 infoInt rfl (by omega) (.tmp 50) (.tmp 53) rfl _ (TT) (eval_tmp9 a 50) (by exact (HN1.out ▸ e50.out)) _ (DD) ((eval_tmp9 a 53).trans e53) (HRD.out _ (below_undrZ N.le.1)) (by first | omega | (simp only [List.length_append]; omega) | (simp; omega)) N.le.1.size HP2.out ?_
          intro v5 w5 ho5 hle5 _
          refine hK _ _ hle5 ?_
          exact HN2.out ▸ ho5
        exact trivial
      case fin =>
        intro V hV
        simp only [FinAll, slotPhi, List.dropLast, List.getLast_cons_cons, List.getLast_singleton, List.getD_cons_zero, List.getD_cons_succ, forall_eq, Act.put, List.setIfInBounds_toArray, List.set_cons_zero, List.set_cons_succ]
        intro v46 h46
        intro v50 h50
        intro v54 h54
        have hVb := below_undrZ hV.1
        rw [HN2.out] at h54
        have H54 := Lib.hid h54
        have ht := RK.own (enc := encZ) h54 (fun b _ => (show (fun _ => True) b from trivial))
        have HT := Lib.hid ht
        have hb2 := hVb
        have HVB := Lib.hid hVb
        have kc : V.drew.cell? ⟨b, off + i, none⟩ = some (.int .i64 z) := (hVb.cell (p := ⟨b, off + i, none⟩) HBL.out).trans HC0.out
        have K0 := Lib.hid kc
        clear hV h46 h50 h54 ht hb2 hVb kc
        go_wp2
        refine wp_region_slotsTL (by simp) slotLe (slotPhi ((fun v _ => v = ?g55) :: (fun v _ => v = ?g56) :: (fun v _ => v = v54) :: (fun v _ => v = ?g58) :: (fun v _ => v = ?g59) :: (fun v _ => v = ?g60) :: (fun v _ => v = ?g61) :: (fun v _ => v = ?g62) :: (fun v _ => v = ?g63) :: (fun v _ => v = ?g64) :: (fun v _ => v = ?g65) :: (fun v _ => v = ?g66) :: (fun v W' => RK encZ (fun _ => True) v [z] W') :: (fun v _ => v = ?g68) :: (fun v _ => v = ?g69) :: (fun v _ => v = ?g70) :: (fun v _ => v = ?g71) :: (fun v _ => v = ?g72) :: (fun v _ => v = ?g73) :: (fun v _ => v = ?g74) :: (fun v _ => v = ?g75) :: (fun v _ => v = ?g76) :: (fun v _ => v = ?g77) :: [])) slotLe_refl slotLe_trans (slotPhi_stable ?stc) (by kernel_rfl) (by kernel_rfl) (by kernel_rfl) (by kernel_rfl) (by kernel_rfl) ?steps2 ?fin2
        case stc =>
          refine ⟨by intro _ _ _ _ h; exact h, ?_⟩
          refine ⟨by intro _ _ _ _ h; exact h, ?_⟩
          refine ⟨by intro _ _ _ _ h; exact h, ?_⟩
          refine ⟨by intro _ _ _ _ h; exact h, ?_⟩
          refine ⟨by intro _ _ _ _ h; exact h, ?_⟩
          refine ⟨by intro _ _ _ _ h; exact h, ?_⟩
          refine ⟨by intro _ _ _ _ h; exact h, ?_⟩
          refine ⟨by intro _ _ _ _ h; exact h, ?_⟩
          refine ⟨by intro _ _ _ _ h; exact h, ?_⟩
          refine ⟨by intro _ _ _ _ h; exact h, ?_⟩
          refine ⟨by intro _ _ _ _ h; exact h, ?_⟩
          refine ⟨by intro _ _ _ _ h; exact h, ?_⟩
          refine ⟨by intro v x y hle h; exact h.below hle, ?_⟩
          refine ⟨by intro _ _ _ _ h; exact h, ?_⟩
          refine ⟨by intro _ _ _ _ h; exact h, ?_⟩
          refine ⟨by intro _ _ _ _ h; exact h, ?_⟩
          refine ⟨by intro _ _ _ _ h; exact h, ?_⟩
          refine ⟨by intro _ _ _ _ h; exact h, ?_⟩
          refine ⟨by intro _ _ _ _ h; exact h, ?_⟩
          refine ⟨by intro _ _ _ _ h; exact h, ?_⟩
          refine ⟨by intro _ _ _ _ h; exact h, ?_⟩
          refine ⟨by intro _ _ _ _ h; exact h, ?_⟩
          refine ⟨by intro _ _ _ _ h; exact h, ?_⟩
          exact trivial
        case steps2 =>
          refine ⟨?_, ?_⟩
          · intro a W K N hK
            have e6 : a.tmps[6]?.getD undef = .bool true := N.was' 6 _ (by kernel_rfl) rfl
            rw [if_pos (wanted_no rfl)]
            go_simp
            refine hK _ _ (slotLe_refl _) ?_
            exact rfl
          refine ⟨?_, ?_⟩
          · intro a W K N hK
            have e55 : a.tmps[55]?.getD undef = _ := N.dep' 0 55 (by kernel_rfl)
            rw [if_pos (wanted_no rfl)]
            go_simp
            refine hK _ _ (slotLe_refl _) ?_
            exact rfl
          refine ⟨?_, ?_⟩
          · intro a W K N hK
            have e9 : a.tmps[9]?.getD undef = v54 := N.was' 9 _ (by kernel_rfl) rfl
            have eg : a.tmps[56]?.getD undef = .bool true := N.dep' 1 56 (by kernel_rfl)
            rw [if_pos (by rw [wanted_get (g := 1) (d := 56) rfl rfl eg]; decide)]
            clear eg
            go_simp
            refine hK _ _ (slotLe_refl _) ?_
            exact rfl
          refine ⟨?_, ?_⟩
          · intro a W K N hK
            have e57 := Lib.hid (show (fun v _ => v = v54) (a.tmps[57]?.getD undef) W from N.dep' 2 57 (by kernel_rfl))
            have eg : a.tmps[56]?.getD undef = .bool true := N.dep' 1 56 (by kernel_rfl)
            rw [if_pos (by rw [wanted_get (g := 1) (d := 56) rfl rfl eg]; decide)]
            clear eg
            have e57 : a.tmps[57]?.getD undef = v54 := e57.out
            have hl := HT.out.below (below_undrZ N.le)
            go_simp
            go_at_call 16
            refine (least_any hl HLL.out).mono ?_
            rintro e w2 ⟨rfl, rfl⟩
            rw [HLE.out]
            go_simp
            refine hK _ _ (slotLe_refl _) ?_
            exact rfl
          refine ⟨?_, ?_⟩
          · intro a W K N hK
            have e5 : a.tmps[5]?.getD undef = .int .i64 m := N.was' 5 _ (by kernel_rfl) rfl
            have eg : a.tmps[56]?.getD undef = .bool true := N.dep' 1 56 (by kernel_rfl)
            rw [if_pos (by rw [wanted_get (g := 1) (d := 56) rfl rfl eg]; decide)]
            clear eg
            go_simp
            refine hK _ _ (slotLe_refl _) ?_
            exact rfl
          refine ⟨?_, ?_⟩
          · intro a W K N hK
            have e58 : a.tmps[58]?.getD undef = _ := N.dep' 3 58 (by kernel_rfl)
            have e59 : a.tmps[59]?.getD undef = _ := N.dep' 4 59 (by kernel_rfl)
            have eg : a.tmps[56]?.getD undef = .bool true := N.dep' 1 56 (by kernel_rfl)
            rw [if_pos (by rw [wanted_get (g := 1) (d := 56) rfl rfl eg]; decide)]
            clear eg
            go_simp
            refine hK _ _ (slotLe_refl _) ?_
            exact rfl
          refine ⟨?_, ?_⟩
          · intro a W K N hK
            have e56 : a.tmps[56]?.getD undef = _ := N.dep' 1 56 (by kernel_rfl)
            have e60 : a.tmps[60]?.getD undef = _ := N.dep' 5 60 (by kernel_rfl)
            rw [if_pos (wanted_no rfl)]
            go_simp
            refine hK _ _ (slotLe_refl _) ?_
            exact rfl
          refine ⟨?_, ?_⟩
          · intro a W K N hK
            have e61 : a.tmps[61]?.getD undef = _ := N.dep' 6 61 (by kernel_rfl)
            rw [if_pos (wanted_no rfl)]
            go_simp
            refine hK _ _ (slotLe_refl _) ?_
            exact rfl
          refine ⟨?_, ?_⟩
          · intro a W K N hK
            have e0 : a.tmps[0]?.getD undef = .slice (some ⟨b, off, none⟩) l.length cap := N.was' 0 _ (by kernel_rfl) rfl
            have eg : a.tmps[62]?.getD undef = .bool true := N.dep' 7 62 (by kernel_rfl)
            rw [if_pos (by rw [wanted_get (g := 7) (d := 62) rfl rfl eg]; decide)]
            clear eg
            go_simp
            refine hK _ _ (slotLe_refl _) ?_
            exact rfl
          refine ⟨?_, ?_⟩
          · intro a W K N hK
            have e8 : a.tmps[8]?.getD undef = .int .i64 (i : Int) := N.was' 8 _ (by kernel_rfl) rfl
            have eg : a.tmps[62]?.getD undef = .bool true := N.dep' 7 62 (by kernel_rfl)
            rw [if_pos (by rw [wanted_get (g := 7) (d := 62) rfl rfl eg]; decide)]
            clear eg
            go_simp
            refine hK _ _ (slotLe_refl _) ?_
            exact rfl
          refine ⟨?_, ?_⟩
          · intro a W K N hK
            have e63 : a.tmps[63]?.getD undef = _ := N.dep' 8 63 (by kernel_rfl)
            have e64 : a.tmps[64]?.getD undef = _ := N.dep' 9 64 (by kernel_rfl)
            have eg : a.tmps[62]?.getD undef = .bool true := N.dep' 7 62 (by kernel_rfl)
            rw [if_pos (by rw [wanted_get (g := 7) (d := 62) rfl rfl eg]; decide)]
            clear eg
            go_simp
            refine hK _ _ (slotLe_refl _) ?_
            exact rfl
          refine ⟨?_, ?_⟩
          · intro a W K N hK
            have e65 : a.tmps[65]?.getD undef = _ := N.dep' 10 65 (by kernel_rfl)
            have eg : a.tmps[62]?.getD undef = .bool true := N.dep' 7 62 (by kernel_rfl)
            rw [if_pos (by rw [wanted_get (g := 7) (d := 62) rfl rfl eg]; decide)]
            clear eg
            have z1 := keep_cell N.le K0.out
            go_simp
            refine hK _ _ (slotLe_refl _) ?_
            exact rfl
          refine ⟨?_, ?_⟩
          · intro a W K N hK
            have e66 : a.tmps[66]?.getD undef = _ := N.dep' 11 66 (by kernel_rfl)
            have eg : a.tmps[62]?.getD undef = .bool true := N.dep' 7 62 (by kernel_rfl)
            rw [if_pos (by rw [wanted_get (g := 7) (d := 62) rfl rfl eg]; decide)]
            clear eg
            go_simp
            refine hK _ _ ((Below.refl _ _).alloc (Nat.le_refl _) _) ?_
            exact RK.one z 3 W
          refine ⟨?_, ?_⟩
          · intro a W K N hK
            have e67 := Lib.hid (show (fun v W' => RK encZ (fun _ => True) v [z] W') (a.tmps[67]?.getD undef) W from N.dep' 12 67 (by kernel_rfl))
            have eg : a.tmps[62]?.getD undef = .bool true := N.dep' 7 62 (by kernel_rfl)
            rw [if_pos (by rw [wanted_get (g := 7) (d := 62) rfl rfl eg]; decide)]
            clear eg
            have hl := e67.out
            go_simp
            go_at_call 16
            refine (least_any hl (by simp)).mono ?_
            rintro e w2 ⟨rfl, rfl⟩
            rw [show Tt.least [z] = z from rfl]
            go_simp
            refine hK _ _ (slotLe_refl _) ?_
            exact rfl
          refine ⟨?_, ?_⟩
          · intro a W K N hK
            have e0 : a.tmps[0]?.getD undef = .slice (some ⟨b, off, none⟩) l.length cap := N.was' 0 _ (by kernel_rfl) rfl
            have eg : a.tmps[62]?.getD undef = .bool true := N.dep' 7 62 (by kernel_rfl)
            rw [if_pos (by rw [wanted_get (g := 7) (d := 62) rfl rfl eg]; decide)]
            clear eg
            go_simp
            refine hK _ _ (slotLe_refl _) ?_
            exact rfl
          refine ⟨?_, ?_⟩
          · intro a W K N hK
            have e8 : a.tmps[8]?.getD undef = .int .i64 (i : Int) := N.was' 8 _ (by kernel_rfl) rfl
            have eg : a.tmps[62]?.getD undef = .bool true := N.dep' 7 62 (by kernel_rfl)
            rw [if_pos (by rw [wanted_get (g := 7) (d := 62) rfl rfl eg]; decide)]
            clear eg
            go_simp
            refine hK _ _ (slotLe_refl _) ?_
            exact rfl
          refine ⟨?_, ?_⟩
          · intro a W K N hK
            have e69 : a.tmps[69]?.getD undef = _ := N.dep' 14 69 (by kernel_rfl)
            have e70 : a.tmps[70]?.getD undef = _ := N.dep' 15 70 (by kernel_rfl)
            have eg : a.tmps[62]?.getD undef = .bool true := N.dep' 7 62 (by kernel_rfl)
            rw [if_pos (by rw [wanted_get (g := 7) (d := 62) rfl rfl eg]; decide)]
            clear eg
            go_simp
            refine hK _ _ (slotLe_refl _) ?_
            exact rfl
          refine ⟨?_, ?_⟩
          · intro a W K N hK
            have e71 : a.tmps[71]?.getD undef = _ := N.dep' 16 71 (by kernel_rfl)
            have eg : a.tmps[62]?.getD undef = .bool true := N.dep' 7 62 (by kernel_rfl)
            rw [if_pos (by rw [wanted_get (g := 7) (d := 62) rfl rfl eg]; decide)]
            clear eg
            have z1 := keep_cell N.le K0.out
            go_simp
            refine hK _ _ (slotLe_refl _) ?_
            exact rfl
          refine ⟨?_, ?_⟩
          · intro a W K N hK
            have e68 : a.tmps[68]?.getD undef = _ := N.dep' 13 68 (by kernel_rfl)
            have e72 : a.tmps[72]?.getD undef = _ := N.dep' 17 72 (by kernel_rfl)
            have eg : a.tmps[62]?.getD undef = .bool true := N.dep' 7 62 (by kernel_rfl)
            rw [if_pos (by rw [wanted_get (g := 7) (d := 62) rfl rfl eg]; decide)]
            clear eg
            go_simp
            refine hK _ _ (slotLe_refl _) ?_
            exact rfl
          refine ⟨?_, ?_⟩
          · intro a W K N hK
            have e62 : a.tmps[62]?.getD undef = _ := N.dep' 7 62 (by kernel_rfl)
            have e73 : a.tmps[73]?.getD undef = _ := N.dep' 18 73 (by kernel_rfl)
            rw [if_pos (wanted_no rfl)]
            go_simp
            refine hK _ _ (slotLe_refl _) ?_
            exact rfl
          refine ⟨?_, ?_⟩
          · intro a W K N hK
            have e74 : a.tmps[74]?.getD undef = _ := N.dep' 19 74 (by kernel_rfl)
            rw [if_pos (wanted_no rfl)]
            go_simp
            refine hK _ _ (slotLe_refl _) ?_
            exact rfl
          refine ⟨?_, ?_⟩
          · intro a W K N hK
            have eg : a.tmps[75]?.getD undef = .bool true := N.dep' 20 75 (by kernel_rfl)
            rw [if_pos (by rw [wanted_get (g := 20) (d := 75) rfl rfl eg]; decide)]
            clear eg
            go_simp
            go_at_call 9
            refine (awake11_any _).mono ?_
            rintro e w2 ⟨rfl, b2⟩
            go_simp
            refine hK _ _ b2 ?_
            exact rfl
          refine ⟨?_, ?_⟩
          · intro a W K N hK
            have e75 : a.tmps[75]?.getD undef = _ := N.dep' 20 75 (by kernel_rfl)
            have e76 : a.tmps[76]?.getD undef = _ := N.dep' 21 76 (by kernel_rfl)
            rw [if_pos (wanted_no rfl)]
            go_simp
            refine hK _ _ (slotLe_refl _) ?_
            exact rfl
          exact trivial
        case fin2 =>
          intro V2 hV2
          simp only [FinAll, slotPhi, List.dropLast, List.getLast_cons_cons, List.getLast_singleton, List.getD_cons_zero, List.getD_cons_succ, forall_eq, Act.put, List.setIfInBounds_toArray, List.set_cons_zero, List.set_cons_succ]
          intro v67 h67
          have hf : Below wr.heap.size wr V2 := HVB.out.trans ((below_undrZ hV2).mono HVB.out.size)
          clear hV2
          go_wp2
          go_ret
          exact ⟨rfl, hf⟩
end
end Go.Proofs.Ytchlemajppnehaa

/- The least is one of them, and none is less; of one it is that; however they stand.
   Conditions: those of the row, none beside. -/
namespace Go.Proofs.Ytchlemajppnehaa.ttlLeast
open Go.ChangeShapes Go.WideShapes Go.ChangeAt Go.RowKit

set_option maxRecDepth 100000 in
theorem contract (H : Type) (enc : TypeId × Value → H) (W : World) (base : Nat) (args : Array Value) (ds gs : List (DataW H)) (before : List MemPlace)
    (hval : ∀ (j : Nat) t v, Try.f5.params[j]? = some t → args[j]? = some v → Value.okWide Try.prog W .any base t v)
    (hW : DataW.Whole enc Try.prog Try.f5.params.toList Rows.ttlLeastSpec.vars false W args.toList ds gs before) (_hL : laidMetH Try.prog laidList W) :
    Calls Try.prog 5 args W fun e W' => ∃ v, e = .returned v ∧ Rows.ttlLeastSpec.post enc Try.prog Try.f5 false true false false W args v W' := by
  have hW' := hW
  obtain ⟨p, q, hA0, hV, rfl, _, _⟩ := hW
  have hA : DataW.TrodAll enc Try.prog W 0 (fun _ => true) true Try.f5.params.toList args.toList ds p := hA0
  clear hA0
  rw [Try.params5] at hA hval
  obtain ⟨v0, vs0, d0, ds0, p0, q0, hargs0, rfl, rfl, h0, r0⟩ := trodAll_cons hA
  obtain ⟨v1, vs1, d1, ds1, p1, q1, hargs1, rfl, rfl, h1, r1⟩ := trodAll_cons r0
  subst hargs1
  obtain ⟨rfl, rfl, rfl⟩ := trodAll_nil r1
  obtain rfl : args = #[v0, v1] := by cases args; simp_all
  obtain ⟨rfl, rfl⟩ := trodVars_none hV
  obtain ⟨L0, hr0, hb0, hl0⟩ := arg_ints (hval 0 _ v0 rfl rfl) h0
  obtain ⟨z1, rfl, hz1⟩ := arg_int (hval 1 _ _ rfl rfl) h1
  refine (least11_any hz1 hr0 (fun _ e => e)).mono fun e W' ⟨he, hbl⟩ => ?_
  exact ⟨_, he, law_post hW' rfl hbl rfl rfl (fun t ht => readT11 t (by rw [Try.params5] at ht; exact (show ∀ t ∈ (#[22, 3] : Array TypeId).toList, t ∈ [3, 22] by decide) t ht))⟩

set_option maxRecDepth 100000 in
theorem reads (os : Os) {H : Type} (enc : TypeId × Value → H) : ∃ places, DataW.whole enc Try.prog ((laidWorld os).forCall (fun _ _ => 0) ⟨#[], #[.slice none 0 0, .int .i64 0], []⟩).memory Try.f5.params.toList Rows.ttlLeastSpec.vars false (#[.slice none 0 0, .int .i64 0] : Array Value).toList 8 = some ([.nil, .lit (.int .i64 0)], [], places) :=
  ⟨[], by kernel_rfl⟩

set_option maxRecDepth 100000 in
theorem lifted (os : Os) (started : os.Started) (H : Type) (enc : TypeId × Value → H) (F : Stop.Interp) :
    ReturnsInHanded {} Try.checked os 5 .any ((OpenSpec.ofChange Rows.ttlLeastSpec).preRow enc Try.prog Try.f5 Rows.ttlLeastRow.domain false Rows.ttlLeastRow.laid) (((OpenSpec.ofChange Rows.ttlLeastSpec).at F).post enc Try.prog Try.f5 false true false false) := by
  obtain ⟨places, hx⟩ := reads os enc
  refine returnsInHanded_of_row (C := Try.checked) (s := OpenSpec.ofChange Rows.ttlLeastSpec) own started (by kernel_rfl) Try.func5
    (witness_row_atRef (enc := enc) (C := Try.checked) false (laidWorld os) #[.slice none 0 0, .int .i64 0] rfl (by kernel_rfl) (by kernel_rfl) (by kernel_rfl)
      (OpenSpec.preRow_of_cond 8 hx (by kernel_rfl) (fun k hk => by cases hk) (by kernel_rfl) (laid_met os _))) ?_
  intro W base args ds gs before hval hW _ _ _ hL _ _
  exact contract H enc W base args ds gs before hval hW hL

theorem said : Rows.TtlLeastSaid :=
  OpenClaim.holds_of_cond 5 Try.f5 rfl rfl rfl rfl rfl rfl rfl ⟨rfl, rfl, rfl, rfl, rfl⟩ rfl rfl rfl rfl rfl (by kernel_rfl) Try.func5 (by kernel_rfl)
    (of_decide_eq_true (by kernel_rfl)) (by unfold Func.isWrapper; first | (rw [if_pos (by decide +kernel)]; kernel_rfl) | (rw [if_neg (by decide +kernel)]; exact ⟨rfl, rfl⟩))
    (fun os started H enc _ F => by rw [OpenClaim.pre_eq_preRow]; exact lifted os started H enc F)
end Go.Proofs.Ytchlemajppnehaa.ttlLeast
