/- 2 texts put together: Slots, Anew. -/
import Derived.Orders
import Derived.WalkKit
import Derived.Test.YtagjjpmhacknpaaDoorJB3
import Derived.Test.YtagjjpmhacknpaaDoorJB5
/- A region that draws its order, by what each slot holds: every operation is met once, in a frame of which only what it looks at is known; what a slot holds may hang on the world, where it stands whatever comes behind. -/
namespace Go.Proofs.YtagjjpmhacknpaaDoor
open Go

def dstAt (ops : Array Oper) (j : Nat) : Option Tmp := (ops[j]?).bind (·.dst)
def waitsFor (ops : Array Oper) (j i : Nat) : Bool := ((ops[j]?).map fun o => o.after.any fun e => Region.binds .any e && e.on == i).getD false
def depOn (ops : Array Oper) (i j d : Nat) : Bool := waitsFor ops i j && dstAt ops j == some d
def isOld (ops : Array Oper) (i k : Nat) : Bool := (List.range ops.size).all fun j => dstAt ops j != some k || j == i || waitsFor ops j i
/-- Edges lead to operations ahead; slots are each written once, and lie in the frame. -/
def fwdOk (ops : Array Oper) : Bool := (List.range ops.size).all fun i => ((ops[i]?).map fun o => o.after.all fun e => !Region.binds .any e || decide (e.on < i)).getD true
def dstsOk (ops : Array Oper) (n : Nat) : Bool := (List.range ops.size).all fun i => match dstAt ops i with
  | none => true
  | some d => decide (d < n) && (List.range i).all fun j => dstAt ops j != some d

section
variable {P : Program} {ops : Array Oper} {Q : Exit → Act → World → Prop} {le : World → World → Prop} {φ : Nat → Value → World → Prop} {a0 : Act} {w0 : World}

structure Now (ops : Array Oper) (le : World → World → Prop) (φ : Nat → Value → World → Prop) (a0 : Act) (w0 : World) (i : Nat) (a : Act) (w : World) : Prop where
  le : le w0 w
  dep : ∀ j d, depOn ops i j d = true → φ j (a.eval (.tmp d)) w
  old : ∀ k, isOld ops i k = true → a.eval (.tmp k) = a0.eval (.tmp k)
  size : a.tmps.size = a0.tmps.size

theorem eval_get (a : Act) (k : Nat) : a.eval (.tmp k) = a.tmps[k]?.getD undef := by
  show a.tmps.getD k undef = _
  rw [Array.getD_eq_getD_getElem?]
theorem Now.was' {i : Nat} {a : Act} {w : World} (N : Now ops le φ a0 w0 i a w) (k : Nat) (v : Value) (h : isOld ops i k = true) (hv : a0.eval (.tmp k) = v) : a.tmps[k]?.getD undef = v := by
  rw [← eval_get]; exact (N.old k h).trans hv
theorem Now.dep' {i : Nat} {a : Act} {w : World} (N : Now ops le φ a0 w0 i a w) (j d : Nat) (h : depOn ops i j d = true) : φ j (a.tmps[d]?.getD undef) w := by
  rw [← eval_get]; exact N.dep j d h
theorem Now.was {i : Nat} {a : Act} {w : World} (N : Now ops le φ a0 w0 i a w) (k : Nat) (v : Value) (h : isOld ops i k = true) (hv : a0.eval (.tmp k) = v) : a.eval (.tmp k) = v := (N.old k h).trans hv

theorem wanted_no {o : Oper} {f : Nat → Option Bool} (h : o.guard = none) : Region.wanted o f = true := by unfold Region.wanted; rw [h]
theorem wanted_is {o : Oper} {a : Act} {g d : Nat} {b x : Bool} (h : o.guard = some (g, b)) (hd : dstAt ops g = some d) (he : a.eval (.tmp d) = .bool x) : Region.wanted o (yielded ops a.tmps) = (x == b) := by
  unfold Region.wanted
  rw [h]
  simp only
  unfold dstAt at hd
  unfold yielded
  rw [hd]
  simp only [Option.bind_some]
  have he : a.tmps.getD d undef = .bool x := he
  rw [Array.getD_eq_getD_getElem?] at he
  have hx : a.tmps[d]? = some (.bool x) := by
    cases hx : a.tmps[d]? with
    | none => rw [hx] at he; simp [undef] at he
    | some v => rw [hx] at he; exact congrArg some he
  rw [hx]
  cases x <;> cases b <;> rfl

theorem wanted_get {o : Oper} {a : Act} {g d : Nat} {b x : Bool} (h : o.guard = some (g, b)) (hd : dstAt ops g = some d) (he : a.tmps[d]?.getD undef = .bool x) : Region.wanted o (yielded ops a.tmps) = (x == b) :=
  wanted_is h hd ((eval_get a d).trans he)

structure Inv (ops : Array Oper) (le : World → World → Prop) (φ : Nat → Value → World → Prop) (a0 : Act) (w0 : World) (listed : Array Bool) (a : Act) (w : World) : Prop where
  size : listed.size = ops.size
  le : le w0 w
  tmps : a.tmps.size = a0.tmps.size
  defers : a.defers = a0.defers
  closed : ∀ j o, ops[j]? = some o → listed.getD j false = true → ∀ e ∈ o.after, Region.binds .any e = true → listed.getD e.on false = true
  done : ∀ j d, dstAt ops j = some d → listed.getD j false = true → φ j (a.eval (.tmp d)) w
  rest : ∀ k, (∀ j, listed.getD j false = true → dstAt ops j ≠ some k) → a.eval (.tmp k) = a0.eval (.tmp k)

theorem eval_put_same {a : Act} {d : Nat} {v : Value} (h : d < a.tmps.size) : (a.put (some d) v).eval (.tmp d) = v := by
  unfold Act.put Act.eval
  simp [Array.getD_eq_getD_getElem?, Array.getElem?_setIfInBounds_self_of_lt h]
theorem eval_put_other {a : Act} {x : Option Tmp} {k : Nat} {v : Value} (h : x ≠ some k) : (a.put x v).eval (.tmp k) = a.eval (.tmp k) := by
  cases x with
  | none => rfl
  | some d =>
    unfold Act.put Act.eval
    simp only [Array.getD_eq_getD_getElem?]
    rw [Array.getElem?_setIfInBounds_ne (fun e => h (by rw [e]))]
theorem size_put {a : Act} {x : Option Tmp} {v : Value} : (a.put x v).tmps.size = a.tmps.size := by
  cases x <;> simp [Act.put]
theorem defers_put {a : Act} {x : Option Tmp} {v : Value} : (a.put x v).defers = a.defers := by
  cases x <;> rfl

theorem getD_true_false {l : Array Bool} {i : Nat} (h : i < l.size) (hn : l.getD i true = false) : l.getD i false = false := by
  simp only [Array.getD_eq_getD_getElem?, Array.getElem?_eq_getElem h, Option.getD_some] at *
  exact hn
theorem getD_set_same {l : Array Bool} {i : Nat} (h : i < l.size) : (l.setIfInBounds i true).getD i false = true := by
  simp [Array.getD_eq_getD_getElem?, Array.getElem?_setIfInBounds_self_of_lt h]

theorem Inv.now {listed : Array Bool} {a : Act} {w : World} (I : Inv ops le φ a0 w0 listed a w) {i : Nat} (hr : i ∈ Region.ready .any ops listed) : Now ops le φ a0 w0 i a w := by
  obtain ⟨hn, o, ho, hall⟩ := mem_ready.1 hr
  have hlt : i < ops.size := (Array.getElem?_eq_some_iff.1 ho).1
  have hn' := getD_true_false (by rw [I.size]; exact hlt) hn
  refine ⟨I.le, fun j d h => ?_, fun k h => I.rest k fun j hj hd => ?_, I.tmps⟩
  · unfold depOn waitsFor at h
    rw [ho] at h
    simp only [Option.map_some, Option.getD_some, Bool.and_eq_true, beq_iff_eq] at h
    obtain ⟨h1, h2⟩ := h
    rw [Array.any_eq_true'] at h1
    obtain ⟨e, he, hb⟩ := h1
    simp only [Bool.and_eq_true, beq_iff_eq] at hb
    exact I.done j d h2 (by rw [← hb.2]; exact hall e he hb.1)
  · unfold isOld at h
    rw [List.all_eq_true] at h
    have hj2 : j < ops.size := by
      rcases Nat.lt_or_ge j ops.size with h' | h'
      · exact h'
      · unfold dstAt at hd; rw [Array.getElem?_eq_none h'] at hd; cases hd
    have := h j (List.mem_range.2 hj2)
    simp only [Bool.or_eq_true, bne_iff_ne, beq_iff_eq] at this
    rcases this with (h1 | h1) | h1
    · exact h1 hd
    · subst h1; rw [hn'] at hj; cases hj
    · unfold waitsFor at h1
      cases hoj : ops[j]? with
      | none => rw [hoj] at h1; cases h1
      | some oj =>
        rw [hoj] at h1
        simp only [Option.map_some, Option.getD_some] at h1
        rw [Array.any_eq_true'] at h1
        obtain ⟨e, he, hb⟩ := h1
        simp only [Bool.and_eq_true, beq_iff_eq] at hb
        have := I.closed j oj hoj hj e he hb.1
        rw [hb.2, hn'] at this
        cases this

theorem Inv.step {listed : Array Bool} {a : Act} {w : World} (I : Inv ops le φ a0 w0 listed a w) (trans : ∀ {x y z}, le x y → le y z → le x z) (stable : ∀ j v x y, le x y → φ j v x → φ j v y)
    (hD : dstsOk ops a0.tmps.size = true) {i : Nat} (hr : i ∈ Region.ready .any ops listed) {o : Oper} (ho : ops[i]? = some o) {v : Value} {w' : World} (hw : le w w') (hv : ∀ d, o.dst = some d → φ i v w') :
    Inv ops le φ a0 w0 (listed.setIfInBounds i true) (a.put o.dst v) w' := by
  obtain ⟨hn, o', ho', hall⟩ := mem_ready.1 hr
  rw [ho] at ho'
  cases ho'
  have hlt : i < ops.size := (Array.getElem?_eq_some_iff.1 ho).1
  have hlt' : i < listed.size := by rw [I.size]; exact hlt
  have hdst : dstAt ops i = o.dst := by unfold dstAt; rw [ho]; rfl
  have hdist : ∀ j, j ≠ i → ∀ d, dstAt ops j = some d → o.dst ≠ some d := by
    intro j hji d hd e
    have hj2 : j < ops.size := by
      rcases Nat.lt_or_ge j ops.size with h' | h'
      · exact h'
      · unfold dstAt at hd; rw [Array.getElem?_eq_none h'] at hd; cases hd
    unfold dstsOk at hD
    rw [List.all_eq_true] at hD
    rcases Nat.lt_or_ge j i with h | h
    · have := hD i (List.mem_range.2 hlt)
      rw [hdst, e] at this
      simp only [Bool.and_eq_true, List.all_eq_true, List.mem_range, bne_iff_ne] at this
      exact this.2 j h hd
    · have := hD j (List.mem_range.2 hj2)
      rw [hd] at this
      simp only [Bool.and_eq_true, List.all_eq_true, List.mem_range, bne_iff_ne] at this
      exact this.2 i (by omega) (by rw [hdst, e])
  have hin : ∀ d, o.dst = some d → d < a.tmps.size := by
    intro d e
    unfold dstsOk at hD
    rw [List.all_eq_true] at hD
    have := hD i (List.mem_range.2 hlt)
    rw [hdst, e] at this
    simp only [Bool.and_eq_true, decide_eq_true_eq] at this
    rw [I.tmps]; exact this.1
  refine ⟨by simp [I.size], trans I.le hw, by rw [size_put]; exact I.tmps, by rw [defers_put]; exact I.defers, ?_, ?_, ?_⟩
  · intro j oj hj hl e he hb
    by_cases hji : j = i
    · subst hji
      rw [ho] at hj; cases hj
      exact getD_set_true (hall e he hb)
    · rw [getD_set_ne false (Ne.symm hji)] at hl
      exact getD_set_true (I.closed j oj hj hl e he hb)
  · intro j d hd hl
    by_cases hji : j = i
    · subst hji
      rw [hdst] at hd
      rw [hd, eval_put_same (hin d hd)]
      exact hv d hd
    · rw [getD_set_ne false (Ne.symm hji)] at hl
      rw [eval_put_other (hdist j hji d hd)]
      exact stable _ _ _ _ hw (I.done j d hd hl)
  · intro k hk
    have hki : o.dst ≠ some k := by
      have := hk i (getD_set_same hlt')
      rw [hdst] at this; exact this
    rw [eval_put_other hki]
    refine I.rest k fun j hj => hk j (getD_set_true hj)

/-- What is asked at one operation. -/
def StepOk (P : Program) (ops : Array Oper) (Q : Exit → Act → World → Prop) (le : World → World → Prop) (φ : Nat → Value → World → Prop) (a0 : Act) (w0 : World) (i : Nat) (o : Oper) : Prop :=
  ∀ (a : Act) (w : World) (K : Act → World → Prop), Now ops le φ a0 w0 i a w → (∀ v w', le w w' → φ i v w' → K (a.put o.dst v) w') →
    if Region.wanted o (yielded ops a.tmps) = true then o.wp P a w K Q else K (a.put o.dst undef) w

theorem wpAny_of_steps (trans : ∀ {x y z}, le x y → le y z → le x z) (stable : ∀ j v x y, le x y → φ j v x → φ j v y) (hD : dstsOk ops a0.tmps.size = true)
    (steps : ∀ i o, ops[i]? = some o → StepOk P ops Q le φ a0 w0 i o)
    (fin : ∀ listed a w, Inv ops le φ a0 w0 listed a w → Region.ready .any ops listed = [] → Q .normal a w) :
    ∀ (fuel : Nat) (listed : Array Bool) (a : Act) (w : World), Inv ops le φ a0 w0 listed a w → (List.range ops.size).countP (fun i => !listed.getD i true) ≤ fuel → wpAny P .any ops Q fuel listed a w
  | 0, listed, a, w, I, hc => by
    have : Region.ready .any ops listed = [] := by
      rw [List.eq_nil_iff_forall_not_mem]
      intro i hi
      obtain ⟨hn, o, ho, _⟩ := mem_ready.1 hi
      have hlt : i < ops.size := (Array.getElem?_eq_some_iff.1 ho).1
      have : 0 < (List.range ops.size).countP (fun i => !listed.getD i true) := List.countP_pos_iff.2 ⟨i, List.mem_range.2 hlt, by simp only [hn, Bool.not_false]⟩
      omega
    exact ⟨this, fin listed a w I this⟩
  | fuel + 1, listed, a, w, I, hc => by
    refine ⟨fun h => fin listed a w I h, fun i hi => ?_⟩
    obtain ⟨hn, o, ho, _⟩ := mem_ready.1 hi
    have hlt : i < ops.size := (Array.getElem?_eq_some_iff.1 ho).1
    have hs := steps i o ho a w (fun a' w' => wpAny P .any ops Q fuel (listed.setIfInBounds i true) a' w') (I.now hi)
      (fun v w' hw hv => wpAny_of_steps trans stable hD steps fin fuel _ _ _ (I.step trans stable hD hi ho hw (fun _ _ => hv)) (by
        have hlt' : i < listed.size := by rw [I.size]; exact hlt
        have h1 : (List.range ops.size).countP (fun j => !(listed.setIfInBounds i true).getD j true) < (List.range ops.size).countP (fun i => !listed.getD i true) := by
          refine countP_lt (i := i) (List.mem_range.2 hlt) ?_ ?_ ?_
          · intro j _ hj
            by_cases hji : j = i
            · subst hji; rw [hn]; rfl
            · rw [getD_set_ne true (Ne.symm hji)] at hj; exact hj
          · rw [hn]; rfl
          · simp [Array.getD_eq_getD_getElem?, Array.getElem?_setIfInBounds_self_of_lt hlt']
        omega))
    unfold wpOp
    rw [ho]
    simp only
    split
    · rename_i hw; rw [if_pos hw] at hs; exact .inl hs
    · rename_i hw; rw [if_neg hw] at hs; exact hs
where
  countP_lt {l : List Nat} {p q : Nat → Bool} {i : Nat} (hi : i ∈ l) (hpq : ∀ j ∈ l, p j = true → q j = true) (hq : q i = true) (hp : p i = false) : l.countP p < l.countP q := by
    induction l with
    | nil => cases hi
    | cons x l ih =>
      rw [List.countP_cons, List.countP_cons]
      rcases List.mem_cons.1 hi with rfl | hi
      · have := List.countP_mono_left (p := p) (q := q) (l := l) (fun j hj => hpq j (List.mem_cons_of_mem _ hj))
        rw [hq, hp]
        simp
        omega
      · have h1 := ih hi (fun j hj => hpq j (List.mem_cons_of_mem _ hj))
        have h2 := hpq x (List.mem_cons_self ..)
        cases hpx : p x <;> cases hqx : q x <;> simp_all <;> omega

theorem all_listed (hf0 : fwdOk ops = true) {listed : Array Bool} (hs : listed.size = ops.size) (hr : Region.ready .any ops listed = []) : ∀ n i, i < n → i < ops.size → listed.getD i false = true
  | 0, _, h, _ => absurd h (Nat.not_lt_zero _)
  | n + 1, i, h, hi => by
    rcases Nat.lt_or_ge i n with h' | h'
    · exact all_listed hf0 hs hr n i h' hi
    · cases hl : listed.getD i false with
      | true => rfl
      | false =>
        exfalso
        have hn : listed.getD i true = false := by
          have hi' : i < listed.size := by rw [hs]; exact hi
          simp only [Array.getD_eq_getD_getElem?, Array.getElem?_eq_getElem hi', Option.getD_some] at *
          exact hl
        have : i ∈ Region.ready .any ops listed := by
          rw [mem_ready]
          refine ⟨hn, ops[i], Array.getElem?_eq_getElem hi, fun e he hb => ?_⟩
          have hf := hf0
          unfold fwdOk at hf
          rw [List.all_eq_true] at hf
          have h1 := hf i (List.mem_range.2 hi)
          rw [Array.getElem?_eq_getElem hi] at h1
          simp only [Option.map_some, Option.getD_some] at h1
          rw [Array.all_eq_true'] at h1
          have h2 := h1 e he
          rw [hb] at h2
          simp only [Bool.not_true, Bool.false_or, decide_eq_true_eq] at h2
          exact all_listed hf0 hs hr n e.on (by omega) (by omega)
        rw [hr] at this
        cases this

/-- A frame with all slots of a list of operations written. -/
def putAll (b : Act) : List Oper → (Nat → Value) → Act
  | [], _ => b
  | o :: os, f => putAll (b.put o.dst (match o.dst with | some d => f d | none => undef)) os f
theorem putAll_size (f : Nat → Value) : ∀ (os : List Oper) (b : Act), (putAll b os f).tmps.size = b.tmps.size ∧ (putAll b os f).defers = b.defers
  | [], _ => ⟨rfl, rfl⟩
  | o :: os, b => by
    obtain ⟨h1, h2⟩ := putAll_size f os (b.put o.dst (match o.dst with | some d => f d | none => undef))
    unfold putAll
    exact ⟨h1.trans size_put, h2.trans defers_put⟩
theorem putAll_get (f : Nat → Value) : ∀ (os : List Oper) (b : Act) (k : Nat), (∀ o ∈ os, ∀ d, o.dst = some d → d < b.tmps.size) →
    (putAll b os f).eval (.tmp k) = if os.any (fun o => o.dst == some k) then f k else b.eval (.tmp k)
  | [], _, _, _ => rfl
  | o :: os, b, k, hd => by
    have ih := putAll_get f os (b.put o.dst (match o.dst with | some d => f d | none => undef)) k (fun x hx d e => by rw [size_put]; exact hd x (List.mem_cons_of_mem _ hx) d e)
    unfold putAll
    rw [ih, List.any_cons]
    by_cases h : o.dst = some k
    · rw [h]
      simp only [BEq.rfl, Bool.true_or, if_true]
      split
      · rfl
      · exact eval_put_same (hd o (List.mem_cons_self ..) k h)
    · rw [eval_put_other h, beq_eq_false_iff_ne.2 h, Bool.false_or]
theorem act_ext {a b : Act} (h1 : a.tmps.size = b.tmps.size) (h2 : a.defers = b.defers) (h3 : ∀ k, a.eval (.tmp k) = b.eval (.tmp k)) : a = b := by
  obtain ⟨ta, da⟩ := a
  obtain ⟨tb, db⟩ := b
  simp only at h1 h2
  subst h2
  congr 1
  refine Array.ext h1 fun i hi hi' => ?_
  have := h3 i
  simpa [Act.eval, Array.getD_eq_getD_getElem?, hi, hi'] using this

/-- What is asked behind the region: of each slot what is known of it, one by one. -/
def FinAll (φ : Nat → Value → World → Prop) (w : World) (R : Act → Prop) : Nat → List Oper → Act → Prop
  | _, [], b => R b
  | i, o :: os, b => match o.dst with
    | none => FinAll φ w R (i + 1) os b
    | some d => ∀ v, φ i v w → FinAll φ w R (i + 1) os (b.put (some d) v)
theorem finAll_take {w : World} {R : Act → Prop} (f : Nat → Value) : ∀ (os : List Oper) (i : Nat) (b : Act), FinAll φ w R i os b → (∀ j o d, os[j]? = some o → o.dst = some d → φ (i + j) (f d) w) → R (putAll b os f)
  | [], _, _, h, _ => h
  | o :: os, i, b, h, hf => by
    unfold FinAll at h
    unfold putAll
    have hf' : ∀ j o d, os[j]? = some o → o.dst = some d → φ (i + 1 + j) (f d) w := fun j x d hx hd => by
      have := hf (j + 1) x d (by simpa using hx) hd
      rw [show i + 1 + j = i + (j + 1) by omega]; exact this
    cases hd : o.dst with
    | none =>
      rw [hd] at h
      exact finAll_take f os (i + 1) b h hf'
    | some d =>
      rw [hd] at h
      exact finAll_take f os (i + 1) _ (h (f d) (by have := hf 0 o d rfl hd; rwa [Nat.add_zero] at this)) hf'

/-- The steps, one by one. -/
def StepsOk (P : Program) (ops : Array Oper) (Q : Exit → Act → World → Prop) (le : World → World → Prop) (φ : Nat → Value → World → Prop) (a0 : Act) (w0 : World) : Nat → List Oper → Prop
  | _, [] => True
  | i, o :: os => StepOk P ops Q le φ a0 w0 i o ∧ StepsOk P ops Q le φ a0 w0 (i + 1) os
theorem stepsOk_at : ∀ (os : List Oper) (i : Nat), StepsOk P ops Q le φ a0 w0 i os → ∀ j o, os[j]? = some o → StepOk P ops Q le φ a0 w0 (i + j) o
  | [], _, _, _, _, h => by simp at h
  | x :: os, i, hs, 0, o, h => by
    simp only [List.getElem?_cons_zero, Option.some.injEq] at h
    subst h
    exact hs.1
  | x :: os, i, hs, j + 1, o, h => by
    have := stepsOk_at os (i + 1) hs.2 j o (by simpa using h)
    rw [show i + (j + 1) = i + 1 + j by omega]; exact this

/-- The law. -/
theorem wp_region_slots {id : Nat} {l : List Oper} (le : World → World → Prop) (φ : Nat → Value → World → Prop) (refl : ∀ x, le x x) (trans : ∀ {x y z}, le x y → le y z → le x z) (stable : ∀ j v x y, le x y → φ j v x → φ j v y)
    (hm : P.follows .mixedOrders = true) (hF : fwdOk l.toArray = true) (hD : dstsOk l.toArray a0.tmps.size = true)
    (steps : StepsOk P l.toArray Q le φ a0 w0.drew 0 l)
    (fin : ∀ w, le w0.drew w → FinAll φ w (fun a => Q .normal a w) 0 l a0) :
    (Code.region id l.toArray true).wp P Q a0 w0 := by
  refine wp_region_any hm ?_
  refine wpAny_of_steps (le := le) (φ := φ) (a0 := a0) (w0 := w0.drew) trans stable hD (fun i o ho => ?_) (fun listed a w I hr => ?_) _ _ _ _ ?_ ?_
  · have := stepsOk_at l 0 steps i o (by simpa using ho)
    rwa [Nat.zero_add] at this
  · have hall := fun i hi => all_listed hF I.size hr (i + 1) i (Nat.lt_succ_self i) hi
    have hf := finAll_take (fun d => a.eval (.tmp d)) l 0 a0 (fin w I.le) (fun j o d hj hd => by
      rw [Nat.zero_add]
      have hj' : l.toArray[j]? = some o := by simpa using hj
      exact I.done j d (by unfold dstAt; rw [hj']; exact hd) (hall j (Array.getElem?_eq_some_iff.1 hj').1))
    have hin : ∀ o ∈ l, ∀ d, o.dst = some d → d < a0.tmps.size := by
      intro o ho d hd
      obtain ⟨j, hj⟩ := List.getElem?_of_mem ho
      have hj' : l.toArray[j]? = some o := by simpa using hj
      unfold dstsOk at hD
      rw [List.all_eq_true] at hD
      have := hD j (List.mem_range.2 (Array.getElem?_eq_some_iff.1 hj').1)
      have e : dstAt l.toArray j = some d := by unfold dstAt; rw [hj']; exact hd
      rw [e] at this
      simp only [Bool.and_eq_true, decide_eq_true_eq] at this
      exact this.1
    have hs := putAll_size (fun d => a.eval (.tmp d)) l a0
    have : putAll a0 l (fun d => a.eval (.tmp d)) = a := by
      refine act_ext (hs.1.trans I.tmps.symm) (hs.2.trans I.defers.symm) fun k => ?_
      rw [putAll_get _ _ _ _ hin]
      split
      · rfl
      · rename_i h
        refine (I.rest k fun j hj hd => h ?_).symm
        rw [List.any_eq_true]
        unfold dstAt at hd
        cases ho : l.toArray[j]? with
        | none => rw [ho] at hd; cases hd
        | some o =>
          rw [ho] at hd
          exact ⟨o, List.mem_of_getElem? (by simpa using ho), by simpa using hd⟩
    rw [this] at hf
    exact hf
  · refine ⟨by simp, refl _, rfl, rfl, ?_, ?_, fun k _ => rfl⟩
    · intro j o _ hl
      simp only [Array.getD_eq_getD_getElem?, Array.getElem?_replicate] at hl
      split at hl <;> cases hl
    · intro j d _ hl
      simp only [Array.getD_eq_getD_getElem?, Array.getElem?_replicate] at hl
      split at hl <;> cases hl
  · have := List.countP_le_length (p := fun i => !(Array.replicate l.toArray.size false).getD i true) (l := List.range l.toArray.size)
    simpa using this
end

/-! With what lies in memory growing alone. -/
theorem cellLt {W : World} {a : Addr} {v : Value} (h : W.cell? a = some v) : a.block < W.heap.size := by
  rcases Nat.lt_or_ge a.block W.heap.size with h' | h'
  · exact h'
  · simp [World.cell?, Array.getElem?_eq_none h'] at h
theorem keep_cell {a : Addr} {v : Value} {W W' : World} (hb : RowKit.Below W.heap.size W W') (h : W.cell? a = some v) : W'.cell? a = some v := (hb.cell (cellLt h)).trans h
def slotLe (x y : World) : Prop := RowKit.Below x.heap.size x y
theorem below_undrew {w V : World} (h : slotLe w.drew V) : RowKit.Below w.heap.size w V := (RowKit.Below.refl _ w).drew.trans h
theorem slotLe_refl (x : World) : slotLe x x := RowKit.Below.refl _ x
theorem slotLe_trans {x y z : World} (h : slotLe x y) (k : slotLe y z) : slotLe x z := RowKit.Below.trans h (k.mono h.size)
def slotPhi (l : List (Value → World → Prop)) (j : Nat) : Value → World → Prop := l.getD j (fun _ _ => True)
/-- Each predicate stands when more memory is made. -/
def StableAll : List (Value → World → Prop) → Prop
  | [] => True
  | p :: l => (∀ v x y, slotLe x y → p v x → p v y) ∧ StableAll l
theorem slotPhi_stable : ∀ {l : List (Value → World → Prop)}, StableAll l → ∀ j v x y, slotLe x y → slotPhi l j v x → slotPhi l j v y
  | [], _, _, _, _, _, _, _ => trivial
  | _p :: _l, h, 0, v, x, y, hxy, hp => h.1 v x y hxy hp
  | _p :: l, h, j + 1, v, x, y, hxy, hp => slotPhi_stable (l := l) h.2 j v x y hxy hp
theorem stable_const {c : Value} : ∀ (v : Value) (x y : World), slotLe x y → (fun (v : Value) (_ : World) => v = c) v x → (fun (v : Value) (_ : World) => v = c) v y := fun _ _ _ _ h => h
theorem stable_true : ∀ (v : Value) (x y : World), slotLe x y → (fun (_ : Value) (_ : World) => True) v x → (fun (_ : Value) (_ : World) => True) v y := fun _ _ _ _ h => h
end Go.Proofs.YtagjjpmhacknpaaDoor

/- New. -/
set_option maxRecDepth 100000
namespace Go.Proofs.YtagjjpmhacknpaaDoor
open Go.RowKit Go.Shelf
namespace Ar
def newSt (B k : Nat) : St := ⟨List.replicate B 0, 0, List.replicate (k * 64) 0, List.replicate k 0, 0, ring0, 0⟩
end Ar
def NewMem (B n0 : Nat) (v : Value) (W : World) : Prop := ∃ M, v = .slice (some ⟨M, 0, none⟩) B B ∧ Blk W M (List.replicate B (.int .u8 0)) 5 ∧ n0 ≤ M
def NewHand (k n0 : Nat) (v : Value) (W : World) : Prop := ∃ P U, v = .agg #[.slice (some ⟨P, 0, none⟩) (k * 64) (k * 64), .slice (some ⟨U, 0, none⟩) k k, .int .i64 0] ∧ Blk W P (List.replicate (k * 64) (.int .i32 0)) 21 ∧ Blk W U (List.replicate k (.int .u64 0)) 81 ∧ n0 ≤ P ∧ n0 ≤ U
def NewRing (n0 : Nat) (v : Value) (W : World) : Prop := ∃ N, v = .agg #[.slice (some ⟨N, 0, none⟩) 17 17, .int .i64 0] ∧ Blk W N (encNs Ar.ring0) 93 ∧ n0 ≤ N
def NewAgg (B k n0 : Nat) (v : Value) (W : World) : Prop := ∃ M P U N, v = .agg #[.slice (some ⟨M, 0, none⟩) B B, .int .i64 0, .slice (some ⟨P, 0, none⟩) (k * 64) (k * 64), .slice (some ⟨U, 0, none⟩) k k, .int .i64 0, .slice (some ⟨N, 0, none⟩) 17 17, .int .i64 0] ∧ Blk W M (List.replicate B (.int .u8 0)) 5 ∧ Blk W P (List.replicate (k * 64) (.int .i32 0)) 21 ∧ Blk W U (List.replicate k (.int .u64 0)) 81 ∧ Blk W N (encNs Ar.ring0) 93 ∧ n0 ≤ M ∧ n0 ≤ P ∧ n0 ≤ U ∧ n0 ≤ N
def NewBox (B k n0 : Nat) (v : Value) (W : World) : Prop := ∃ A L, v = .pointer (some ⟨A, 0, none⟩) ∧ ArE A L (Ar.newSt B k) (fun j => n0 ≤ j ∧ j < W.heap.size) W
theorem Blk.sl {x y : World} {B : Nat} {l : List Value} {t : TypeId} (h : Blk x B l t) (hl : slotLe x y) : Blk y B l t := h.kept (hl.block _ h.lt)
theorem NewMem.below {B n0 : Nat} {v : Value} {x y : World} (h : NewMem B n0 v x) (hl : slotLe x y) : NewMem B n0 v y := by
  obtain ⟨M, e, b, z⟩ := h
  exact ⟨M, e, b.sl hl, z⟩
theorem NewHand.below {k n0 : Nat} {v : Value} {x y : World} (h : NewHand k n0 v x) (hl : slotLe x y) : NewHand k n0 v y := by
  obtain ⟨P, U, e, b, c, z⟩ := h
  exact ⟨P, U, e, b.sl hl, c.sl hl, z⟩
theorem NewRing.below {n0 : Nat} {v : Value} {x y : World} (h : NewRing n0 v x) (hl : slotLe x y) : NewRing n0 v y := by
  obtain ⟨M, e, b, z⟩ := h
  exact ⟨M, e, b.sl hl, z⟩
theorem NewAgg.below {B k n0 : Nat} {v : Value} {x y : World} (h : NewAgg B k n0 v x) (hl : slotLe x y) : NewAgg B k n0 v y := by
  obtain ⟨M, P, U, N, e, b1, b2, b3, b4, z⟩ := h
  exact ⟨M, P, U, N, e, b1.sl hl, b2.sl hl, b3.sl hl, b4.sl hl, z⟩
theorem NewBox.below {B k n0 : Nat} {v : Value} {x y : World} (h : NewBox B k n0 v x) (hl : slotLe x y) : NewBox B k n0 v y := by
  obtain ⟨A, L, e, b⟩ := h
  exact ⟨A, L, e, (ArE.below b hl).wide (fun _ e => ⟨e.1, Nat.lt_of_lt_of_le e.2 hl.size⟩) (fun _ e => e.2)⟩
theorem NewMem.made {B n0 : Nat} {W : World} (h : n0 ≤ W.heap.size) : NewMem B n0 (.slice (some ⟨W.heap.size, 0, none⟩) B B) (W.alloc (.cells (List.replicate B (.int .u8 0)).toArray 5)) := ⟨_, rfl, Blk.new W _ _, h⟩
theorem HandRet.phi {k : Nat} {w w' : World} {e : Ending} (h : HandRet k w e w') : ∃ v, e = .returned v ∧ (∀ n0, n0 ≤ w.heap.size → NewHand k n0 v w') ∧ Below w.heap.size w w' := by
  obtain ⟨P, U, e, b, c, z1, z2, hb⟩ := h
  exact ⟨_, e, fun n0 h0 => ⟨P, U, rfl, b, c, by omega, by omega⟩, hb⟩
theorem RingRet.phi {w w' : World} {e : Ending} (h : RingRet w e w') : ∃ v, e = .returned v ∧ (∀ n0, n0 ≤ w.heap.size → NewRing n0 v w') ∧ Below w.heap.size w w' := by
  obtain ⟨N, e, b, z1, hb⟩ := h
  exact ⟨_, e, fun n0 h0 => ⟨N, rfl, b, by omega⟩, hb⟩
theorem NewBox.made {B k n0 : Nat} {W : World} {M P U N : Nat} (h : n0 ≤ W.heap.size) (b1 : Blk W M (List.replicate B (.int .u8 0)) 5) (b2 : Blk W P (List.replicate (k * 64) (.int .i32 0)) 21) (b3 : Blk W U (List.replicate k (.int .u64 0)) 81) (b4 : Blk W N (encNs Ar.ring0) 93) (z1 : n0 ≤ M) (z2 : n0 ≤ P) (z3 : n0 ≤ U) (z4 : n0 ≤ N) :
    NewBox B k n0 (.pointer (some ⟨W.heap.size, 0, none⟩)) (W.alloc (.cells #[.slice (some ⟨M, 0, none⟩) B B, .int .i64 0, .slice (some ⟨P, 0, none⟩) (k * 64) (k * 64), .slice (some ⟨U, 0, none⟩) k k, .int .i64 0, .slice (some ⟨N, 0, none⟩) 17 17, .int .i64 0] 66)) := by
  have hs : (W.alloc (.cells #[.slice (some ⟨M, 0, none⟩) B B, .int .i64 0, .slice (some ⟨P, 0, none⟩) (k * 64) (k * 64), .slice (some ⟨U, 0, none⟩) k k, .int .i64 0, .slice (some ⟨N, 0, none⟩) 17 17, .int .i64 0] 66)).heap.size = W.heap.size + 1 := World.size_alloc _ _
  have l1 := b1.lt; have l2 := b2.lt; have l3 := b3.lt; have l4 := b4.lt
  refine ⟨W.heap.size, ⟨M, P, U, N, 17, []⟩, rfl, ?_, ?_, ?_, ?_, ?_, ?_, ?_, ?_, ?_, ?_, ?_, ?_, fun _ e => e.2⟩
  · have := Blk.new W [.slice (some ⟨M, 0, none⟩) B B, .int .i64 0, .slice (some ⟨P, 0, none⟩) (k * 64) (k * 64), .slice (some ⟨U, 0, none⟩) k k, .int .i64 0, .slice (some ⟨N, 0, none⟩) 17 17, .int .i64 0] 66
    unfold arBox Ar.newSt
    simp only [List.length_replicate]
    exact this
  · have := b1.alloc (.cells #[.slice (some ⟨M, 0, none⟩) B B, .int .i64 0, .slice (some ⟨P, 0, none⟩) (k * 64) (k * 64), .slice (some ⟨U, 0, none⟩) k k, .int .i64 0, .slice (some ⟨N, 0, none⟩) 17 17, .int .i64 0] 66)
    unfold Ar.newSt
    simp only [List.map_replicate]
    exact this
  · have := b2.alloc (.cells #[.slice (some ⟨M, 0, none⟩) B B, .int .i64 0, .slice (some ⟨P, 0, none⟩) (k * 64) (k * 64), .slice (some ⟨U, 0, none⟩) k k, .int .i64 0, .slice (some ⟨N, 0, none⟩) 17 17, .int .i64 0] 66)
    unfold Ar.newSt
    simp only [List.map_replicate]
    exact this
  · have := b3.alloc (.cells #[.slice (some ⟨M, 0, none⟩) B B, .int .i64 0, .slice (some ⟨P, 0, none⟩) (k * 64) (k * 64), .slice (some ⟨U, 0, none⟩) k k, .int .i64 0, .slice (some ⟨N, 0, none⟩) 17 17, .int .i64 0] 66)
    unfold Ar.newSt
    simp only [List.map_replicate]
    exact this
  · have := b4.alloc (.cells #[.slice (some ⟨M, 0, none⟩) B B, .int .i64 0, .slice (some ⟨P, 0, none⟩) (k * 64) (k * 64), .slice (some ⟨U, 0, none⟩) k k, .int .i64 0, .slice (some ⟨N, 0, none⟩) 17 17, .int .i64 0] 66)
    rw [show encNs (Ar.newSt B k).nd ++ [] = encNs Ar.ring0 by rw [List.append_nil]; rfl]
    exact this
  · show 0 + 3 * (Ar.ring 17).length = 3 * 17
    rw [Ar.ring_len]
  · show 17 ≤ maxLen
    unfold maxLen; omega
  · exact ⟨h, by rw [hs]; omega⟩
  · exact ⟨z1, by rw [hs]; show M < _; omega⟩
  · exact ⟨z2, by rw [hs]; show P < _; omega⟩
  · exact ⟨z3, by rw [hs]; show U < _; omega⟩
  · exact ⟨z4, by rw [hs]; show N < _; omega⟩
namespace Ar
/-- A new arena of so many bytes. -/
def new (B : Nat) : St := putFree (newSt B ((B / 16 + 63) / 64)) 0 (B / 16 * 16) 0
end Ar
def NewRet (B : Nat) (w : World) (e : Ending) (w' : World) : Prop := ∃ A L, e = .returned (.tuple #[.pointer (some ⟨A, 0, none⟩), .int .i64 0]) ∧ ArE A L (Ar.new B) (fun j => w.heap.size ≤ j ∧ j < w'.heap.size) w' ∧ Below w.heap.size w w'
set_option maxHeartbeats 4000000 in
theorem new_any (B : Nat) (w : World) (h1 : 1024 ≤ B) (h2 : B ≤ 1048576) : Calls Tryd.prog 6 #[.int .i64 (B : Int)] w (NewRet B w) := by
  obtain ⟨k, hk⟩ : ∃ k, k = (B / 16 + 63) / 64 := ⟨_, rfl⟩
  have HKK := Lib.hid hk
  have HMK := Lib.hid (make_one Tryd.underlying34 infoU8 (by omega) rfl (B : Int) B rfl (by omega))
  clear hk
  go_enter Tryd.func6, Tryd.ntmps6
  go_wp2
  refine wp_region_slots slotLe (slotPhi ((fun v _ => v = ?s11) :: (NewMem B w.heap.size) :: (fun v _ => v = ?s13) :: (fun v _ => v = ?s14) :: (NewHand k w.heap.size) :: (NewRing w.heap.size) :: (NewAgg B k w.heap.size) :: (NewBox B k w.heap.size) :: (NewBox B k w.heap.size) :: [])) slotLe_refl slotLe_trans (slotPhi_stable ?stb) (by kernel_rfl) (by kernel_rfl) (by kernel_rfl) ?steps ?fin
  case stb =>
    refine ⟨by intro _ _ _ _ h; exact h, ?_⟩
    refine ⟨fun _ _ _ h q => NewMem.below q h, ?_⟩
    refine ⟨by intro _ _ _ _ h; exact h, ?_⟩
    refine ⟨by intro _ _ _ _ h; exact h, ?_⟩
    refine ⟨fun _ _ _ h q => NewHand.below q h, ?_⟩
    refine ⟨fun _ _ _ h q => NewRing.below q h, ?_⟩
    refine ⟨fun _ _ _ h q => NewAgg.below q h, ?_⟩
    refine ⟨fun _ _ _ h q => NewBox.below q h, ?_⟩
    refine ⟨fun _ _ _ h q => NewBox.below q h, ?_⟩
    exact trivial
  case steps =>
    refine ⟨?_, ?_⟩
    · intro a W K N hK
      have e0 : a.tmps[0]?.getD undef = .int .i64 (B : Int) := N.was' 0 _ (by kernel_rfl) rfl
      rw [if_pos (wanted_no rfl)]
      go_simp
      refine hK _ _ (slotLe_refl _) ?_
      exact rfl
    refine ⟨?_, ?_⟩
    · intro a W K N hK
      have e11 : a.tmps[11]?.getD undef = _ := N.dep' 0 11 (by kernel_rfl)
      rw [if_pos (wanted_no rfl)]
      have hmk := HMK.out
      go_simp
      refine hK _ _ ((RowKit.Below.refl _ W).alloc (Nat.le_refl _) _) ?_
      exact NewMem.made N.le.size
    refine ⟨?_, ?_⟩
    · intro a W K N hK
      have e0 : a.tmps[0]?.getD undef = .int .i64 (B : Int) := N.was' 0 _ (by kernel_rfl) rfl
      rw [if_pos (wanted_no rfl)]
      go_simp
      refine hK _ _ (slotLe_refl _) ?_
      exact rfl
    refine ⟨?_, ?_⟩
    · intro a W K N hK
      have e13 : a.tmps[13]?.getD undef = _ := N.dep' 2 13 (by kernel_rfl)
      rw [if_pos (wanted_no rfl)]
      go_simp
      refine hK _ _ (slotLe_refl _) ?_
      exact rfl
    refine ⟨?_, ?_⟩
    · intro a W K N hK
      have e14 : a.tmps[14]?.getD undef = _ := N.dep' 3 14 (by kernel_rfl)
      rw [if_pos (wanted_no rfl)]
      go_simp
      refine (newHandles_any _ (B / 16) k _ (by rw [IntKind.wrap_i64]; omega) (by omega) HKK.out).mono ?_
      rintro e w4 h4
      obtain ⟨v4, rfl, q4, b4⟩ := h4.phi
      refine hK _ _ b4 ?_
      exact q4 _ N.le.size
    refine ⟨?_, ?_⟩
    · intro a W K N hK
      rw [if_pos (wanted_no rfl)]
      go_simp
      refine (newChains_any _).mono ?_
      rintro e w4 h4
      obtain ⟨v4, rfl, q4, b4⟩ := h4.phi
      refine hK _ _ b4 ?_
      exact q4 _ N.le.size
    refine ⟨?_, ?_⟩
    · intro a W K N hK
      have e12 := Lib.hid (show (NewMem B w.heap.size) (a.tmps[12]?.getD undef) W from N.dep' 1 12 (by kernel_rfl))
      have e15 := Lib.hid (show (NewHand k w.heap.size) (a.tmps[15]?.getD undef) W from N.dep' 4 15 (by kernel_rfl))
      have e16 := Lib.hid (show (NewRing w.heap.size) (a.tmps[16]?.getD undef) W from N.dep' 5 16 (by kernel_rfl))
      rw [if_pos (wanted_no rfl)]
      obtain ⟨M, q12, b12, z12⟩ := e12.out
      obtain ⟨P, U, q15, b15, b15', z15, z15'⟩ := e15.out
      obtain ⟨NN, q16, b16, z16⟩ := e16.out
      go_simp
      refine hK _ _ (slotLe_refl _) ?_
      exact ⟨M, P, U, NN, rfl, b12, b15, b15', b16, z12, z15, z15', z16⟩
    refine ⟨?_, ?_⟩
    · intro a W K N hK
      have e17 := Lib.hid (show (NewAgg B k w.heap.size) (a.tmps[17]?.getD undef) W from N.dep' 6 17 (by kernel_rfl))
      rw [if_pos (wanted_no rfl)]
      obtain ⟨M, P, U, NN, q17, b12, b15, b15', b16, z12, z15, z15', z16⟩ := e17.out
      go_simp
      refine hK _ _ ((RowKit.Below.refl _ W).alloc (Nat.le_refl _) _) ?_
      exact NewBox.made N.le.size b12 b15 b15' b16 z12 z15 z15' z16
    refine ⟨?_, ?_⟩
    · intro a W K N hK
      have e18 := Lib.hid (show (NewBox B k w.heap.size) (a.tmps[18]?.getD undef) W from N.dep' 7 18 (by kernel_rfl))
      rw [if_pos (wanted_no rfl)]
      obtain ⟨AA, LL, q18, b18⟩ := e18.out
      go_simp
      refine hK _ _ (slotLe_refl _) ?_
      exact ⟨AA, LL, rfl, b18⟩
    exact trivial
  case fin =>
    intro V hV
    simp only [FinAll, slotPhi, List.getD_cons_zero, List.getD_cons_succ, forall_eq, Act.put, List.setIfInBounds_toArray, List.set_cons_zero, List.set_cons_succ]
    intro v12 _ v15 _ v16 _ v17 _ v18 _ v4 h4
    obtain ⟨A, L, rfl, hA⟩ := h4
    have HV := Lib.hid (below_undrew hV)
    have HA := Lib.hid hA
    have hmB : (Ar.newSt B k).mem.length = B := by simp [Ar.newSt]
    have HMB := Lib.hid hmB
    have HF : Hid (Ar.fin (Ar.newSt B k) = B / 16 * 16) := Lib.hid (by unfold Ar.fin; rw [hmB])
    have hcl := (Ar.cls_spec (s := B / 16 * 16) (by omega) (by omega)).2.2
    have HR : Hid (Ar.cls (B / 16 * 16) < (Ar.newSt B k).nd.length ∧ (Ar.nodeAt (Ar.newSt B k).nd (Ar.cls (B / 16 * 16))).n < (Ar.newSt B k).nd.length ∧ (Ar.newSt B k).spare < (Ar.newSt B k).nd.length ∧ (Ar.newSt B k).nd.length < 200000) := Lib.hid (by
      generalize Ar.cls (B / 16 * 16) = c at hcl
      have : (Ar.newSt B k).nd = Ar.ring 17 := rfl
      rw [this, Ar.ring_len]
      refine ⟨by omega, ?_, show 0 < 17 by omega, by omega⟩
      have : ∀ c : Fin 17, (Ar.nodeAt (Ar.ring 17) c.1).n < 17 := by decide +kernel
      exact this ⟨c, by omega⟩)
    clear hA hV hmB hcl HMK
    go_wp2_with (first
      | (go_at_call 26; (with_reducible refine (end_at A L (Ar.newSt B k) _ (B / 16 * 16) _ HA.out (by rw [HMB.out]; exact h2) HF.out).mono ?_); rintro e w' ⟨rfl, rfl⟩)
      | (go_at_call 25; (refine (putFree_at A L (Ar.newSt B k) _ _ _ _ 0 (B / 16 * 16) 0 _ HA.out rfl rfl rfl (by rw [HMB.out]; exact h2) (by omega) (by rw [HMB.out]; omega) (by omega) (by omega) HR.out.1 HR.out.2.1 HR.out.2.2.1 HR.out.2.2.2).mono ?_); rintro e w5 ⟨rfl, L5, hA5⟩))
    go_ret2
    have hE : Ar.putFree (Ar.newSt B k) 0 (B / 16 * 16) 0 = Ar.new B := by rw [HKK.out]; rfl
    refine ⟨A, L5, rfl, ?_, ?_⟩
    · rw [← hE]
      exact hA5.ar.wide (fun j e => e.elim (fun e => ⟨e.1, Nat.lt_of_lt_of_le e.2 hA5.trn.size⟩) (fun e => ⟨Nat.le_trans HV.out.size e.1, e.2⟩)) (fun j e => e.2)
    · exact HV.out.trans (hA5.trn.below (fun j e => e.1) HV.out.size)
set_option maxHeartbeats 1000000 in
theorem new_none (z : Int) (w : World) (h : z < 1024 ∨ 1048576 < z) : Calls Tryd.prog 6 #[.int .i64 z] w fun e w' => e = .returned (.tuple #[.pointer none, .int .i64 1]) ∧ w = w' := by
  go_enter Tryd.func6, Tryd.ntmps6
  by_cases h1 : z < 1024
  · go_wp2
    go_ret2
    exact ⟨rfl, rfl⟩
  · have h2 : 1048576 < z := by omega
    go_wp2
    go_ret2
    exact ⟨rfl, rfl⟩
end Go.Proofs.YtagjjpmhacknpaaDoor
