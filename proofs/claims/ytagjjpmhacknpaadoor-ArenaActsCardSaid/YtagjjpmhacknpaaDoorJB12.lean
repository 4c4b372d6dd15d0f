/- 3 texts put together: SeqB, Hall, Told. -/
import Derived.RangeFuncNested
import Derived.RangeFuncBound
import Derived.RangeFuncLeaves
import Derived.RangeFuncFrom
import Derived.RangeFuncWrites
import Derived.RangeFuncCalls
import Derived.Shelf.Abstract
import Derived.Shelf.RegionOpen
import Derived.OwnWalkIn
import Derived.TacticsInMore
import Derived.LoopNIn
import Derived.LoopIn
import Derived.Test.YtagjjpmhacknpaaDoorJB1
import Derived.Test.YtagjjpmhacknpaaDoorJB4
import Derived.Test.YtagjjpmhacknpaaDoorJB8
import Derived.Test.YtagjjpmhacknpaaDoorJB11
/- A range over a function whose body may make a map and write it: the caller's invariant abides the turn of book-keeping alone (a loop's record, a block for deferred calls), and the body keeps no more than that. -/
namespace Go.Proofs.YtagjjpmhacknpaaDoor
open Go Go.RowKit
variable {F : Fence} {n : Nat} {P : Program}

theorem bookC {A : World} {r : Nat} (h : ∃ o : Obj, A.heap[r]? = some o ∧ isBook o = true) : ∃ o : Obj, A.heap[r]? = some o ∧ o.isCells = false := by
  obtain ⟨o, ho, hk⟩ := h
  exact ⟨o, ho, book_cells hk⟩
/-- The invariant abides the turn of book-keeping from B on. -/
def OwnBk {β : Type} (B : Nat) (I : β → World → Prop) : Prop :=
  ∀ s W W' row, I s W → W.grownBy W' row → (∀ r, row = some r → B ≤ r ∧ ∃ o : Obj, W.heap[r]? = some o ∧ isBook o = true) → I s W'
theorem ownFrom_book {β : Type} {B : Nat} {I : β → World → Prop} (h : OwnFrom B I) : OwnBk B I := fun s W W' row hs hg hr => h s W W' row hs hg (fun r e => ⟨(hr r e).1, by obtain ⟨o, ho, hk⟩ := (hr r e).2; exact ⟨o, ho, book_cells hk⟩⟩)
theorem OwnBk.putObj {β : Type} {B : Nat} {I : β → World → Prop} (h : OwnBk B I) {s : β} {W : World} {l : Nat} {o : Obj} (o' : Obj) (hs : I s W) (hB : B ≤ l) (hl : W.heap[l]? = some o) (ho : isBook o = true) : I s (W.putObj l o') :=
  h s W _ (some l) hs (grownBy_putObj' W l o') (fun r e => by cases e; exact ⟨hB, o, hl, ho⟩)
theorem OwnBk.alloc {β : Type} {B : Nat} {I : β → World → Prop} (h : OwnBk B I) {s : β} {W : World} (o : Obj) (hs : I s W) : I s (W.alloc o) :=
  h s W _ none hs (World.grownBy_alloc W o none) (fun r e => by cases e)
theorem OwnBk.and {β : Type} {B : Nat} {I I' : β → World → Prop} (h : OwnBk B I) (h' : OwnBk B I') : OwnBk B (fun s W => I s W ∧ I' s W) := fun s W W' row hs hg hr => ⟨h s W W' row hs.1 hg hr, h' s W W' row hs.2 hg hr⟩
theorem ownBk_pure {β : Type} (B : Nat) (p : β → Prop) : OwnBk B (fun s (_ : World) => p s) := fun _ _ _ _ hs _ _ => hs
/-- Book-keeping from B on lies as it lay. -/
structure KeepsBk (B : Nat) (W W' : World) : Prop where
  size : W.heap.size ≤ W'.heap.size
  same : ∀ (k : Nat) (o : Obj), B ≤ k → W.heap[k]? = some o → isBook o = true → W'.heap[k]? = some o
theorem keepsFrom_book {B : Nat} {W W' : World} (h : KeepsFrom B W W') : KeepsBk B W W' := ⟨h.size, fun k o hB hk ho => h.same k o hB hk (book_cells ho)⟩
theorem KeepsBk.refl (B : Nat) (W : World) : KeepsBk B W W := keepsFrom_book (KeepsFrom.refl B W)
theorem KeepsBk.trans {B : Nat} {X Y Z : World} (h : KeepsBk B X Y) (k : KeepsBk B Y Z) : KeepsBk B X Z := ⟨Nat.le_trans h.size k.size, fun i o hB hi ho => k.same i o hB (h.same i o hB hi ho) ho⟩
theorem KeepsBk.of_grownBy {B : Nat} {W W' : World} {row : Option Nat} (hg : W.grownBy W' row) (hrow : ∀ j, row = some j → j < B) : KeepsBk B W W' := keepsFrom_book (KeepsFrom.of_grownBy hg hrow)
def ownPostB {α : Type} (B : Nat) (Kp : World → World → Prop) (I : List α → World → Prop) (Ix : Code → List α → World → Prop) (xs : List α) (W : World) : Exit → Act → World → Prop
  | .normal, _, W' => KeepsBk B W W' ∧ Kp W W' ∧ I xs W'
  | .ret, _, W' => KeepsBk B W W' ∧ Ix .ret xs W'
  | .exit id, _, W' => KeepsBk B W W' ∧ Ix (.exit id) xs W'
  | .goto t, _, W' => KeepsBk B W W' ∧ Ix (.goto t) xs W'
  | .panic _, _, _ => False
  | .outgrown, _, _ => False

/-- The contract of an iterator that loops over another. -/
def SeqStopsB {α : Type} (F : Fence) (n : Nat) (P : Program) (g : Nat) (lb : Array Value) (encs : α → Array Value) (Kp : World → World → Prop) (S Sp : List α → Prop) (N : Nat) (w : World) : Prop :=
  ∀ (l : Nat) (J Jx : List α → World → Prop) (W : World), Below w.heap.size w W → OwnBk W.heap.size J → OwnBk W.heap.size Jx →
    (∀ pre x W1, J pre W1 → pre.length < N → Sp (pre ++ [x]) → YieldAt F (n - 1) P l (encs x) W1 fun e W' =>
      (e = .returned (.bool true) ∧ J (pre ++ [x]) W' ∧ Kp W1 W' ∧ KeepsBk W.heap.size W1 W') ∨ (e = .returned (.bool false) ∧ Jx (pre ++ [x]) W' ∧ KeepsBk W.heap.size W1 W')) →
    J [] W →
    CallsIn F n P g (#[.func (.yield l) #[] #[]] ++ lb) W fun e W' => (∃ v, e = .returned v) ∧ ((∃ xs, S xs ∧ J xs W') ∨ (∃ pre, Sp pre ∧ Jx pre W'))

theorem keeps_put {B l : Nat} {W : World} (o : Obj) (h : l < B) : KeepsBk B W (W.putObj l o) :=
  KeepsBk.of_grownBy (grownBy_putObj' W l o) (fun j e => by cases e; exact h)

theorem wpIn_rangeFunc_ownB {α : Type} {g : Operand} {ps : Array Tmp} {assign body : Code} {Q : Exit → Act → World → Prop} {a : Act} {w : World}
    (hro : F.round = none) (h1 : 1 ≤ n) {gf : Nat} {lb : Array Value} (hg : a.eval g = .func (.func gf) #[] lb) (hFg : F.fn gf) (eg : ∀ args w, (callFunc gf args).run P w = .ok (.enter gf args) w)
    {encs : α → Array Value} {Kp : World → World → Prop} {S Sp : List α → Prop} {N : Nat} {w0 : World} (hseq : SeqStopsB F (n - 1) P gf lb encs Kp S Sp N w0)
    (hKt : ∀ {A B C : World}, Kp A B → Kp B C → Kp A C) (hKb : ∀ (W : World) (l : Nat) (o o' : Obj), w.heap.size ≤ l → W.heap[l]? = some o → o.isCells = false → o.isWalk = false → Kp W (W.putObj l o')) (hb0 : Below w0.heap.size w0 w) (hps : ∀ x, (encs x).size = ps.size)
    (I : List α → World → Prop) (Ix : Code → List α → World → Prop) (hI : OwnBk w.heap.size I) (hIx : ∀ c, OwnBk w.heap.size (Ix c)) (h0 : I [] w) (a₁ : α → Act)
    (hassign : ∀ (l : Nat) (x : α) (W : World) (K : Act → World → Prop), K (a₁ x) W →
      assign.wpIn (F.inRound l) (n - 1 - 1) P (Exit.then K (fun _ _ _ => False)) { tmps := (ps.zip (encs x)).foldl (fun t (p, v) => t.setIfInBounds p v) a.tmps, defers := [] } W)
    (hbody : ∀ (l : Nat) (pre : List α) (x : α) (W : World), I pre W → pre.length < N → Sp (pre ++ [x]) → body.wpIn (F.inRound l) (n - 1 - 1) P (ownPostB w.heap.size Kp I Ix (pre ++ [x]) W) (a₁ x) W)
    (hdone : ∀ (D : Nat) (xs : List α) (W : World), w.heap.size ≤ D → S xs → I xs W → W.heap[D]? = some (.deferred (some [])) → Q .normal { a with defers := { target := .collected D, args := #[] } :: a.defers } W)
    (hstop : ∀ (D : Nat) (c : Code) (pre : List α) (W : World), w.heap.size ≤ D → Sp pre → Ix c pre W → W.heap[D]? = some (.deferred (some [])) → c.wpIn F n P Q { a with defers := { target := .collected D, args := #[] } :: a.defers } W) :
    (Code.rangeFunc g ps assign body).wpIn F n P Q a w := by
  refine wpIn_rangeFunc ?_
  intro fn hfn
  rw [hro]
  obtain ⟨rec, hrec⟩ : ∃ rec : LoopState → Option Code → Loop, rec = fun st pe => { state := st, pending := pe, fn, tmps := a.tmps, params := ps, assign, body, defers := w.heap.size } := ⟨_, rfl⟩
  obtain ⟨W1, hW1⟩ : ∃ W1, (w.alloc (.deferred (some []))).alloc (.loop (rec .ready none)) = W1 := ⟨_, rfl⟩
  have hsz1 : W1.heap.size = w.heap.size + 2 := by rw [← hW1]; simp
  have hL1 : W1.heap[w.heap.size + 1]? = some (.loop (rec .ready none)) := by
    rw [← hW1]; have := World.alloc_heap_new (w.alloc (.deferred (some []))) (.loop (rec .ready none)); rwa [World.size_alloc] at this
  have hK1 : W1.heap[w.heap.size]? = some (.deferred (some [])) := by
    rw [← hW1]; exact (Below.heap_alloc _ _ _ (by simp)).trans (World.alloc_heap_new w _)
  have hI1 : I [] W1 := by rw [← hW1]; exact hI.alloc _ (hI.alloc _ h0)
  have hb1 : Below w0.heap.size w0 W1 := by
    rw [← hW1]; exact hb0.trans ((((Below.refl _ w).alloc (Nat.le_refl _) _).alloc (by simp) _).mono hb0.size)
  refine ⟨w.heap.size + 1, [{ target := .collected w.heap.size, args := #[] }], W1, { target := .fn (.func gf) lb, args := #[.func (.yield (w.heap.size + 1)) #[] #[]] }, W1, gf,
    #[.func (.yield (w.heap.size + 1)) #[] #[]] ++ lb, W1, ?_, ?_, ?_, ?_, fun _ => h1, ?_⟩
  · rw [← hW1, hrec]; exact run_enterLoop_outer _ _ _ _ _
  · simp only [resolve, hg]
    simp [go_sem]
  · intro f' hf'; simp [Target.leads] at hf'; subst hf'; exact hFg
  · simp [invoke, go_sem, eg]
  · have hnw : ∀ {A : World} {row : Option Nat}, (∀ r, row = some r → W1.heap.size ≤ r ∧ ∃ o : Obj, A.heap[r]? = some o ∧ isBook o = true) → (∀ r, row = some r → w.heap.size ≤ r ∧ ∃ o : Obj, A.heap[r]? = some o ∧ isBook o = true) :=
      fun hr r e => ⟨by have := (hr r e).1; omega, (hr r e).2⟩
    have hkeep : ∀ {A B : World} {row : Option Nat} {k : Nat} {o : Obj}, A.grownBy B row → (∀ r, row = some r → W1.heap.size ≤ r ∧ ∃ o : Obj, A.heap[r]? = some o ∧ isBook o = true) → k < W1.heap.size → A.heap[k]? = some o → B.heap[k]? = some o :=
      fun {A B row k o} hg' hr hk h => (hg'.block k (Array.getElem?_eq_some_iff.1 h).1 (fun e => by have := (hr k e.symm).1; omega)).trans h
    refine (hseq (w.heap.size + 1)
      (fun pre W => I pre W ∧ W.heap[w.heap.size + 1]? = some (.loop (rec .ready none)) ∧ W.heap[w.heap.size]? = some (.deferred (some [])))
      (fun pre W => ∃ c, Ix c pre W ∧ W.heap[w.heap.size + 1]? = some (.loop (rec .done (some c))) ∧ W.heap[w.heap.size]? = some (.deferred (some [])))
      W1 hb1
      (fun s A B row hs hg' hr => ⟨hI s A B row hs.1 hg' (hnw hr), hkeep hg' hr (by omega) hs.2.1, hkeep hg' hr (by omega) hs.2.2⟩)
      (fun s A B row hs hg' hr => by
        obtain ⟨c, hc, hl, hk⟩ := hs
        exact ⟨c, hIx c s A B row hc hg' (hnw hr), hkeep hg' hr (by omega) hl, hkeep hg' hr (by omega) hk⟩)
      ?_ ⟨hI1, hL1, hK1⟩).mono ?_
    · rintro pre x W ⟨hi, hl, hk⟩ hlen hsp
      have hlt : w.heap.size + 1 < W.heap.size := (Array.getElem?_eq_some_iff.1 hl).1
      have hy := run_yield (P := P) (args := encs x) hl (by rw [hrec]; exact hps x)
      rw [hrec] at hy
      refine ⟨fn, _, assign, body, hy, roundIn_of_wpIn hfn (hassign _ x W _ ?_)⟩
      clear hy
      refine ⟨_, run_beginRound hl (by rw [hrec]), ?_⟩
      have hl2 : (W.putObj (w.heap.size + 1) (.loop { rec .ready none with state := .busy })).heap[w.heap.size + 1]? = some (.loop { rec .ready none with state := .busy }) := World.putObj_heap_same hlt
      have hk2 : (W.putObj (w.heap.size + 1) (.loop { rec .ready none with state := .busy })).heap[w.heap.size]? = some (.deferred (some [])) := (World.putObj_heap_other (by omega)).trans hk
      have hw2 : Kp W (W.putObj (w.heap.size + 1) (.loop { rec .ready none with state := .busy })) := hKb _ _ _ _ (by omega) hl rfl rfl
      have hf2 : KeepsBk W1.heap.size W (W.putObj (w.heap.size + 1) (.loop { rec .ready none with state := .busy })) := keeps_put _ (by omega)
      refine wpIn_mono (hbody _ pre x _ (hI.putObj _ hi (by omega) hl rfl) hlen hsp) ?_
      have fin : ∀ (jump : Option Code) (W3 : World), KeepsBk w.heap.size (W.putObj (w.heap.size + 1) (.loop { rec .ready none with state := .busy })) W3 →
          (Instr.endRound (w.heap.size + 1) jump).run P W3 = .ok (.bool jump.isNone) (W3.putObj (w.heap.size + 1) (.loop (rec (if jump.isNone then .ready else .done) jump))) ∧
          W3.heap[w.heap.size + 1]? = some (.loop { rec .ready none with state := .busy }) ∧
          (W3.putObj (w.heap.size + 1) (.loop (rec (if jump.isNone then .ready else .done) jump))).heap[w.heap.size + 1]? = some (.loop (rec (if jump.isNone then .ready else .done) jump)) ∧
          (W3.putObj (w.heap.size + 1) (.loop (rec (if jump.isNone then .ready else .done) jump))).heap[w.heap.size]? = some (.deferred (some [])) ∧
          KeepsBk W1.heap.size W (W3.putObj (w.heap.size + 1) (.loop (rec (if jump.isNone then .ready else .done) jump))) := fun jump W3 hk3 => by
        have hl3 := hk3.same _ _ (by omega) hl2 rfl
        have := run_endRound (P := P) jump hl3
        rw [hrec] at this ⊢
        refine ⟨this, by rw [hrec] at hl3; exact hl3, World.putObj_heap_same (Array.getElem?_eq_some_iff.1 hl3).1, (World.putObj_heap_other (by omega)).trans (hk3.same _ _ (Nat.le_refl _) hk2 rfl), ?_⟩
        refine hf2.trans (KeepsBk.trans ⟨hk3.size, fun k o hB hk ho => hk3.same k o (by omega) hk ho⟩ (keeps_put _ (by omega)))
      rintro e a3 W3 hp
      cases e with
      | normal =>
        obtain ⟨hk3, hkp3, hi3⟩ := hp
        obtain ⟨hr, hl3, hl4, hk4, hkf⟩ := fin none W3 hk3
        exact ⟨_, _, hr, .inl ⟨rfl, ⟨hI.putObj _ hi3 (by omega) hl3 rfl, hl4, hk4⟩, hKt (hKt hw2 hkp3) (hKb _ _ _ _ (by omega) hl3 rfl rfl), hkf⟩⟩
      | ret =>
        obtain ⟨hk3, hi3⟩ := hp
        obtain ⟨hr, hl3, hl4, hk4, hkf⟩ := fin (some .ret) W3 hk3
        exact ⟨_, _, hr, .inr ⟨rfl, ⟨.ret, (hIx _).putObj _ hi3 (by omega) hl3 rfl, hl4, hk4⟩, hkf⟩⟩
      | exit id =>
        obtain ⟨hk3, hi3⟩ := hp
        obtain ⟨hr, hl3, hl4, hk4, hkf⟩ := fin (some (.exit id)) W3 hk3
        exact ⟨_, _, hr, .inr ⟨rfl, ⟨.exit id, (hIx _).putObj _ hi3 (by omega) hl3 rfl, hl4, hk4⟩, hkf⟩⟩
      | goto t =>
        obtain ⟨hk3, hi3⟩ := hp
        obtain ⟨hr, hl3, hl4, hk4, hkf⟩ := fin (some (.goto t)) W3 hk3
        exact ⟨_, _, hr, .inr ⟨rfl, ⟨.goto t, (hIx _).putObj _ hi3 (by omega) hl3 rfl, hl4, hk4⟩, hkf⟩⟩
      | panic ch => exact hp.elim
      | outgrown => exact hp.elim
    · rintro e W2 ⟨⟨v, rfl⟩, (⟨xs, hS, hi, hl, hk⟩ | ⟨pre, hSp, c, hi, hl, hk⟩)⟩
      · exact ⟨none, _, by have := run_endLoop (P := P) hl (by rw [hrec]; simp); rw [hrec] at this; exact this, hdone _ xs _ (Nat.le_refl _) hS (hI.putObj _ hi (by omega) hl rfl) ((World.putObj_heap_other (by omega)).trans hk)⟩
      · exact ⟨some c, _, by have := run_endLoop (P := P) hl (by rw [hrec]; simp); rw [hrec] at this; exact this, hstop _ c pre _ (Nat.le_refl _) hSp ((hIx c).putObj _ hi (by omega) hl rfl) ((World.putObj_heap_other (by omega)).trans hk)⟩
end Go.Proofs.YtagjjpmhacknpaaDoor

/- The table's own iterator: the handles that are used, and their places. -/
set_option maxRecDepth 100000
namespace Go.Proofs.YtagjjpmhacknpaaDoor
open Go.RowKit Go.Shelf
attribute [local go_sem] Oper.semAt_some
namespace Ar
/-- The handles up to n that are used, and their places. -/
def tabl (S : St) (n : Nat) : List (Nat × Nat) := (List.range n).filterMap fun i => (PlaceOf S ((i + 1 : Nat) : Int)).map fun v => (i + 1, v)
theorem tabl_some {S : St} {n v : Nat} (h : PlaceOf S ((n + 1 : Nat) : Int) = some v) : tabl S (n + 1) = tabl S n ++ [(n + 1, v)] := by
  unfold tabl
  have h : PlaceOf S ((n : Int) + 1) = _ := h
  rw [List.range_succ, List.filterMap_append]
  simp [h]
theorem tabl_none {S : St} {n : Nat} (h : PlaceOf S ((n + 1 : Nat) : Int) = none) : tabl S (n + 1) = tabl S n := by
  unfold tabl
  have h : PlaceOf S ((n : Int) + 1) = _ := h
  rw [List.range_succ, List.filterMap_append]
  simp [h]
theorem tabl_pre (S : St) {n m : Nat} (h : n ≤ m) : tabl S n <+: tabl S m := by
  induction m with
  | zero => obtain rfl : n = 0 := by omega
            exact List.prefix_refl _
  | succ m ih =>
    by_cases e : n = m + 1
    · rw [e]
      exact List.prefix_refl _
    · refine (ih (by omega)).trans ?_
      cases hp : PlaceOf S ((m + 1 : Nat) : Int) with
      | none => rw [tabl_none hp]; exact List.prefix_refl _
      | some v => rw [tabl_some hp]; exact List.prefix_append _ _
theorem tabl_len (S : St) (n : Nat) : (tabl S n).length ≤ n := by
  unfold tabl
  exact Nat.le_trans (List.length_filterMap_le _ _) (by simp)
end Ar
theorem Blk.putD {W : World} {B D : Nat} {l : List Value} {t : TypeId} (h : Blk W B l t) {o : Obj} (hD : W.heap[D]? = some o) (ho : o.isCells = false) (o' : Obj) : Blk (W.putObj D o') B l t := by
  have hne : B ≠ D := fun e => by
    subst e
    rw [show W.heap[B]? = _ from h] at hD
    cases hD
    cases ho
  exact (World.putObj_heap_other hne).trans h
theorem ArE.putD {A : Nat} {L : Loc} {S : Ar.St} {f : Nat → Prop} {W : World} {D : Nat} (h : ArE A L S f W) {o : Obj} (hD : W.heap[D]? = some o) (ho : o.isCells = false) (o' : Obj) : ArE A L S f (W.putObj D o') :=
  ⟨h.box.putD hD ho o', h.mem.putD hD ho o', h.pl.putD hD ho o', h.us.putD hD ho o', h.nd.putD hD ho o', h.cap, h.cm, h.fA, h.fM, h.fP, h.fU, h.fN, fun k e => by have := h.fb k e; simpa [World.putObj] using this⟩
/-- What the iterators ask of a round: blocks from B on hold what they held, and the arena is as it was. -/
def KH (A : Nat) (L : Loc) (S : Ar.St) (B : Nat) (W W' : World) : Prop := (∀ k l t, B ≤ k → Blk W k l t → Blk W' k l t) ∧ ∀ f, ArE A L S f W → ArE A L S f W'
theorem kh_t {A : Nat} {L : Loc} {S : Ar.St} {B : Nat} {X Y Z : World} (h : KH A L S B X Y) (k : KH A L S B Y Z) : KH A L S B X Z := ⟨fun i l t hi b => k.1 i l t hi (h.1 i l t hi b), fun f a => k.2 f (h.2 f a)⟩
theorem kh_b {A : Nat} {L : Loc} {S : Ar.St} {B : Nat} {w : World} (W : World) (l : Nat) (o o' : Obj) (_ : w.heap.size ≤ l) (h : W.heap[l]? = some o) (hc : o.isCells = false) (_ : o.isWalk = false) : KH A L S B W (W.putObj l o') := ⟨fun _ _ _ _ b => b.putD h hc o', fun _ a => a.putD h hc o'⟩
theorem KH.below {A : Nat} {L : Loc} {S : Ar.St} {B : Nat} {W W' : World} (h : Below W.heap.size W W') : KH A L S B W W' := ⟨fun _ _ _ _ b => b.kept (h.block _ b.lt), fun _ a => a.below h⟩
theorem one_of {e : Ending} {A B : Prop} (h : (e = .returned (.bool true) ∧ A) ∨ (e = .returned (.bool false) ∧ B)) : ∃ b : Bool, e = .returned (.bool b) ∧ Hid ((b = true ∧ A) ∨ (b = false ∧ B)) :=
  h.elim (fun ⟨e, a⟩ => ⟨true, e, .inl ⟨rfl, a⟩⟩) (fun ⟨e, b⟩ => ⟨false, e, .inr ⟨rfl, b⟩⟩)
theorem roundIn_any {P : Program} {l1 k k' l f : Nat} {tmps : Array Value} {asg body : Code} {W : World} {R : Ending → World → Prop} (h : RoundIn Fence.wide k P l f tmps asg body W R) : RoundIn (Fence.wide.inRound l1) k' P l f tmps asg body W R :=
  ⟨h.1, fun c cs _ => h.2 c cs (room_wide _)⟩
def encHP (x : Nat × Nat) : Array Value := #[.int .i64 (x.1 : Int), .int .i64 (x.2 : Int)]
set_option maxHeartbeats 4000000 in
theorem all1_in (m l Bn A : Nat) (L : Loc) (S : Ar.St) (f : Nat → Prop) (hm : 1 ≤ m) (hs : Ar.Sane S) (J Jx : List (Nat × Nat) → World → Prop) (W : World) (hJ : OwnBk W.heap.size J)
    (hY : ∀ pre x W1, J pre W1 → pre.length < 1000000 → pre ++ [x] <+: Ar.tabl S S.pl.length → YieldAt Fence.wide (m - 1) Tryd.prog l (encHP x) W1 fun e W' =>
      (e = .returned (.bool true) ∧ J (pre ++ [x]) W' ∧ KH A L S Bn W1 W') ∨ (e = .returned (.bool false) ∧ Jx (pre ++ [x]) W'))
    (hB : Blk W Bn [.pointer (some ⟨A, 2, none⟩)] 80) (hA : ArE A L S f W) (h0 : J [] W) :
    CallsIn Fence.wide m Tryd.prog 61 #[.func (.yield l) #[] #[], .pointer (some ⟨Bn, 0, none⟩)] W fun e W' => (∃ v, e = .returned v) ∧
      ((∃ ys, ys = Ar.tabl S S.pl.length ∧ J ys W') ∨ (∃ pre, pre <+: Ar.tabl S S.pl.length ∧ Jx pre W')) := by
  have hJb : Hid (∀ (pre : List (Nat × Nat)) (W1 : World) (k : Nat), J pre W1 → J pre (W1.drewN k)) := Lib.hid (fun pre W1 k h => hJ _ _ _ none h (by
    have hb : Below W1.heap.size W1 (W1.drewN k) := ⟨rfl, rfl, rfl, Nat.le_refl _, fun _ _ => rfl⟩
    exact ⟨hb.os, hb.tape, hb.output, hb.size, fun k hk _ => hb.block k hk⟩) (fun r e => by cases e))
  have HY := Lib.hid hY
  have HA := Lib.hid hA
  have hpl := hs.pl
  have k0 := hB.cell (i := 0) rfl
  have k2 := hA.cells.2.2.1
  have HB := Lib.hid hB
  clear hY hA hB
  refine callsIn_of_wp Tryd.func61 rfl trivial ?_ rfl
  simp only [Tryd.ntmps61, List.size_toArray, List.length_cons, List.length_nil, Nat.reduceAdd, Nat.reduceSub, Array.replicate_succ, Array.replicate_zero, List.push_toArray, List.append_toArray, List.nil_append, List.cons_append]
  gi_wp2_with fail
  gi_loopw [11] (fun p wr => ∃ i : Nat, p = .int .i64 (i : Int) ∧ i ≤ S.pl.length ∧ Hid (J (Ar.tabl S i) wr) ∧ Hid (ArE A L S f wr) ∧ Hid (Blk wr Bn [.pointer (some ⟨A, 2, none⟩)] 80)) (fun p _ => S.pl.length + 1 - (intOf p).toNat)
  case atStart => exact ⟨0, rfl, Nat.zero_le _, Lib.hid h0, HA, HB⟩
  case round =>
    clear HA HB h0 k0 k2
    obtain ⟨i, rfl, hi, HJ, HA, HB⟩ := hrel
    by_cases hlt : i < S.pl.length
    · have k0 := HB.out.cell (i := 0) rfl
      have hpc := fun w' (hw : ArE A L S f w') => place_any A L S f ((i : Int) + 1) w' hw hs.pl hs.plus hs.us hs.place
      cases hq : Ar.PlaceOf S ((i : Int) + 1) with
      | none =>
        rw [hq] at hpc
        have HPL := Lib.hid hpc
        have HQ := Lib.hid (Ar.tabl_none (S := S) (n := i) hq)
        clear hpc hq
        gi_wp2_with (refine ⟨trivial, ?_⟩; gi_at_call 54; (refine (callsIn_wide.2 (HPL.out _ HA.out)).mono ?_); rintro e w' ⟨rfl, n, rfl⟩; unfold optV encI)
        refine ⟨(fun _ e => by cases e), ?_⟩
        gi_wp2_with fail
        go_roundw
        case rel => exact ⟨i + 1, by go_num, by omega, by rw [HQ.out]; exact Lib.hid (hJb.out _ _ _ HJ.out), Lib.hid (HA.out.drew _), Lib.hid (HB.out.drew _)⟩
        case measure => simp [intOf]; omega
      | some v =>
        rw [hq] at hpc
        have HPL := Lib.hid hpc
        have HQ := Lib.hid (Ar.tabl_some (S := S) (n := i) hq)
        have hyi := fun k => HY.out (Ar.tabl S i) (i + 1, v) (wr.drewN k) (hJb.out _ _ k HJ.out) (by have := Ar.tabl_len S i; omega) (by rw [← HQ.out]; exact Ar.tabl_pre S (by omega))
        have HYI := Lib.hid hyi
        clear hpc hq hyi
        gi_wp2_with (first
          | (refine ⟨trivial, ?_⟩; gi_at_call 54; (refine (callsIn_wide.2 (HPL.out _ HA.out)).mono ?_); rintro e w' ⟨rfl, n, rfl⟩; obtain ⟨fn, tmps, assign, body, hy, hR⟩ := HYI.out n; unfold optV encI; simp only [encHP, Int.natCast_add, Int.cast_ofNat_Int] at hy)
          | (refine hR.mono ?_; intro e W3 hor; obtain ⟨bb, rfl, hbb3⟩ := one_of hor))
        all_goals
          have hfin := hbb3.out
          clear hbb3 hor
        · rename_i hbt
          obtain rfl : bb = false := by cases bb <;> simp_all
          obtain ⟨_, hJx3⟩ := hfin.resolve_left (fun h => by cases h.1)
          refine bodyPost_ret (results_none rfl _ _ _) rfl ?_
          exact ⟨⟨_, rfl⟩, .inr ⟨_, by rw [← HQ.out]; exact Ar.tabl_pre S (by omega), hJx3⟩⟩
        · rename_i hbt
          obtain rfl : bb = true := by cases bb <;> simp_all
          obtain ⟨_, hJ3, hk3⟩ := hfin.resolve_right (fun h => by cases h.1)
          have HJ3 := Lib.hid hJ3
          go_roundw
          case rel => exact ⟨i + 1, by go_num, by omega, by rw [HQ.out]; exact HJ3, Lib.hid (hk3.2 _ (HA.out.drew _)), Lib.hid (hk3.1 _ _ _ (Nat.le_refl _) (HB.out.drew _))⟩
          case measure => simp [intOf]; omega
    · obtain rfl : i = S.pl.length := by omega
      have HJ4 := HJ.out
      gi_wp2_with fail
      go_end0
      exact ⟨⟨_, rfl⟩, .inl ⟨_, rfl, HJ4⟩⟩
theorem all_stops (m : Nat) (hm : 1 ≤ m) (Bn A : Nat) (L : Loc) (S : Ar.St) (f : Nat → Prop) (hs : Ar.Sane S) (w : World) (hB : Blk w Bn [.pointer (some ⟨A, 2, none⟩)] 80) (hA : ArE A L S f w) :
    SeqStopsB Fence.wide m Tryd.prog 61 #[.pointer (some ⟨Bn, 0, none⟩)] encHP (KH A L S Bn) (fun ys => ys = Ar.tabl S S.pl.length) (fun pre => pre <+: Ar.tabl S S.pl.length) 1000000 w :=
  fun l J Jx W hW hJ _ hY h0 => all1_in m l Bn A L S f hm hs J Jx W hJ (fun pre x W1 h1 hl hp => by
    obtain ⟨fn, tmps, assign, body, hy, hR⟩ := hY pre x W1 h1 hl hp
    exact ⟨fn, tmps, assign, body, hy, hR.mono fun e W' h => h.imp (fun h => ⟨h.1, h.2.1, h.2.2.1⟩) (fun h => ⟨h.1, h.2.1⟩)⟩) (hB.kept (hW.block _ hB.lt)) (hA.below hW) h0
set_option maxHeartbeats 1000000 in
theorem all_any (A : Nat) (w : World) :
    Calls Tryd.prog 56 #[.pointer (some ⟨A, 2, none⟩)] w fun e w' => e = .returned (.func (.func 61) #[] #[.pointer (some ⟨w.heap.size, 0, none⟩)]) ∧ w' = w.alloc (.cells #[.pointer (some ⟨A, 2, none⟩)] 80) := by
  go_enter Tryd.func56, Tryd.ntmps56
  go_wp2
  go_ret
  exact ⟨rfl, rfl⟩
end Go.Proofs.YtagjjpmhacknpaaDoor

/- What Handles tells of an arena: its blocks in the order of their handles. -/
set_option maxRecDepth 100000
namespace Go.Proofs.YtagjjpmhacknpaaDoor
namespace Ar
theorem tabl_mem {S : St} {n : Nat} {x : Nat × Nat} : x ∈ tabl S n ↔ ∃ i, i < n ∧ x.1 = i + 1 ∧ PlaceOf S ((i + 1 : Nat) : Int) = some x.2 := by
  unfold tabl
  rw [List.mem_filterMap]
  constructor
  · rintro ⟨i, hi, h⟩
    obtain ⟨v, hv, rfl⟩ := Option.map_eq_some_iff.1 h
    exact ⟨i, List.mem_range.1 hi, rfl, hv⟩
  · rintro ⟨i, hi, h1, h2⟩
    exact ⟨i, List.mem_range.2 hi, Option.map_eq_some_iff.2 ⟨x.2, h2, by rw [← h1]⟩⟩
theorem tabl_lt (S : St) : ∀ n, (tabl S n).Pairwise (fun x y => x.1 < y.1)
  | 0 => by simp [tabl]
  | n + 1 => by
    cases h : PlaceOf S ((n + 1 : Nat) : Int) with
    | none => rw [tabl_none h]; exact tabl_lt S n
    | some v =>
      rw [tabl_some h, List.pairwise_append]
      refine ⟨tabl_lt S n, List.pairwise_singleton _ _, fun x hx y hy => ?_⟩
      obtain ⟨i, hi, e, _⟩ := tabl_mem.1 hx
      rw [List.mem_singleton] at hy
      subst hy
      show x.1 < n + 1
      omega
theorem told_lt (S : St) (g : Nat × Nat → Nat × Nat) (hg : ∀ x, (g x).1 = x.1) (n : Nat) : ((tabl S n).map g).Pairwise (fun x y => x.1 < y.1) := by
  rw [List.pairwise_map]
  exact (tabl_lt S n).imp fun h => by rw [hg, hg]; exact h
/-- The places that are told are those of blocks. -/
theorem Inv.tabl {S : St} {pcs : List Pc} (I : Inv S pcs) {x : Nat × Nat} : x ∈ tabl S S.pl.length ↔ ∃ p, At pcs x.2 p ∧ p.free = false ∧ p.owner = x.1 := by
  rw [tabl_mem]
  constructor
  · rintro ⟨i, hi, h1, h2⟩
    rw [h1]
    exact (I.hn _ _).1 h2
  · rintro ⟨p, h1, h2, h3⟩
    have h := (I.hn x.1 x.2).2 ⟨p, h1, h2, h3⟩
    obtain ⟨k, e, hk, _, _⟩ := placeOf_some h
    exact ⟨k, hk, by omega, by rw [show ((k + 1 : Nat) : Int) = (x.1 : Int) by omega]; exact h⟩
/-- The head of a piece. -/
theorem Inv.head {S : St} {pcs : List Pc} (I : Inv S pcs) {v : Nat} {p : Pc} (h : At pcs v p) : (∃ a, headAt S.mem v = p.hd a) ∧ v + p.takes ≤ S.mem.length := by
  obtain ⟨rest, hm, hr⟩ := I.mem
  have hlen := I.len
  have hlim := I.lim
  have hok := I.ok p (at_mem h)
  obtain ⟨us, bs, rfl, rfl⟩ := at_split h
  rw [total_app] at hlen
  simp only [total] at hlen
  refine ⟨⟨lastT 0 us, ?_⟩, by omega⟩
  have e : S.mem = lay 0 us ++ (byte8 (p.hd (lastT 0 us)).word ++ p.data) ++ (lay p.takes bs ++ rest) := by
    rw [hm, lay_app]; simp only [lay]; unfold Pc.bytes; simp only [List.append_assoc]
  rw [e, ← lay_len 0 us]
  exact headAt_app _ _ _ _ (hd_fits (m := 0) hok (by omega) (lastT_le (by omega) (by omega)) rfl)
theorem Inv.told_place {S : St} {pcs : List Pc} (I : Inv S pcs) : ∀ x ∈ Ar.tabl S S.pl.length, x.2 + 8 ≤ S.mem.length := fun x hx => by
  obtain ⟨p, h1, _, _⟩ := I.tabl.1 hx
  have := (I.head h1).2
  have := (I.ok p (at_mem h1)).ge
  omega
/-- What Handles tells are the blocks. -/
theorem Inv.told {S : St} {pcs : List Pc} (I : Inv S pcs) {h n : Nat} : (h, n) ∈ (Ar.tabl S S.pl.length).map (fun x => (x.1, (headAt S.mem x.2).size)) ↔ ∃ q ∈ blocks pcs, q.owner = h ∧ q.size = n := by
  rw [List.mem_map]
  constructor
  · rintro ⟨x, hx, e⟩
    obtain ⟨p, h1, h2, h3⟩ := I.tabl.1 hx
    obtain ⟨⟨a, ha⟩, _⟩ := I.head h1
    simp only [Prod.mk.injEq] at e
    rw [ha] at e
    exact ⟨p, mem_blocks.2 ⟨at_mem h1, h2⟩, by omega, e.2⟩
  · rintro ⟨q, hq, h1, h2⟩
    obtain ⟨q1, q2⟩ := mem_blocks.1 hq
    obtain ⟨v, hv⟩ := at_of_mem q1
    obtain ⟨⟨a, ha⟩, _⟩ := I.head hv
    exact ⟨(h, v), I.tabl.2 ⟨q, hv, q2, h1⟩, by simp only; rw [ha]; show (h, q.size) = (h, n); rw [h2]⟩
end Ar
end Go.Proofs.YtagjjpmhacknpaaDoor
