/- 9 texts put together: SeqB, Pl, Rk12, Rl, Ro, Rs, Rz, Frame9, Frame12. -/
import Derived.RangeFuncNested
import Derived.RangeFuncBound
import Derived.RangeFuncLeaves
import Derived.RangeFuncFrom
import Derived.RangeFuncWrites
import Derived.LoopTactic
import Derived.BigQuiet
import Derived.Test.YtmgnjkjldmjpfaaRows
import GoSem.ClaimSevenParts
import Derived.Deep.DeepHandedRow
import Derived.Deep.DeepWitnessRowRef
import Derived.Stop.LaidErr
import Derived.Carry
import Derived.ProofKit
import Derived.OpenShut
import Derived.SliceStrings
import Derived.ChangeSlices
import Derived.LaidLaws
import Derived.Lib.LaidTab
import Derived.Deep.Slices
import Derived.Deep.Fields
import Derived.Test.YtmgnjkjldmjpfaaJB1
import Derived.Test.YtmgnjkjldmjpfaaJB2
/- A range over a function whose body may make a map and write it: the caller's invariant abides the turn of book-keeping alone (a loop's record, a block for deferred calls), and the body keeps no more than that. -/
namespace Go.Proofs.Ytmgnjkjldmjpfaa
open Go Go.RowKit
variable {F : Fence} {n : Nat} {P : Program}

theorem bookC {A : World} {r : Nat} (h : ∃ o : Obj, A.heap[r]? = some o ∧ isBook o = true) : ∃ o : Obj, A.heap[r]? = some o ∧ o.isCells = false := by
  obtain ⟨o, ho, hk⟩ := h
  exact ⟨o, ho, book_cells hk⟩
/-- The invariant abides the turn of book-keeping from B on. -/
def OwnBk {β : Type} (B : Nat) (I : β → World → Prop) : Prop :=
  ∀ s W W' row, I s W → W.grownBy W' row → (∀ r, row = some r → B ≤ r ∧ ∃ o : Obj, W.heap[r]? = some o ∧ isBook o = true) → I s W'
theorem ownFrom_book {β : Type} {B : Nat} {I : β → World → Prop} (h : OwnFrom B I) : OwnBk B I := fun s W W' row hs hg hr => h s W W' row hs hg (fun r e => ⟨(hr r e).1, by obtain ⟨o, ho, hk⟩ := (hr r e).2; exact ⟨o, ho, book_cells hk⟩⟩)
theorem OwnBk.putObj {β : Type} {B : Nat} {I : β → World → Prop} (h : OwnBk B I) {s : β} {W : World} {l : Nat} {o : Obj} (o' : Obj) (hs : I s W) (hB : B ≤ l) (hl : W.heap[l]? = some o) (ho : isBook o = true) : I s (W.putObj l o') :=
  h s W _ (some l) hs (grownBy_putObj' W l o') (fun r e => by cases e; exact ⟨hB, o, hl, ho⟩)
theorem OwnBk.alloc {β : Type} {B : Nat} {I : β → World → Prop} (h : OwnBk B I) {s : β} {W : World} (o : Obj) (hs : I s W) : I s (W.alloc o) :=
  h s W _ none hs (World.grownBy_alloc W o none) (fun r e => by cases e)
theorem OwnBk.and {β : Type} {B : Nat} {I I' : β → World → Prop} (h : OwnBk B I) (h' : OwnBk B I') : OwnBk B (fun s W => I s W ∧ I' s W) := fun s W W' row hs hg hr => ⟨h s W W' row hs.1 hg hr, h' s W W' row hs.2 hg hr⟩
theorem ownBk_pure {β : Type} (B : Nat) (p : β → Prop) : OwnBk B (fun s (_ : World) => p s) := fun _ _ _ _ hs _ _ => hs
/-- Book-keeping from B on lies as it lay. -/
structure KeepsBk (B : Nat) (W W' : World) : Prop where
  size : W.heap.size ≤ W'.heap.size
  same : ∀ (k : Nat) (o : Obj), B ≤ k → W.heap[k]? = some o → isBook o = true → W'.heap[k]? = some o
theorem keepsFrom_book {B : Nat} {W W' : World} (h : KeepsFrom B W W') : KeepsBk B W W' := ⟨h.size, fun k o hB hk ho => h.same k o hB hk (book_cells ho)⟩
theorem KeepsBk.refl (B : Nat) (W : World) : KeepsBk B W W := keepsFrom_book (KeepsFrom.refl B W)
theorem KeepsBk.trans {B : Nat} {X Y Z : World} (h : KeepsBk B X Y) (k : KeepsBk B Y Z) : KeepsBk B X Z := ⟨Nat.le_trans h.size k.size, fun i o hB hi ho => k.same i o hB (h.same i o hB hi ho) ho⟩
theorem KeepsBk.of_grownBy {B : Nat} {W W' : World} {row : Option Nat} (hg : W.grownBy W' row) (hrow : ∀ j, row = some j → j < B) : KeepsBk B W W' := keepsFrom_book (KeepsFrom.of_grownBy hg hrow)
def ownPostB {α : Type} (B : Nat) (Kp : World → World → Prop) (I : List α → World → Prop) (Ix : Code → List α → World → Prop) (xs : List α) (W : World) : Exit → Act → World → Prop
  | .normal, _, W' => KeepsBk B W W' ∧ Kp W W' ∧ I xs W'
  | .ret, _, W' => KeepsBk B W W' ∧ Ix .ret xs W'
  | .exit id, _, W' => KeepsBk B W W' ∧ Ix (.exit id) xs W'
  | .goto t, _, W' => KeepsBk B W W' ∧ Ix (.goto t) xs W'
  | .panic _, _, _ => False
  | .outgrown, _, _ => False

/-- The contract of an iterator that loops over another. -/
def SeqStopsB {α : Type} (F : Fence) (n : Nat) (P : Program) (g : Nat) (lb : Array Value) (encs : α → Array Value) (Kp : World → World → Prop) (S Sp : List α → Prop) (N : Nat) (w : World) : Prop :=
  ∀ (l : Nat) (J Jx : List α → World → Prop) (W : World), Below w.heap.size w W → OwnBk W.heap.size J → OwnBk W.heap.size Jx →
    (∀ pre x W1, J pre W1 → pre.length < N → Sp (pre ++ [x]) → YieldAt F (n - 1) P l (encs x) W1 fun e W' =>
      (e = .returned (.bool true) ∧ J (pre ++ [x]) W' ∧ Kp W1 W' ∧ KeepsBk W.heap.size W1 W') ∨ (e = .returned (.bool false) ∧ Jx (pre ++ [x]) W' ∧ KeepsBk W.heap.size W1 W')) →
    J [] W →
    CallsIn F n P g (#[.func (.yield l) #[] #[]] ++ lb) W fun e W' => (∃ v, e = .returned v) ∧ ((∃ xs, S xs ∧ J xs W') ∨ (∃ pre, Sp pre ∧ Jx pre W'))

theorem keeps_put {B l : Nat} {W : World} (o : Obj) (h : l < B) : KeepsBk B W (W.putObj l o) :=
  KeepsBk.of_grownBy (grownBy_putObj' W l o) (fun j e => by cases e; exact h)

theorem wpIn_rangeFunc_ownB {α : Type} {g : Operand} {ps : Array Tmp} {assign body : Code} {Q : Exit → Act → World → Prop} {a : Act} {w : World}
    (hro : F.round = none) (h1 : 1 ≤ n) {gf : Nat} {lb : Array Value} (hg : a.eval g = .func (.func gf) #[] lb) (hFg : F.fn gf) (eg : ∀ args w, (callFunc gf args).run P w = .ok (.enter gf args) w)
    {encs : α → Array Value} {Kp : World → World → Prop} {S Sp : List α → Prop} {N : Nat} {w0 : World} (hseq : SeqStopsB F (n - 1) P gf lb encs Kp S Sp N w0)
    (hKt : ∀ {A B C : World}, Kp A B → Kp B C → Kp A C) (hKb : ∀ (W : World) (l : Nat) (o o' : Obj), w.heap.size ≤ l → W.heap[l]? = some o → o.isCells = false → o.isWalk = false → Kp W (W.putObj l o')) (hb0 : Below w0.heap.size w0 w) (hps : ∀ x, (encs x).size = ps.size)
    (I : List α → World → Prop) (Ix : Code → List α → World → Prop) (hI : OwnBk w.heap.size I) (hIx : ∀ c, OwnBk w.heap.size (Ix c)) (h0 : I [] w) (a₁ : α → Act)
    (hassign : ∀ (l : Nat) (x : α) (W : World) (K : Act → World → Prop), K (a₁ x) W →
      assign.wpIn (F.inRound l) (n - 1 - 1) P (Exit.then K (fun _ _ _ => False)) { tmps := (ps.zip (encs x)).foldl (fun t (p, v) => t.setIfInBounds p v) a.tmps, defers := [] } W)
    (hbody : ∀ (l : Nat) (pre : List α) (x : α) (W : World), I pre W → pre.length < N → Sp (pre ++ [x]) → body.wpIn (F.inRound l) (n - 1 - 1) P (ownPostB w.heap.size Kp I Ix (pre ++ [x]) W) (a₁ x) W)
    (hdone : ∀ (D : Nat) (xs : List α) (W : World), w.heap.size ≤ D → S xs → I xs W → W.heap[D]? = some (.deferred (some [])) → Q .normal { a with defers := { target := .collected D, args := #[] } :: a.defers } W)
    (hstop : ∀ (D : Nat) (c : Code) (pre : List α) (W : World), w.heap.size ≤ D → Sp pre → Ix c pre W → W.heap[D]? = some (.deferred (some [])) → c.wpIn F n P Q { a with defers := { target := .collected D, args := #[] } :: a.defers } W) :
    (Code.rangeFunc g ps assign body).wpIn F n P Q a w := by
  refine wpIn_rangeFunc ?_
  intro fn hfn
  rw [hro]
  obtain ⟨rec, hrec⟩ : ∃ rec : LoopState → Option Code → Loop, rec = fun st pe => { state := st, pending := pe, fn, tmps := a.tmps, params := ps, assign, body, defers := w.heap.size } := ⟨_, rfl⟩
  obtain ⟨W1, hW1⟩ : ∃ W1, (w.alloc (.deferred (some []))).alloc (.loop (rec .ready none)) = W1 := ⟨_, rfl⟩
  have hsz1 : W1.heap.size = w.heap.size + 2 := by rw [← hW1]; simp
  have hL1 : W1.heap[w.heap.size + 1]? = some (.loop (rec .ready none)) := by
    rw [← hW1]; have := World.alloc_heap_new (w.alloc (.deferred (some []))) (.loop (rec .ready none)); rwa [World.size_alloc] at this
  have hK1 : W1.heap[w.heap.size]? = some (.deferred (some [])) := by
    rw [← hW1]; exact (Below.heap_alloc _ _ _ (by simp)).trans (World.alloc_heap_new w _)
  have hI1 : I [] W1 := by rw [← hW1]; exact hI.alloc _ (hI.alloc _ h0)
  have hb1 : Below w0.heap.size w0 W1 := by
    rw [← hW1]; exact hb0.trans ((((Below.refl _ w).alloc (Nat.le_refl _) _).alloc (by simp) _).mono hb0.size)
  refine ⟨w.heap.size + 1, [{ target := .collected w.heap.size, args := #[] }], W1, { target := .fn (.func gf) lb, args := #[.func (.yield (w.heap.size + 1)) #[] #[]] }, W1, gf,
    #[.func (.yield (w.heap.size + 1)) #[] #[]] ++ lb, W1, ?_, ?_, ?_, ?_, fun _ => h1, ?_⟩
  · rw [← hW1, hrec]; exact run_enterLoop_outer _ _ _ _ _
  · simp only [resolve, hg]
    simp [go_sem]
  · intro f' hf'; simp [Target.leads] at hf'; subst hf'; exact hFg
  · simp [invoke, go_sem, eg]
  · have hnw : ∀ {A : World} {row : Option Nat}, (∀ r, row = some r → W1.heap.size ≤ r ∧ ∃ o : Obj, A.heap[r]? = some o ∧ isBook o = true) → (∀ r, row = some r → w.heap.size ≤ r ∧ ∃ o : Obj, A.heap[r]? = some o ∧ isBook o = true) :=
      fun hr r e => ⟨by have := (hr r e).1; omega, (hr r e).2⟩
    have hkeep : ∀ {A B : World} {row : Option Nat} {k : Nat} {o : Obj}, A.grownBy B row → (∀ r, row = some r → W1.heap.size ≤ r ∧ ∃ o : Obj, A.heap[r]? = some o ∧ isBook o = true) → k < W1.heap.size → A.heap[k]? = some o → B.heap[k]? = some o :=
      fun {A B row k o} hg' hr hk h => (hg'.block k (Array.getElem?_eq_some_iff.1 h).1 (fun e => by have := (hr k e.symm).1; omega)).trans h
    refine (hseq (w.heap.size + 1)
      (fun pre W => I pre W ∧ W.heap[w.heap.size + 1]? = some (.loop (rec .ready none)) ∧ W.heap[w.heap.size]? = some (.deferred (some [])))
      (fun pre W => ∃ c, Ix c pre W ∧ W.heap[w.heap.size + 1]? = some (.loop (rec .done (some c))) ∧ W.heap[w.heap.size]? = some (.deferred (some [])))
      W1 hb1
      (fun s A B row hs hg' hr => ⟨hI s A B row hs.1 hg' (hnw hr), hkeep hg' hr (by omega) hs.2.1, hkeep hg' hr (by omega) hs.2.2⟩)
      (fun s A B row hs hg' hr => by
        obtain ⟨c, hc, hl, hk⟩ := hs
        exact ⟨c, hIx c s A B row hc hg' (hnw hr), hkeep hg' hr (by omega) hl, hkeep hg' hr (by omega) hk⟩)
      ?_ ⟨hI1, hL1, hK1⟩).mono ?_
    · rintro pre x W ⟨hi, hl, hk⟩ hlen hsp
      have hlt : w.heap.size + 1 < W.heap.size := (Array.getElem?_eq_some_iff.1 hl).1
      have hy := run_yield (P := P) (args := encs x) hl (by rw [hrec]; exact hps x)
      rw [hrec] at hy
      refine ⟨fn, _, assign, body, hy, roundIn_of_wpIn hfn (hassign _ x W _ ?_)⟩
      clear hy
      refine ⟨_, run_beginRound hl (by rw [hrec]), ?_⟩
      have hl2 : (W.putObj (w.heap.size + 1) (.loop { rec .ready none with state := .busy })).heap[w.heap.size + 1]? = some (.loop { rec .ready none with state := .busy }) := World.putObj_heap_same hlt
      have hk2 : (W.putObj (w.heap.size + 1) (.loop { rec .ready none with state := .busy })).heap[w.heap.size]? = some (.deferred (some [])) := (World.putObj_heap_other (by omega)).trans hk
      have hw2 : Kp W (W.putObj (w.heap.size + 1) (.loop { rec .ready none with state := .busy })) := hKb _ _ _ _ (by omega) hl rfl rfl
      have hf2 : KeepsBk W1.heap.size W (W.putObj (w.heap.size + 1) (.loop { rec .ready none with state := .busy })) := keeps_put _ (by omega)
      refine wpIn_mono (hbody _ pre x _ (hI.putObj _ hi (by omega) hl rfl) hlen hsp) ?_
      have fin : ∀ (jump : Option Code) (W3 : World), KeepsBk w.heap.size (W.putObj (w.heap.size + 1) (.loop { rec .ready none with state := .busy })) W3 →
          (Instr.endRound (w.heap.size + 1) jump).run P W3 = .ok (.bool jump.isNone) (W3.putObj (w.heap.size + 1) (.loop (rec (if jump.isNone then .ready else .done) jump))) ∧
          W3.heap[w.heap.size + 1]? = some (.loop { rec .ready none with state := .busy }) ∧
          (W3.putObj (w.heap.size + 1) (.loop (rec (if jump.isNone then .ready else .done) jump))).heap[w.heap.size + 1]? = some (.loop (rec (if jump.isNone then .ready else .done) jump)) ∧
          (W3.putObj (w.heap.size + 1) (.loop (rec (if jump.isNone then .ready else .done) jump))).heap[w.heap.size]? = some (.deferred (some [])) ∧
          KeepsBk W1.heap.size W (W3.putObj (w.heap.size + 1) (.loop (rec (if jump.isNone then .ready else .done) jump))) := fun jump W3 hk3 => by
        have hl3 := hk3.same _ _ (by omega) hl2 rfl
        have := run_endRound (P := P) jump hl3
        rw [hrec] at this ⊢
        refine ⟨this, by rw [hrec] at hl3; exact hl3, World.putObj_heap_same (Array.getElem?_eq_some_iff.1 hl3).1, (World.putObj_heap_other (by omega)).trans (hk3.same _ _ (Nat.le_refl _) hk2 rfl), ?_⟩
        refine hf2.trans (KeepsBk.trans ⟨hk3.size, fun k o hB hk ho => hk3.same k o (by omega) hk ho⟩ (keeps_put _ (by omega)))
      rintro e a3 W3 hp
      cases e with
      | normal =>
        obtain ⟨hk3, hkp3, hi3⟩ := hp
        obtain ⟨hr, hl3, hl4, hk4, hkf⟩ := fin none W3 hk3
        exact ⟨_, _, hr, .inl ⟨rfl, ⟨hI.putObj _ hi3 (by omega) hl3 rfl, hl4, hk4⟩, hKt (hKt hw2 hkp3) (hKb _ _ _ _ (by omega) hl3 rfl rfl), hkf⟩⟩
      | ret =>
        obtain ⟨hk3, hi3⟩ := hp
        obtain ⟨hr, hl3, hl4, hk4, hkf⟩ := fin (some .ret) W3 hk3
        exact ⟨_, _, hr, .inr ⟨rfl, ⟨.ret, (hIx _).putObj _ hi3 (by omega) hl3 rfl, hl4, hk4⟩, hkf⟩⟩
      | exit id =>
        obtain ⟨hk3, hi3⟩ := hp
        obtain ⟨hr, hl3, hl4, hk4, hkf⟩ := fin (some (.exit id)) W3 hk3
        exact ⟨_, _, hr, .inr ⟨rfl, ⟨.exit id, (hIx _).putObj _ hi3 (by omega) hl3 rfl, hl4, hk4⟩, hkf⟩⟩
      | goto t =>
        obtain ⟨hk3, hi3⟩ := hp
        obtain ⟨hr, hl3, hl4, hk4, hkf⟩ := fin (some (.goto t)) W3 hk3
        exact ⟨_, _, hr, .inr ⟨rfl, ⟨.goto t, (hIx _).putObj _ hi3 (by omega) hl3 rfl, hl4, hk4⟩, hkf⟩⟩
      | panic ch => exact hp.elim
      | outgrown => exact hp.elim
    · rintro e W2 ⟨⟨v, rfl⟩, (⟨xs, hS, hi, hl, hk⟩ | ⟨pre, hSp, c, hi, hl, hk⟩)⟩
      · exact ⟨none, _, by have := run_endLoop (P := P) hl (by rw [hrec]; simp); rw [hrec] at this; exact this, hdone _ xs _ (Nat.le_refl _) hS (hI.putObj _ hi (by omega) hl rfl) ((World.putObj_heap_other (by omega)).trans hk)⟩
      · exact ⟨some c, _, by have := run_endLoop (P := P) hl (by rw [hrec]; simp); rw [hrec] at this; exact this, hstop _ c pre _ (Nat.le_refl _) hSp ((hIx c).putObj _ hi (by omega) hl rfl) ((World.putObj_heap_other (by omega)).trans hk)⟩
end Go.Proofs.Ytmgnjkjldmjpfaa

/- The document's own lists: where a number is. -/
set_option maxRecDepth 100000
namespace Go.Proofs.Ytmgnjkjldmjpfaa
open Go Go.RowKit Go.Shelf
def encZ (x : Int) : List Value := [.int .i64 x]
theorem encZ_len (x : Int) : (encZ x).length = 1 := rfl
theorem encZ_one (x : Int) : ∀ u ∈ encZ x, u.oneCell' = true := by intro u hu; simp [encZ] at hu; subst hu; rfl
/-- Where one is; -1: nowhere. -/
def plc (k : Int) : List Int → Nat → Int
  | [], _ => -1
  | x :: l, i => if x = k then (i : Int) else plc k l (i + 1)
theorem plc_drop {l : List Int} {k : Int} {i : Nat} (h : i < l.length) : plc k (l.drop i) i = if l[i] = k then (i : Int) else plc k (l.drop (i + 1)) (i + 1) := by
  rw [List.drop_eq_getElem_cons h]; rfl
theorem plc_end {l : List Int} {k : Int} {i : Nat} (h : l.length ≤ i) : plc k (l.drop i) i = -1 := by
  rw [List.drop_eq_nil_of_le h]; rfl
theorem rk_cell {x : Nat → Prop} {ao : Option Addr} {n cap : Nat} {l : List Int} {W : World} (h : RK encZ x (.slice ao n cap) l W) {i : Nat} (hi : i < l.length) : ∃ b off, ao = some ⟨b, off, none⟩ ∧ W.cell? ⟨b, off + i, none⟩ = some (.int .i64 l[i]) := by
  obtain ⟨b, off, e, _, c⟩ := RK.at_ encZ_len h hi (f := 0) (by omega)
  exact ⟨b, off, e, by rw [Nat.mul_one, Nat.add_zero] at c; rw [c]; rfl⟩
end Go.Proofs.Ytmgnjkjldmjpfaa

/- Package rank, the document's own, and the laws of chapter 12. -/
set_option maxRecDepth 100000
namespace Go.Proofs.Ytmgnjkjldmjpfaa
open Go Go.RowKit Go.Shelf
namespace Rn
def rank (s : Int) (o : Bool) : Int := if s = 0 then (if o then 4 else 2) else if s = 1 then (if o then 3 else 1) else 0
def serves (r : Int) : Bool := decide (2 ≤ r ∧ r ≤ 4)
theorem rank_B (s : Int) (o : Bool) : 0 ≤ rank s o ∧ rank s o ≤ 4 := by unfold rank; cases o <;> (split <;> (try split) <;> simp)
end Rn
section
variable {w : World}
set_option maxHeartbeats 1000000 in
theorem either_any (o : Bool) (a b : Int) (w : World) : Calls Try.prog 12 #[.bool o, .int .i64 a, .int .i64 b] w fun e w' => e = .returned (.int .i64 (if o then a else b)) ∧ w = w' := by
  cases o <;> (
    go_enter Try.func12, Try.ntmps12
    go_wp2
    go_ret
    exact ⟨rfl, rfl⟩)
set_option maxHeartbeats 1000000 in
theorem of_any (s : Int) (o : Bool) (w : World) : Calls Try.prog 6 #[.int .i64 s, .bool o] w fun e w' => e = .returned (.int .i64 (Rn.rank s o)) ∧ w = w' := by
  by_cases h0 : s = 0
  · subst h0
    go_enter Try.func6, Try.ntmps6
    go_wp2_with (go_at_call 12; refine (either_any _ _ _ _).mono ?_; rintro e w1 ⟨rfl, rfl⟩)
    all_goals (
      go_ret
      exact ⟨ret_int (by simp_all [Rn.rank]), rfl⟩)
  · by_cases h1 : s = 1
    · subst h1
      go_enter Try.func6, Try.ntmps6
      go_wp2_with (go_at_call 12; refine (either_any _ _ _ _).mono ?_; rintro e w1 ⟨rfl, rfl⟩)
      all_goals (
        go_ret
        exact ⟨ret_int (by simp_all [Rn.rank]), rfl⟩)
    · have d0 : decide (s = 0) = false := by simp [h0]
      have d1 : decide (s = 1) = false := by simp [h1]
      go_enter Try.func6, Try.ntmps6
      go_wp2
      go_ret
      exact ⟨ret_int (by simp [Rn.rank, h0, h1]), rfl⟩
set_option maxHeartbeats 1000000 in
theorem rrank_any (s : Int) (o : Bool) (w : World) : Calls Try.prog 7 #[.int .i64 s, .bool o] w fun e w' => e = .returned (.int .i64 (Rn.rank s o)) ∧ w = w' := by
  by_cases h0 : s = 0
  · subst h0
    cases o <;> (
      go_enter Try.func7, Try.ntmps7
      go_wp2
      go_ret
      exact ⟨rfl, rfl⟩)
  · by_cases h1 : s = 1
    · subst h1
      cases o <;> (
        go_enter Try.func7, Try.ntmps7
        go_wp2
        go_ret
        exact ⟨rfl, rfl⟩)
    · have d0 : decide (s = 0) = false := by simp [h0]
      have d1 : decide (s = 1) = false := by simp [h1]
      go_enter Try.func7, Try.ntmps7
      go_wp2
      go_ret
      exact ⟨ret_int (by simp [Rn.rank, h0, h1]), rfl⟩
set_option maxHeartbeats 1000000 in
theorem better_any (a b : Int) (w : World) : Calls Try.prog 8 #[.int .i64 a, .int .i64 b] w fun e w' => e = .returned (.bool (decide (b ≤ a))) ∧ w = w' := by
  go_enter Try.func8, Try.ntmps8
  go_wp2
  all_goals (
    go_ret
    exact ⟨rfl, rfl⟩)
set_option maxHeartbeats 1000000 in
theorem serves_any (r : Int) (w : World) : Calls Try.prog 9 #[.int .i64 r] w fun e w' => e = .returned (.bool (Rn.serves r)) ∧ w = w' := by
  go_enter Try.func9, Try.ntmps9
  go_wp2
  all_goals (
    go_ret
    refine ⟨ret_bool ?_, rfl⟩
    unfold Rn.serves
    simp_all <;> omega)
set_option maxHeartbeats 1000000 in
theorem rserves_any (r : Int) (w : World) : Calls Try.prog 10 #[.int .i64 r] w fun e w' => e = .returned (.bool (Rn.serves r)) ∧ w = w' := by
  go_enter Try.func10, Try.ntmps10
  go_wp2
  all_goals (
    go_ret
    refine ⟨ret_bool ?_, rfl⟩
    unfold Rn.serves
    simp_all <;> omega)
end
end Go.Proofs.Ytmgnjkjldmjpfaa

/- The laws of chapter 12. -/
set_option maxRecDepth 100000
namespace Go.Proofs.Ytmgnjkjldmjpfaa
open Go Go.RowKit Go.Shelf
section
variable {w : World}
set_option maxHeartbeats 4000000 in
theorem awake12_any (w : World) : Calls Try.prog 11 #[] w fun e w' => e = .returned (.bool true) ∧ w = w' := by
  have R1 := of_any 0 true w
  have R2 := of_any 1 true w
  have R3 := of_any 0 false w
  have R4 := of_any 1 false w
  have R5 := of_any 2 true w
  have B1 := better_any 3 3 w
  have B2 := better_any 2 3 w
  have S1 := serves_any 3 w
  have S2 := serves_any 1 w
  have S3 := serves_any 9 w
  rw [show Rn.rank 0 true = 4 by decide] at R1
  rw [show Rn.rank 1 true = 3 by decide] at R2
  rw [show Rn.rank 0 false = 2 by decide] at R3
  rw [show Rn.rank 1 false = 1 by decide] at R4
  rw [show Rn.rank 2 true = 0 by decide] at R5
  rw [show decide ((3 : Int) ≤ 3) = true by decide] at B1
  rw [show decide ((3 : Int) ≤ 2) = false by decide] at B2
  rw [show Rn.serves 3 = true by decide] at S1
  rw [show Rn.serves 1 = false by decide] at S2
  rw [show Rn.serves 9 = false by decide] at S3
  go_enter Try.func11, Try.ntmps11
  go_wp2_with fail
  refine R1.mono ?_
  rintro e w1 ⟨rfl, rfl⟩
  go_wp2_with fail
  refine R2.mono ?_
  rintro e w1 ⟨rfl, rfl⟩
  go_wp2_with fail
  refine R3.mono ?_
  rintro e w1 ⟨rfl, rfl⟩
  go_wp2_with fail
  refine R4.mono ?_
  rintro e w1 ⟨rfl, rfl⟩
  go_wp2_with fail
  refine R5.mono ?_
  rintro e w1 ⟨rfl, rfl⟩
  go_wp2_with fail
  refine B1.mono ?_
  rintro e w1 ⟨rfl, rfl⟩
  go_wp2_with fail
  refine B2.mono ?_
  rintro e w1 ⟨rfl, rfl⟩
  go_wp2_with fail
  refine S1.mono ?_
  rintro e w1 ⟨rfl, rfl⟩
  go_wp2_with fail
  refine S2.mono ?_
  rintro e w1 ⟨rfl, rfl⟩
  go_wp2_with fail
  refine S3.mono ?_
  rintro e w1 ⟨rfl, rfl⟩
  go_wp2
  go_ret
  exact ⟨rfl, rfl⟩
set_option maxHeartbeats 4000000 in
theorem tells12_any (s : Int) (o : Bool) (a b : Int) (w : World) : Calls Try.prog 3 #[.int .i64 s, .bool o, .int .i64 a, .int .i64 b] w fun e w' => e = .returned (.bool true) ∧ w = w' := by
  generalize hq : Rn.rank s o = q
  generalize ht : Rn.serves a = t
  have R1 := of_any s o w
  have R2 := rrank_any s o w
  have B := better_any a b w
  have S1 := serves_any a w
  have S2 := rserves_any a w
  rw [hq] at R1 R2
  rw [ht] at S1 S2
  by_cases h : b ≤ a
  · have d : decide (b ≤ a) = true := by simpa using h
    rw [d] at B
    cases t <;> (
      go_enter Try.func3, Try.ntmps3
      go_wp2_with fail
      refine R1.mono ?_
      rintro e w1 ⟨rfl, rfl⟩
      go_wp2_with fail
      refine R2.mono ?_
      rintro e w1 ⟨rfl, rfl⟩
      go_wp2_with fail
      refine B.mono ?_
      rintro e w1 ⟨rfl, rfl⟩
      go_wp2_with fail
      refine S1.mono ?_
      rintro e w1 ⟨rfl, rfl⟩
      go_wp2_with fail
      refine S2.mono ?_
      rintro e w1 ⟨rfl, rfl⟩
      go_wp2_with fail
      refine (awake12_any _).mono ?_
      rintro e w1 ⟨rfl, rfl⟩
      go_wp2
      go_ret
      exact ⟨rfl, rfl⟩)
  · have d : decide (b ≤ a) = false := by simpa using h
    rw [d] at B
    cases t <;> (
      go_enter Try.func3, Try.ntmps3
      go_wp2_with fail
      refine R1.mono ?_
      rintro e w1 ⟨rfl, rfl⟩
      go_wp2_with fail
      refine R2.mono ?_
      rintro e w1 ⟨rfl, rfl⟩
      go_wp2_with fail
      refine B.mono ?_
      rintro e w1 ⟨rfl, rfl⟩
      go_wp2_with fail
      refine S1.mono ?_
      rintro e w1 ⟨rfl, rfl⟩
      go_wp2_with fail
      refine S2.mono ?_
      rintro e w1 ⟨rfl, rfl⟩
      go_wp2_with fail
      refine (awake12_any _).mono ?_
      rintro e w1 ⟨rfl, rfl⟩
      go_wp2
      go_ret
      exact ⟨rfl, rfl⟩)
end
end Go.Proofs.Ytmgnjkjldmjpfaa

/- RankOrder. -/
set_option maxRecDepth 100000
namespace Go.Proofs.Ytmgnjkjldmjpfaa
open Go Go.RowKit Go.Shelf
section
variable {w : World}
theorem Rn.order1 (s : Int) : Rn.rank s false ≤ Rn.rank s true := by unfold Rn.rank; split <;> (try split) <;> simp
theorem Rn.order2 (s : Int) : Rn.rank s true ≤ Rn.rank 0 true := (Rn.rank_B s true).2
set_option maxHeartbeats 4000000 in
theorem order12_any (a b c s : Int) (w : World) : Calls Try.prog 4 #[.int .i64 a, .int .i64 b, .int .i64 c, .int .i64 s] w fun e w' => e = .returned (.bool true) ∧ w = w' := by
  have B1 : Calls Try.prog 8 #[.int .i64 (Rn.rank s true), .int .i64 (Rn.rank s false)] w fun e w' => e = .returned (.bool true) ∧ w = w' := by
    have := better_any (Rn.rank s true) (Rn.rank s false) w
    rwa [show decide (Rn.rank s false ≤ Rn.rank s true) = true by simpa using Rn.order1 s] at this
  have B2 : Calls Try.prog 8 #[.int .i64 (Rn.rank 0 true), .int .i64 (Rn.rank s true)] w fun e w' => e = .returned (.bool true) ∧ w = w' := by
    have := better_any (Rn.rank 0 true) (Rn.rank s true) w
    rwa [show decide (Rn.rank s true ≤ Rn.rank 0 true) = true by simpa using Rn.order2 s] at this
  have B3 : Calls Try.prog 8 #[.int .i64 9, .int .i64 (Rn.rank s true)] w fun e w' => e = .returned (.bool true) ∧ w = w' := by
    have := better_any 9 (Rn.rank s true) w
    rwa [show decide (Rn.rank s true ≤ 9) = true by have := (Rn.rank_B s true).2; simp; omega] at this
  have R1 := of_any s true w
  have R2 := of_any s false w
  have R3 := of_any 0 true w
  generalize Rn.rank s true = q1 at *
  generalize Rn.rank s false = q2 at *
  generalize Rn.rank 0 true = q3 at *
  have C1 := better_any a b w
  have C2 := better_any b c w
  have C3 := better_any a c w
  have C4 := better_any b a w
  by_cases h1 : b ≤ a <;> by_cases h2 : c ≤ b <;> by_cases h3 : c ≤ a <;> by_cases h4 : a ≤ b <;> first | (exfalso; omega) | (
    simp only [h1, h2, h3, h4, decide_true, decide_false] at C1 C2 C3 C4
    go_enter Try.func4, Try.ntmps4
    go_wp2_with (first
      | ((with_reducible refine C1.mono ?_); rintro e w1 ⟨rfl, rfl⟩)
      | ((with_reducible refine C2.mono ?_); rintro e w1 ⟨rfl, rfl⟩)
      | ((with_reducible refine C3.mono ?_); rintro e w1 ⟨rfl, rfl⟩)
      | ((with_reducible refine C4.mono ?_); rintro e w1 ⟨rfl, rfl⟩)
      | ((with_reducible refine R1.mono ?_); rintro e w1 ⟨rfl, rfl⟩)
      | ((with_reducible refine R2.mono ?_); rintro e w1 ⟨rfl, rfl⟩)
      | ((with_reducible refine R3.mono ?_); rintro e w1 ⟨rfl, rfl⟩)
      | ((with_reducible refine B1.mono ?_); rintro e w1 ⟨rfl, rfl⟩)
      | ((with_reducible refine B2.mono ?_); rintro e w1 ⟨rfl, rfl⟩)
      | ((with_reducible refine B3.mono ?_); rintro e w1 ⟨rfl, rfl⟩)
      | (go_at_call 11; refine (awake12_any _).mono ?_; rintro e w1 ⟨rfl, rfl⟩))
    all_goals (
      go_ret
      exact ⟨rfl, rfl⟩))
end
end Go.Proofs.Ytmgnjkjldmjpfaa

/- RankServes. -/
set_option maxRecDepth 100000
namespace Go.Proofs.Ytmgnjkjldmjpfaa
open Go Go.RowKit Go.Shelf
section
variable {w : World}
theorem Rn.serves_iff (r : Int) : Rn.serves r = decide (r = 2 ∨ r = 3 ∨ r = 4) := by unfold Rn.serves; rw [decide_eq_decide]; omega
theorem Rn.serves_rank (s : Int) (o : Bool) : Rn.serves (Rn.rank s o) = (decide (s = 0) || (decide (s = 1) && o)) := by
  unfold Rn.rank
  by_cases h0 : s = 0
  · subst h0; cases o <;> decide
  · by_cases h1 : s = 1
    · subst h1; cases o <;> decide
    · simp only [h0, h1, if_false, decide_false, Bool.false_and, Bool.or_self]; decide
set_option maxHeartbeats 4000000 in
theorem serves12_any (s : Int) (o : Bool) (r : Int) (w : World) : Calls Try.prog 5 #[.int .i64 s, .bool o, .int .i64 r] w fun e w' => e = .returned (.bool true) ∧ w = w' := by
  have R := of_any s o w
  have S1 := serves_any (Rn.rank s o) w
  have S2 := serves_any r w
  have hB := Rn.rank_B s o
  rw [Rn.serves_rank] at S1
  rw [Rn.serves_iff] at S2
  generalize Rn.rank s o = q at *
  obtain ⟨g0, g4⟩ := hB
  have d1 : decide (q < 0) = false := by simp; omega
  have d2 : decide (4 < q) = false := by simp; omega
  by_cases h0 : s = 0 <;> by_cases h1 : s = 1 <;> by_cases r2 : r = 2 <;> by_cases r3 : r = 3 <;> by_cases r4 : r = 4 <;> first | (exfalso; omega) | (cases o <;> (
    simp only [h0, h1, r2, r3, r4, decide_true, decide_false, Bool.and_true, Bool.and_false, Bool.or_true, Bool.or_false, Bool.or_self, true_or, or_true, or_self] at R S1 S2
    try subst h0
    try subst h1
    try subst r2
    try subst r3
    try subst r4
    go_enter Try.func5, Try.ntmps5
    go_wp2_with (first
      | ((with_reducible refine R.mono ?_); rintro e w1 ⟨rfl, rfl⟩)
      | ((with_reducible refine S1.mono ?_); rintro e w1 ⟨rfl, rfl⟩)
      | ((with_reducible refine S2.mono ?_); rintro e w1 ⟨rfl, rfl⟩)
      | (go_at_call 11; refine (awake12_any _).mono ?_; rintro e w1 ⟨rfl, rfl⟩))
    all_goals (
      go_ret
      first | exact ⟨rfl, rfl⟩ | exact ⟨ret_bool (by simp_all), rfl⟩)))
end
end Go.Proofs.Ytmgnjkjldmjpfaa

/- The laws of chapter 12, as their frames want them. -/
namespace Go.Proofs.Ytmgnjkjldmjpfaa
open Go Go.RowKit Go.Shelf
theorem below_of {e : Ending} {w w' : World} (h : e = .returned (.bool true) ∧ w = w') : e = .returned (.bool true) ∧ Below w.heap.size w w' := by
  obtain ⟨rfl, rfl⟩ := h
  exact ⟨rfl, Below.refl _ _⟩
end Go.Proofs.Ytmgnjkjldmjpfaa

/- The frame of the laws of chapter 9: the arguments opened, read as they did, the law's promise from a walk. -/
set_option maxRecDepth 100000
namespace Go.Proofs.Ytmgnjkjldmjpfaa
open Go.ChangeShapes Go.WideShapes Go.ChangeAt Go.RowKit
theorem laidOut : laidOutB Try.prog = true := by kernel_rfl
theorem own : ownKnob Try.prog.godebug = none := by kernel_rfl
theorem getD_at {α : Type} {l : List α} {d : α} {i : Nat} (h : i < l.length) : l.getD i d = l[i] := by simp [List.getD, h]
theorem zero_maxLen : 0 ≤ maxLen := Nat.zero_le _
abbrev laidList : List (String × DataW Unit) := []
noncomputable def laidWorld (os : Os) : World := World.holding Try.prog os ⟨#[], #[], []⟩
theorem laid_met (os : Os) (args : Array Value) : laidMet Try.prog [] ((laidWorld os).forCall (fun _ _ => 0) ⟨#[], args, []⟩).memory :=
  laidMet_of_run' 8 (by kernel_rfl) (by kernel_rfl)
/-- What is read element by element is read as a whole. -/
theorem RK.ofEach {α : Type} {enc : α → List Value} {k : Nat} (hk : ∀ a, (enc a).length = k) (h0 : 0 < k) {l : List α} {W : World} {b off cap : Nat} (hcap : l.length ≤ cap) (hc : ∀ (i : Nat) (h : i < l.length) (f : Nat), f < k → W.cell? ⟨b, off + (i * k + f), none⟩ = (enc l[i])[f]?) :
    RK enc (fun k => k < W.heap.size) (.slice (some ⟨b, off, none⟩) l.length cap) l W :=
  ⟨some ⟨b, off, none⟩, cap, rfl, hcap, fun j u hu => by
    obtain ⟨hj, hu2⟩ := flat_at enc k hk h0 l j u hu
    have h2 := hc (j / k) hj (j % k) (Nat.mod_lt _ h0)
    have e : j / k * k + j % k = j := by rw [Nat.mul_comm]; exact Nat.div_add_mod j k
    rw [hu2, e] at h2
    exact ⟨b, off, rfl, cell_lt h2, h2⟩⟩
section
variable {H : Type} {enc : TypeId × Value → H} {W : World}
theorem arg_int {r : Reach} {b0 : Nat} {v : Value} {d : DataW H} {ps : List MemPlace} (hval : Value.okWide Try.prog W r b0 3 v) (hd : DataW.Trod enc Try.prog W 0 (fun _ => true) true 3 v d ps) :
    ∃ z : Int, v = .int .i64 z ∧ -9223372036854775808 ≤ z ∧ z ≤ 9223372036854775807 := by
  obtain ⟨z, rfl, _, _, hw⟩ := open_int Try.underlying3 hval hd
  exact ⟨z, rfl, bounds_i64 hw⟩
/-- What reads as it did. -/
theorem trodAll_below : ∀ {ts : List TypeId} {vs : List Value} {ds : List (DataW H)} {ps : List MemPlace} {W' : World}, DataW.TrodAll enc Try.prog W 0 (fun _ => true) true ts vs ds ps → Below W.heap.size W W' → (∀ x ∈ ps, x.block < W.heap.size) → (∀ t ∈ ts, Try.prog.readableRec t = true ∧ t < Try.prog.types.size) →
    DataW.TrodAll enc Try.prog W' 0 (fun b => decide (b < W.heap.size)) true ts vs ds ps
  | [], [], [], _, _, h, _, _, _ => h
  | t :: ts, v :: vs, d :: ds, _, _, ⟨p, q, h1, h2, e⟩, hb, hlt, hr =>
    ⟨p, q, Below.trod laidOut (hr t (List.mem_cons_self ..)).1 (hr t (List.mem_cons_self ..)).2 h1 hb (fun x hx => hlt x (by rw [e]; exact List.mem_append_left _ hx)),
      trodAll_below h2 hb (fun x hx => hlt x (by rw [e]; exact List.mem_append_right _ hx)) (fun t ht => hr t (List.mem_cons_of_mem _ ht)), e⟩
theorem law_post {s : ChangeSpec} {f : Func} {args : Array Value} {ds gs : List (DataW H)} {before : List MemPlace} {W' : World} (hW : DataW.Whole enc Try.prog f.params.toList s.vars false W args.toList ds gs before) (hvars : s.vars = []) (hb : Below W.heap.size W W')
    (hres : f.resultTypes = #[4]) (hfn : s.fn H (ds ++ gs) = { results := [.lit (.bool true)], args := ds }) (hr : ∀ t ∈ f.params.toList, Try.prog.readableRec t = true ∧ t < Try.prog.types.size) :
    s.post enc Try.prog f false true false false W args (.bool true) W' := by
  have hW' := hW
  obtain ⟨p, q, hA, hV, rfl, _, _⟩ := hW
  rw [hvars] at hV
  obtain ⟨rfl, rfl⟩ := trodVars_none hV
  refine ⟨ds, [], p ++ [], [], p, [], hW', ?_, ?_, ?_, hb.frame _, fun h => by cases h⟩
  · rw [hfn, hres]
    exact trodAll_mk1 (shut_bool Try.underlying4 true)
  · rw [hfn]
    exact trodAll_below hA hb (fun x hx => by simpa using hW'.lt x (List.mem_append_left _ hx)) hr
  · rw [hfn, hvars]
    rfl
end
end Go.Proofs.Ytmgnjkjldmjpfaa

/- The frame of the laws of chapter 12: what is read. -/
set_option maxRecDepth 100000
namespace Go.Proofs.Ytmgnjkjldmjpfaa
open Go.ChangeShapes Go.WideShapes Go.ChangeAt Go.RowKit
section
variable {H : Type} {enc : TypeId × Value → H} {W : World}
theorem arg_bool {r : Reach} {b0 : Nat} {v : Value} {d : DataW H} {ps : List MemPlace} (hval : Value.okWide Try.prog W r b0 4 v) (hd : DataW.Trod enc Try.prog W 0 (fun _ => true) true 4 v d ps) :
    ∃ x : Bool, v = .bool x := by
  obtain ⟨x, rfl, _⟩ := open_bool Try.underlying4 hval hd
  exact ⟨x, rfl⟩
end
theorem readT12 : ∀ t ∈ [3, 4], Try.prog.readableRec t = true ∧ t < Try.prog.types.size := by
  intro t ht
  simp only [List.mem_cons, List.not_mem_nil, or_false] at ht
  rcases ht with rfl | rfl
  all_goals exact ⟨by kernel_rfl, of_decide_eq_true (by kernel_rfl)⟩
end Go.Proofs.Ytmgnjkjldmjpfaa
