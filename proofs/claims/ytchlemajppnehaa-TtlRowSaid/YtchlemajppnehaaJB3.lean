/- 5 texts put together: SeqB, Pl, Round, Tt, Tn. -/
import Derived.RangeFuncNested
import Derived.RangeFuncBound
import Derived.RangeFuncLeaves
import Derived.RangeFuncFrom
import Derived.RangeFuncWrites
import Derived.LoopTactic
import Derived.BigQuiet
import Derived.Test.YtchlemajppnehaaJB1
import Derived.Test.YtchlemajppnehaaJB2
/- A range over a function whose body may make a map and write it: the caller's invariant abides the turn of book-keeping alone (a loop's record, a block for deferred calls), and the body keeps no more than that. -/
namespace Go.Proofs.Ytchlemajppnehaa
open Go Go.RowKit
variable {F : Fence} {n : Nat} {P : Program}

theorem bookC {A : World} {r : Nat} (h : ∃ o : Obj, A.heap[r]? = some o ∧ isBook o = true) : ∃ o : Obj, A.heap[r]? = some o ∧ o.isCells = false := by
  obtain ⟨o, ho, hk⟩ := h
  exact ⟨o, ho, book_cells hk⟩
/-- The invariant abides the turn of book-keeping from B on. -/
def OwnBk {β : Type} (B : Nat) (I : β → World → Prop) : Prop :=
  ∀ s W W' row, I s W → W.grownBy W' row → (∀ r, row = some r → B ≤ r ∧ ∃ o : Obj, W.heap[r]? = some o ∧ isBook o = true) → I s W'
theorem ownFrom_book {β : Type} {B : Nat} {I : β → World → Prop} (h : OwnFrom B I) : OwnBk B I := fun s W W' row hs hg hr => h s W W' row hs hg (fun r e => ⟨(hr r e).1, by obtain ⟨o, ho, hk⟩ := (hr r e).2; exact ⟨o, ho, book_cells hk⟩⟩)
theorem OwnBk.putObj {β : Type} {B : Nat} {I : β → World → Prop} (h : OwnBk B I) {s : β} {W : World} {l : Nat} {o : Obj} (o' : Obj) (hs : I s W) (hB : B ≤ l) (hl : W.heap[l]? = some o) (ho : isBook o = true) : I s (W.putObj l o') :=
  h s W _ (some l) hs (grownBy_putObj' W l o') (fun r e => by cases e; exact ⟨hB, o, hl, ho⟩)
theorem OwnBk.alloc {β : Type} {B : Nat} {I : β → World → Prop} (h : OwnBk B I) {s : β} {W : World} (o : Obj) (hs : I s W) : I s (W.alloc o) :=
  h s W _ none hs (World.grownBy_alloc W o none) (fun r e => by cases e)
theorem OwnBk.and {β : Type} {B : Nat} {I I' : β → World → Prop} (h : OwnBk B I) (h' : OwnBk B I') : OwnBk B (fun s W => I s W ∧ I' s W) := fun s W W' row hs hg hr => ⟨h s W W' row hs.1 hg hr, h' s W W' row hs.2 hg hr⟩
theorem ownBk_pure {β : Type} (B : Nat) (p : β → Prop) : OwnBk B (fun s (_ : World) => p s) := fun _ _ _ _ hs _ _ => hs
/-- Book-keeping from B on lies as it lay. -/
structure KeepsBk (B : Nat) (W W' : World) : Prop where
  size : W.heap.size ≤ W'.heap.size
  same : ∀ (k : Nat) (o : Obj), B ≤ k → W.heap[k]? = some o → isBook o = true → W'.heap[k]? = some o
theorem keepsFrom_book {B : Nat} {W W' : World} (h : KeepsFrom B W W') : KeepsBk B W W' := ⟨h.size, fun k o hB hk ho => h.same k o hB hk (book_cells ho)⟩
theorem KeepsBk.refl (B : Nat) (W : World) : KeepsBk B W W := keepsFrom_book (KeepsFrom.refl B W)
theorem KeepsBk.trans {B : Nat} {X Y Z : World} (h : KeepsBk B X Y) (k : KeepsBk B Y Z) : KeepsBk B X Z := ⟨Nat.le_trans h.size k.size, fun i o hB hi ho => k.same i o hB (h.same i o hB hi ho) ho⟩
theorem KeepsBk.of_grownBy {B : Nat} {W W' : World} {row : Option Nat} (hg : W.grownBy W' row) (hrow : ∀ j, row = some j → j < B) : KeepsBk B W W' := keepsFrom_book (KeepsFrom.of_grownBy hg hrow)
def ownPostB {α : Type} (B : Nat) (Kp : World → World → Prop) (I : List α → World → Prop) (Ix : Code → List α → World → Prop) (xs : List α) (W : World) : Exit → Act → World → Prop
  | .normal, _, W' => KeepsBk B W W' ∧ Kp W W' ∧ I xs W'
  | .ret, _, W' => KeepsBk B W W' ∧ Ix .ret xs W'
  | .exit id, _, W' => KeepsBk B W W' ∧ Ix (.exit id) xs W'
  | .goto t, _, W' => KeepsBk B W W' ∧ Ix (.goto t) xs W'
  | .panic _, _, _ => False
  | .outgrown, _, _ => False

/-- The contract of an iterator that loops over another. -/
def SeqStopsB {α : Type} (F : Fence) (n : Nat) (P : Program) (g : Nat) (lb : Array Value) (encs : α → Array Value) (Kp : World → World → Prop) (S Sp : List α → Prop) (N : Nat) (w : World) : Prop :=
  ∀ (l : Nat) (J Jx : List α → World → Prop) (W : World), Below w.heap.size w W → OwnBk W.heap.size J → OwnBk W.heap.size Jx →
    (∀ pre x W1, J pre W1 → pre.length < N → Sp (pre ++ [x]) → YieldAt F (n - 1) P l (encs x) W1 fun e W' =>
      (e = .returned (.bool true) ∧ J (pre ++ [x]) W' ∧ Kp W1 W' ∧ KeepsBk W.heap.size W1 W') ∨ (e = .returned (.bool false) ∧ Jx (pre ++ [x]) W' ∧ KeepsBk W.heap.size W1 W')) →
    J [] W →
    CallsIn F n P g (#[.func (.yield l) #[] #[]] ++ lb) W fun e W' => (∃ v, e = .returned v) ∧ ((∃ xs, S xs ∧ J xs W') ∨ (∃ pre, Sp pre ∧ Jx pre W'))

theorem keeps_put {B l : Nat} {W : World} (o : Obj) (h : l < B) : KeepsBk B W (W.putObj l o) :=
  KeepsBk.of_grownBy (grownBy_putObj' W l o) (fun j e => by cases e; exact h)

theorem wpIn_rangeFunc_ownB {α : Type} {g : Operand} {ps : Array Tmp} {assign body : Code} {Q : Exit → Act → World → Prop} {a : Act} {w : World}
    (hro : F.round = none) (h1 : 1 ≤ n) {gf : Nat} {lb : Array Value} (hg : a.eval g = .func (.func gf) #[] lb) (hFg : F.fn gf) (eg : ∀ args w, (callFunc gf args).run P w = .ok (.enter gf args) w)
    {encs : α → Array Value} {Kp : World → World → Prop} {S Sp : List α → Prop} {N : Nat} {w0 : World} (hseq : SeqStopsB F (n - 1) P gf lb encs Kp S Sp N w0)
    (hKt : ∀ {A B C : World}, Kp A B → Kp B C → Kp A C) (hKb : ∀ (W : World) (l : Nat) (o o' : Obj), w.heap.size ≤ l → W.heap[l]? = some o → o.isCells = false → o.isWalk = false → Kp W (W.putObj l o')) (hb0 : Below w0.heap.size w0 w) (hps : ∀ x, (encs x).size = ps.size)
    (I : List α → World → Prop) (Ix : Code → List α → World → Prop) (hI : OwnBk w.heap.size I) (hIx : ∀ c, OwnBk w.heap.size (Ix c)) (h0 : I [] w) (a₁ : α → Act)
    (hassign : ∀ (l : Nat) (x : α) (W : World) (K : Act → World → Prop), K (a₁ x) W →
      assign.wpIn (F.inRound l) (n - 1 - 1) P (Exit.then K (fun _ _ _ => False)) { tmps := (ps.zip (encs x)).foldl (fun t (p, v) => t.setIfInBounds p v) a.tmps, defers := [] } W)
    (hbody : ∀ (l : Nat) (pre : List α) (x : α) (W : World), I pre W → pre.length < N → Sp (pre ++ [x]) → body.wpIn (F.inRound l) (n - 1 - 1) P (ownPostB w.heap.size Kp I Ix (pre ++ [x]) W) (a₁ x) W)
    (hdone : ∀ (D : Nat) (xs : List α) (W : World), w.heap.size ≤ D → S xs → I xs W → W.heap[D]? = some (.deferred (some [])) → Q .normal { a with defers := { target := .collected D, args := #[] } :: a.defers } W)
    (hstop : ∀ (D : Nat) (c : Code) (pre : List α) (W : World), w.heap.size ≤ D → Sp pre → Ix c pre W → W.heap[D]? = some (.deferred (some [])) → c.wpIn F n P Q { a with defers := { target := .collected D, args := #[] } :: a.defers } W) :
    (Code.rangeFunc g ps assign body).wpIn F n P Q a w := by
  refine wpIn_rangeFunc ?_
  intro fn hfn
  rw [hro]
  obtain ⟨rec, hrec⟩ : ∃ rec : LoopState → Option Code → Loop, rec = fun st pe => { state := st, pending := pe, fn, tmps := a.tmps, params := ps, assign, body, defers := w.heap.size } := ⟨_, rfl⟩
  obtain ⟨W1, hW1⟩ : ∃ W1, (w.alloc (.deferred (some []))).alloc (.loop (rec .ready none)) = W1 := ⟨_, rfl⟩
  have hsz1 : W1.heap.size = w.heap.size + 2 := by rw [← hW1]; simp
  have hL1 : W1.heap[w.heap.size + 1]? = some (.loop (rec .ready none)) := by
    rw [← hW1]; have := World.alloc_heap_new (w.alloc (.deferred (some []))) (.loop (rec .ready none)); rwa [World.size_alloc] at this
  have hK1 : W1.heap[w.heap.size]? = some (.deferred (some [])) := by
    rw [← hW1]; exact (Below.heap_alloc _ _ _ (by simp)).trans (World.alloc_heap_new w _)
  have hI1 : I [] W1 := by rw [← hW1]; exact hI.alloc _ (hI.alloc _ h0)
  have hb1 : Below w0.heap.size w0 W1 := by
    rw [← hW1]; exact hb0.trans ((((Below.refl _ w).alloc (Nat.le_refl _) _).alloc (by simp) _).mono hb0.size)
  refine ⟨w.heap.size + 1, [{ target := .collected w.heap.size, args := #[] }], W1, { target := .fn (.func gf) lb, args := #[.func (.yield (w.heap.size + 1)) #[] #[]] }, W1, gf,
    #[.func (.yield (w.heap.size + 1)) #[] #[]] ++ lb, W1, ?_, ?_, ?_, ?_, fun _ => h1, ?_⟩
  · rw [← hW1, hrec]; exact run_enterLoop_outer _ _ _ _ _
  · simp only [resolve, hg]
    simp [go_sem]
  · intro f' hf'; simp [Target.leads] at hf'; subst hf'; exact hFg
  · simp [invoke, go_sem, eg]
  · have hnw : ∀ {A : World} {row : Option Nat}, (∀ r, row = some r → W1.heap.size ≤ r ∧ ∃ o : Obj, A.heap[r]? = some o ∧ isBook o = true) → (∀ r, row = some r → w.heap.size ≤ r ∧ ∃ o : Obj, A.heap[r]? = some o ∧ isBook o = true) :=
      fun hr r e => ⟨by have := (hr r e).1; omega, (hr r e).2⟩
    have hkeep : ∀ {A B : World} {row : Option Nat} {k : Nat} {o : Obj}, A.grownBy B row → (∀ r, row = some r → W1.heap.size ≤ r ∧ ∃ o : Obj, A.heap[r]? = some o ∧ isBook o = true) → k < W1.heap.size → A.heap[k]? = some o → B.heap[k]? = some o :=
      fun {A B row k o} hg' hr hk h => (hg'.block k (Array.getElem?_eq_some_iff.1 h).1 (fun e => by have := (hr k e.symm).1; omega)).trans h
    refine (hseq (w.heap.size + 1)
      (fun pre W => I pre W ∧ W.heap[w.heap.size + 1]? = some (.loop (rec .ready none)) ∧ W.heap[w.heap.size]? = some (.deferred (some [])))
      (fun pre W => ∃ c, Ix c pre W ∧ W.heap[w.heap.size + 1]? = some (.loop (rec .done (some c))) ∧ W.heap[w.heap.size]? = some (.deferred (some [])))
      W1 hb1
      (fun s A B row hs hg' hr => ⟨hI s A B row hs.1 hg' (hnw hr), hkeep hg' hr (by omega) hs.2.1, hkeep hg' hr (by omega) hs.2.2⟩)
      (fun s A B row hs hg' hr => by
        obtain ⟨c, hc, hl, hk⟩ := hs
        exact ⟨c, hIx c s A B row hc hg' (hnw hr), hkeep hg' hr (by omega) hl, hkeep hg' hr (by omega) hk⟩)
      ?_ ⟨hI1, hL1, hK1⟩).mono ?_
    · rintro pre x W ⟨hi, hl, hk⟩ hlen hsp
      have hlt : w.heap.size + 1 < W.heap.size := (Array.getElem?_eq_some_iff.1 hl).1
      have hy := run_yield (P := P) (args := encs x) hl (by rw [hrec]; exact hps x)
      rw [hrec] at hy
      refine ⟨fn, _, assign, body, hy, roundIn_of_wpIn hfn (hassign _ x W _ ?_)⟩
      clear hy
      refine ⟨_, run_beginRound hl (by rw [hrec]), ?_⟩
      have hl2 : (W.putObj (w.heap.size + 1) (.loop { rec .ready none with state := .busy })).heap[w.heap.size + 1]? = some (.loop { rec .ready none with state := .busy }) := World.putObj_heap_same hlt
      have hk2 : (W.putObj (w.heap.size + 1) (.loop { rec .ready none with state := .busy })).heap[w.heap.size]? = some (.deferred (some [])) := (World.putObj_heap_other (by omega)).trans hk
      have hw2 : Kp W (W.putObj (w.heap.size + 1) (.loop { rec .ready none with state := .busy })) := hKb _ _ _ _ (by omega) hl rfl rfl
      have hf2 : KeepsBk W1.heap.size W (W.putObj (w.heap.size + 1) (.loop { rec .ready none with state := .busy })) := keeps_put _ (by omega)
      refine wpIn_mono (hbody _ pre x _ (hI.putObj _ hi (by omega) hl rfl) hlen hsp) ?_
      have fin : ∀ (jump : Option Code) (W3 : World), KeepsBk w.heap.size (W.putObj (w.heap.size + 1) (.loop { rec .ready none with state := .busy })) W3 →
          (Instr.endRound (w.heap.size + 1) jump).run P W3 = .ok (.bool jump.isNone) (W3.putObj (w.heap.size + 1) (.loop (rec (if jump.isNone then .ready else .done) jump))) ∧
          W3.heap[w.heap.size + 1]? = some (.loop { rec .ready none with state := .busy }) ∧
          (W3.putObj (w.heap.size + 1) (.loop (rec (if jump.isNone then .ready else .done) jump))).heap[w.heap.size + 1]? = some (.loop (rec (if jump.isNone then .ready else .done) jump)) ∧
          (W3.putObj (w.heap.size + 1) (.loop (rec (if jump.isNone then .ready else .done) jump))).heap[w.heap.size]? = some (.deferred (some [])) ∧
          KeepsBk W1.heap.size W (W3.putObj (w.heap.size + 1) (.loop (rec (if jump.isNone then .ready else .done) jump))) := fun jump W3 hk3 => by
        have hl3 := hk3.same _ _ (by omega) hl2 rfl
        have := run_endRound (P := P) jump hl3
        rw [hrec] at this ⊢
        refine ⟨this, by rw [hrec] at hl3; exact hl3, World.putObj_heap_same (Array.getElem?_eq_some_iff.1 hl3).1, (World.putObj_heap_other (by omega)).trans (hk3.same _ _ (Nat.le_refl _) hk2 rfl), ?_⟩
        refine hf2.trans (KeepsBk.trans ⟨hk3.size, fun k o hB hk ho => hk3.same k o (by omega) hk ho⟩ (keeps_put _ (by omega)))
      rintro e a3 W3 hp
      cases e with
      | normal =>
        obtain ⟨hk3, hkp3, hi3⟩ := hp
        obtain ⟨hr, hl3, hl4, hk4, hkf⟩ := fin none W3 hk3
        exact ⟨_, _, hr, .inl ⟨rfl, ⟨hI.putObj _ hi3 (by omega) hl3 rfl, hl4, hk4⟩, hKt (hKt hw2 hkp3) (hKb _ _ _ _ (by omega) hl3 rfl rfl), hkf⟩⟩
      | ret =>
        obtain ⟨hk3, hi3⟩ := hp
        obtain ⟨hr, hl3, hl4, hk4, hkf⟩ := fin (some .ret) W3 hk3
        exact ⟨_, _, hr, .inr ⟨rfl, ⟨.ret, (hIx _).putObj _ hi3 (by omega) hl3 rfl, hl4, hk4⟩, hkf⟩⟩
      | exit id =>
        obtain ⟨hk3, hi3⟩ := hp
        obtain ⟨hr, hl3, hl4, hk4, hkf⟩ := fin (some (.exit id)) W3 hk3
        exact ⟨_, _, hr, .inr ⟨rfl, ⟨.exit id, (hIx _).putObj _ hi3 (by omega) hl3 rfl, hl4, hk4⟩, hkf⟩⟩
      | goto t =>
        obtain ⟨hk3, hi3⟩ := hp
        obtain ⟨hr, hl3, hl4, hk4, hkf⟩ := fin (some (.goto t)) W3 hk3
        exact ⟨_, _, hr, .inr ⟨rfl, ⟨.goto t, (hIx _).putObj _ hi3 (by omega) hl3 rfl, hl4, hk4⟩, hkf⟩⟩
      | panic ch => exact hp.elim
      | outgrown => exact hp.elim
    · rintro e W2 ⟨⟨v, rfl⟩, (⟨xs, hS, hi, hl, hk⟩ | ⟨pre, hSp, c, hi, hl, hk⟩)⟩
      · exact ⟨none, _, by have := run_endLoop (P := P) hl (by rw [hrec]; simp); rw [hrec] at this; exact this, hdone _ xs _ (Nat.le_refl _) hS (hI.putObj _ hi (by omega) hl rfl) ((World.putObj_heap_other (by omega)).trans hk)⟩
      · exact ⟨some c, _, by have := run_endLoop (P := P) hl (by rw [hrec]; simp); rw [hrec] at this; exact this, hstop _ c pre _ (Nat.le_refl _) hSp ((hIx c).putObj _ hi (by omega) hl rfl) ((World.putObj_heap_other (by omega)).trans hk)⟩
end Go.Proofs.Ytchlemajppnehaa

/- The document's own lists: where a number is. -/
set_option maxRecDepth 100000
namespace Go.Proofs.Ytchlemajppnehaa
open Go Go.RowKit Go.Shelf
def encZ (x : Int) : List Value := [.int .i64 x]
theorem encZ_len (x : Int) : (encZ x).length = 1 := rfl
theorem encZ_one (x : Int) : ∀ u ∈ encZ x, u.oneCell' = true := by intro u hu; simp [encZ] at hu; subst hu; rfl
/-- Where one is; -1: nowhere. -/
def plc (k : Int) : List Int → Nat → Int
  | [], _ => -1
  | x :: l, i => if x = k then (i : Int) else plc k l (i + 1)
theorem plc_drop {l : List Int} {k : Int} {i : Nat} (h : i < l.length) : plc k (l.drop i) i = if l[i] = k then (i : Int) else plc k (l.drop (i + 1)) (i + 1) := by
  rw [List.drop_eq_getElem_cons h]; rfl
theorem plc_end {l : List Int} {k : Int} {i : Nat} (h : l.length ≤ i) : plc k (l.drop i) i = -1 := by
  rw [List.drop_eq_nil_of_le h]; rfl
theorem rk_cell {x : Nat → Prop} {ao : Option Addr} {n cap : Nat} {l : List Int} {W : World} (h : RK encZ x (.slice ao n cap) l W) {i : Nat} (hi : i < l.length) : ∃ b off, ao = some ⟨b, off, none⟩ ∧ W.cell? ⟨b, off + i, none⟩ = some (.int .i64 l[i]) := by
  obtain ⟨b, off, e, _, c⟩ := RK.at_ encZ_len h hi (f := 0) (by omega)
  exact ⟨b, off, e, by rw [Nat.mul_one, Nat.add_zero] at c; rw [c]; rfl⟩
end Go.Proofs.Ytchlemajppnehaa

/- Round. -/
namespace Go.Proofs.Ytchlemajppnehaa
open Go.RowKit Go.Shelf

def roundI (k n : Int) : Int := (k.tmod n + n).tmod n
theorem roundI_bounds (k n : Int) (h : 0 < n) : 0 ≤ roundI k n ∧ roundI k n < n := by
  unfold roundI
  have h1 : -n < k.tmod n := Int.lt_tmod_of_pos k h
  have h2 : 0 ≤ k.tmod n + n := by omega
  exact ⟨Int.tmod_nonneg _ h2, Int.tmod_lt_of_pos _ h⟩

set_option maxHeartbeats 400000 in
theorem round_any (k n : Int) (w : World) (h1 : 1 ≤ n) (h2 : n ≤ 1000000) (_hk1 : -9223372036854775808 ≤ k) (_hk2 : k ≤ 9223372036854775807) :
    Calls Try.prog 21 #[.int .i64 k, .int .i64 n] w fun e w' => e = .returned (.int .i64 (roundI k n)) ∧ w = w' := by
  have hn0 : (n == 0) = false := by rw [beq_eq_false_iff_ne]; omega
  go_enter Try.func21, Try.ntmps21
  go_wp2
  go_ret
  have hlo := Int.lt_tmod_of_pos k (show 0 < n by omega)
  have hhi := Int.tmod_lt_of_pos k (show 0 < n by omega)
  refine ⟨ret_int ?_, rfl⟩
  unfold roundI
  generalize k.tmod n = m at *
  rw [show wrap64 (m + n) = m + n by unfold wrap64; omega]
end Go.Proofs.Ytchlemajppnehaa

/- Package ttl: what each call comes to. -/
set_option maxRecDepth 100000
namespace Go.Proofs.Ytchlemajppnehaa
open Go Go.RowKit Go.Shelf
namespace Tt
def cap (a b : Int) : Int := max 0 (min a b)
def expiry (now t : Int) : Int := min (now + max 0 t) 1099511627776
def left (e now : Int) : Int := if e ≤ now then 0 else min (e - now) 9223372036854775807
def least : List Int → Int
  | [] => 0
  | x :: l => l.foldl min x
def B (z : Int) : Prop := -9223372036854775808 ≤ z ∧ z ≤ 9223372036854775807
theorem over {z : Int} (h1 : 9223372036854775807 < z) (h2 : z ≤ 18446744073709551615) : IntKind.i64.wrap z = z - 18446744073709551616 := by rw [IntKind.wrap_i64]; omega
theorem cap_B {a b : Int} (ha : B a) (hb : B b) : B (cap a b) := by unfold B cap at *; omega
theorem left_B (a b : Int) : 0 ≤ left a b ∧ left a b ≤ 9223372036854775807 := by unfold left; split <;> omega
theorem expiry_B {a b : Int} (ha : B a) (hb : B b) : B (expiry a b) := by unfold B expiry at *; omega
theorem foldl_B : ∀ (l : List Int) (x : Int), B x → (∀ z ∈ l, B z) → B (l.foldl min x)
  | [], x, h, _ => h
  | y :: l, x, h, hl => foldl_B l (min x y) (by have := hl y (List.mem_cons_self ..); unfold B at *; omega) fun z hz => hl z (List.mem_cons_of_mem _ hz)
theorem least_B {l : List Int} (hl : ∀ z ∈ l, B z) : B (least l) := by
  cases l with
  | nil => exact ⟨by decide, by decide⟩
  | cons x l => exact foldl_B l x (hl x (List.mem_cons_self ..)) fun z hz => hl z (List.mem_cons_of_mem _ hz)
theorem least_take (l : List Int) (j : Nat) (h0 : 0 < j) (h : j < l.length) : least (l.take (j + 1)) = min (least (l.take j)) l[j] := by
  cases l with
  | nil => simp at h
  | cons x l =>
    obtain ⟨i, rfl⟩ : ∃ i, j = i + 1 := ⟨j - 1, by omega⟩
    have hi : i < l.length := by simpa using h
    show (l.take (i + 1)).foldl min x = min ((l.take i).foldl min x) ((x :: l)[i + 1])
    rw [List.take_succ_eq_append_getElem hi, List.foldl_append]
    rfl
end Tt
section
variable {a b c : Int} {w : World}
set_option maxHeartbeats 1000000 in
theorem cap_any (a b : Int) (w : World) : Calls Try.prog 10 #[.int .i64 a, .int .i64 b] w fun e w' => e = .returned (.int .i64 (Tt.cap a b)) ∧ w = w' := by
  go_enter Try.func10, Try.ntmps10
  go_wp2
  all_goals (
    go_ret
    refine ⟨ret_int ?_, rfl⟩
    unfold Tt.cap
    split at * <;> omega)
set_option maxHeartbeats 1000000 in
theorem rcap_any (a b : Int) (w : World) : Calls Try.prog 11 #[.int .i64 a, .int .i64 b] w fun e w' => e = .returned (.int .i64 (Tt.cap a b)) ∧ w = w' := by
  go_enter Try.func11, Try.ntmps11
  go_wp2
  all_goals (
    go_ret
    refine ⟨ret_int ?_, rfl⟩
    unfold Tt.cap
    split at * <;> omega)
set_option maxHeartbeats 1000000 in
theorem sum_any (ha : Tt.B a) (hb : 0 ≤ b ∧ b ≤ 9223372036854775807) (w : World) : Calls Try.prog 28 #[.int .i64 a, .int .i64 b] w fun e w' => e = .returned (.int .i64 (min (a + b) 9223372036854775807)) ∧ w = w' := by
  unfold Tt.B at ha
  by_cases h : a + b ≤ 9223372036854775807
  · have hw : IntKind.i64.wrap (a + b) = a + b := IntWalk.i64_in _ ⟨by omega, h⟩
    have d : decide (a ≤ a + b) = true := by simp; omega
    go_enter Try.func28, Try.ntmps28
    go_wp2
    go_ret
    exact ⟨ret_int (by omega), rfl⟩
  · have hw : IntKind.i64.wrap (a + b) = a + b - 18446744073709551616 := Tt.over (by omega) (by omega)
    have d : decide (a ≤ a + b - 18446744073709551616) = false := by simp; omega
    go_enter Try.func28, Try.ntmps28
    go_wp2
    go_ret
    exact ⟨ret_int (by omega), rfl⟩
set_option maxHeartbeats 1000000 in
theorem apart_any (ha : Tt.B a) (hb : Tt.B b) (h : a < b) (w : World) : Calls Try.prog 29 #[.int .i64 a, .int .i64 b] w fun e w' => e = .returned (.int .i64 (min (b - a) 9223372036854775807)) ∧ w = w' := by
  unfold Tt.B at ha hb
  by_cases h : b - a ≤ 9223372036854775807
  · have hw : IntKind.i64.wrap (b - a) = b - a := IntWalk.i64_in _ ⟨by omega, h⟩
    have d : decide (0 < b - a) = true := by simp; omega
    go_enter Try.func29, Try.ntmps29
    go_wp2
    go_ret
    exact ⟨ret_int (by omega), rfl⟩
  · have hw : IntKind.i64.wrap (b - a) = b - a - 18446744073709551616 := Tt.over (by omega) (by omega)
    have d : decide (0 < b - a - 18446744073709551616) = false := by simp; omega
    go_enter Try.func29, Try.ntmps29
    go_wp2
    go_ret
    exact ⟨ret_int (by omega), rfl⟩
set_option maxHeartbeats 1000000 in
theorem expiry_any (ha : Tt.B a) (hb : Tt.B b) (w : World) : Calls Try.prog 12 #[.int .i64 a, .int .i64 b] w fun e w' => e = .returned (.int .i64 (Tt.expiry a b)) ∧ w = w' := by
  unfold Tt.B at hb
  have hs := fun c (hc : 0 ≤ c ∧ c ≤ 9223372036854775807) => sum_any (b := c) ha hc w
  have h0 := hs 0 (by omega)
  unfold Tt.B at ha
  by_cases h : 0 < b
  · have h1 := hs b (by omega)
    go_enter Try.func12, Try.ntmps12
    go_wp2_with (go_at_call 28; refine h1.mono ?_; rintro e w1 ⟨rfl, rfl⟩)
    all_goals (
      go_ret
      refine ⟨ret_int ?_, rfl⟩
      unfold Tt.expiry
      omega)
  · go_enter Try.func12, Try.ntmps12
    go_wp2_with (go_at_call 28; refine h0.mono ?_; rintro e w1 ⟨rfl, rfl⟩)
    all_goals (
      go_ret
      refine ⟨ret_int ?_, rfl⟩
      unfold Tt.expiry
      omega)
set_option maxHeartbeats 1000000 in
theorem rexpiry_any (ha : Tt.B a) (hb : Tt.B b) (w : World) : Calls Try.prog 13 #[.int .i64 a, .int .i64 b] w fun e w' => e = .returned (.int .i64 (Tt.expiry a b)) ∧ w = w' := by
  unfold Tt.B at ha hb
  have hw1 : ∀ c : Int, 0 ≤ c → c ≤ 9223372036854775807 → IntKind.i64.wrap (1099511627776 - c) = 1099511627776 - c := fun c h1 h2 => IntWalk.i64_in _ (by omega)
  have hw2 : ∀ c : Int, 0 ≤ c → c ≤ 9223372036854775807 → a ≤ 1099511627776 - c → IntKind.i64.wrap (a + c) = a + c := fun c h1 h2 h3 => IntWalk.i64_in _ (by omega)
  by_cases h : b < 0
  · by_cases h2 : a ≤ 1099511627776
    · have e1 := hw1 0 (by omega) (by omega)
      have e2 := hw2 0 (by omega) (by omega) (by omega)
      go_enter Try.func13, Try.ntmps13
      go_wp2
      all_goals (
        go_ret
        refine ⟨ret_int ?_, rfl⟩
        unfold Tt.expiry
        omega)
    · have e1 := hw1 0 (by omega) (by omega)
      go_enter Try.func13, Try.ntmps13
      go_wp2
      all_goals (
        go_ret
        refine ⟨ret_int ?_, rfl⟩
        unfold Tt.expiry
        omega)
  · by_cases h2 : a ≤ 1099511627776 - b
    · have e1 := hw1 b (by omega) (by omega)
      have e2 := hw2 b (by omega) (by omega) (by omega)
      go_enter Try.func13, Try.ntmps13
      go_wp2
      all_goals (
        go_ret
        refine ⟨ret_int ?_, rfl⟩
        unfold Tt.expiry
        omega)
    · have e1 := hw1 b (by omega) (by omega)
      go_enter Try.func13, Try.ntmps13
      go_wp2
      all_goals (
        go_ret
        refine ⟨ret_int ?_, rfl⟩
        unfold Tt.expiry
        omega)
set_option maxHeartbeats 1000000 in
theorem left_any (ha : Tt.B a) (hb : Tt.B b) (w : World) : Calls Try.prog 14 #[.int .i64 a, .int .i64 b] w fun e w' => e = .returned (.int .i64 (Tt.left a b)) ∧ w = w' := by
  by_cases h : a ≤ b
  · have d : decide (a ≤ b) = true := by simpa using h
    go_enter Try.func14, Try.ntmps14
    go_wp2
    go_ret
    exact ⟨ret_int (by unfold Tt.left; rw [if_pos h]), rfl⟩
  · have d : decide (a ≤ b) = false := by simpa using h
    have hs := apart_any hb ha (by omega) w
    go_enter Try.func14, Try.ntmps14
    go_wp2_with (go_at_call 29; refine hs.mono ?_; rintro e w1 ⟨rfl, rfl⟩)
    go_ret
    exact ⟨ret_int (by unfold Tt.left; rw [if_neg (by omega)]), rfl⟩
set_option maxHeartbeats 1000000 in
theorem rleft_any (ha : Tt.B a) (hb : Tt.B b) (w : World) : Calls Try.prog 15 #[.int .i64 a, .int .i64 b] w fun e w' => e = .returned (.int .i64 (Tt.left a b)) ∧ w = w' := by
  unfold Tt.B at ha hb
  by_cases h : a ≤ b
  · have d : decide (a ≤ b) = true := by simpa using h
    go_enter Try.func15, Try.ntmps15
    go_wp2
    go_ret
    exact ⟨ret_int (by unfold Tt.left; rw [if_pos h]), rfl⟩
  · have d : decide (a ≤ b) = false := by simpa using h
    by_cases h0 : b < 0
    · have d0 : decide (b < 0) = true := by simpa using h0
      have e1 : IntKind.i64.wrap (b + 9223372036854775807) = b + 9223372036854775807 := IntWalk.i64_in _ (by omega)
      by_cases h1 : b + 9223372036854775807 < a
      · have d1 : decide (b + 9223372036854775807 < a) = true := by simpa using h1
        go_enter Try.func15, Try.ntmps15
        go_wp2
        go_ret
        exact ⟨ret_int (by unfold Tt.left; rw [if_neg (by omega)]; omega), rfl⟩
      · have d1 : decide (b + 9223372036854775807 < a) = false := by simp; omega
        have e2 : IntKind.i64.wrap (a - b) = a - b := IntWalk.i64_in _ (by omega)
        go_enter Try.func15, Try.ntmps15
        go_wp2
        go_ret
        exact ⟨ret_int (by unfold Tt.left; rw [if_neg (by omega)]; omega), rfl⟩
    · have d0 : decide (b < 0) = false := by simpa using h0
      have e2 : IntKind.i64.wrap (a - b) = a - b := IntWalk.i64_in _ (by omega)
      go_enter Try.func15, Try.ntmps15
      go_wp2
      go_ret
      exact ⟨ret_int (by unfold Tt.left; rw [if_neg (by omega)]; omega), rfl⟩
set_option maxHeartbeats 1000000 in
theorem tover_any (ha : Tt.B a) (hb : Tt.B b) (w : World) : Calls Try.prog 18 #[.int .i64 a, .int .i64 b] w fun e w' => e = .returned (.bool (Tt.left a b == 0)) ∧ w = w' := by
  go_enter Try.func18, Try.ntmps18
  go_wp2_with (go_at_call 14; refine (left_any ha hb _).mono ?_; rintro e w1 ⟨rfl, rfl⟩)
  go_ret
  exact ⟨rfl, rfl⟩
end
section
variable {l : List Int} {v : Value} {x : Nat → Prop} {w : World}
set_option maxHeartbeats 2000000 in
theorem slmin_any (h : RK encZ x v l w) (h0 : 0 < l.length) (hl : l.length < 100000) : Calls Try.prog 30 #[v] w fun e w' => e = .returned (.int .i64 (Tt.least l)) ∧ w = w' := by
  obtain ⟨ao, cap, rfl, _, _⟩ := h.form
  obtain ⟨b, off, rfl, c0⟩ := rk_cell h h0
  have d0 : decide ((l.length : Int) < 1) = false := by simp; omega
  have i0 : (0 : Int) < (l.length : Int) := by omega
  have c0' : w.cell? ⟨b, off, none⟩ = some (.int .i64 l[0]) := by simpa using c0
  go_enter Try.func30, Try.ntmps30
  go_wp2
  go_loopw [3, 4] (fun m i wr => ∃ j : Nat, 0 < j ∧ j ≤ l.length ∧ i = .int .i64 (j : Int) ∧ m = .int .i64 (Tt.least (l.take j)) ∧ wr = w) (fun _ i _ => l.length + 1 - (intOf i).toNat)
  case atStart =>
    refine ⟨1, by omega, by omega, rfl, ?_, rfl⟩
    cases l with
    | nil => simp at h0
    | cons x l => rfl
  case round =>
    obtain ⟨j, hj0, hj, rfl, rfl, rfl⟩ := hrel
    by_cases hlt : j < l.length
    · obtain ⟨b2, off2, hab, c1⟩ := rk_cell h hlt
      cases hab
      have d1 : decide ((j : Int) < (l.length : Int)) = true := by simpa using hlt
      have ht := Tt.least_take l j hj0 hlt
      generalize l[j] = z at *
      generalize Tt.least (l.take j) = m at *
      clear c0 c0' i0
      go_wp2
      all_goals (
        go_roundw
        case rel => exact ⟨j + 1, by omega, by omega, by go_num, by rw [ht]; exact congrArg _ (by omega), trivial⟩
        case measure => simp [intOf]; omega)
    · have d1 : decide ((j : Int) < (l.length : Int)) = false := by simp; omega
      have e : l.take j = l := List.take_of_length_le (by omega)
      rw [e]
      go_wp2
      go_ret
      exact ⟨rfl, rfl⟩
set_option maxHeartbeats 2000000 in
theorem least_any (h : RK encZ x v l w) (hl : l.length < 100000) : Calls Try.prog 16 #[v] w fun e w' => e = .returned (.int .i64 (Tt.least l)) ∧ w = w' := by
  obtain ⟨ao, cap, rfl, _, _⟩ := h.form
  by_cases h0 : l.length = 0
  · have d0 : ((l.length : Int) == 0) = true := by simp [h0]
    have e := List.length_eq_zero_iff.1 h0
    go_enter Try.func16, Try.ntmps16
    go_wp2
    go_ret
    exact ⟨by rw [e]; rfl, rfl⟩
  · have d0 : ((l.length : Int) == 0) = false := by rw [beq_eq_false_iff_ne]; omega
    have hm := slmin_any h (by omega) hl
    go_enter Try.func16, Try.ntmps16
    go_wp2_with (go_at_call 30; refine hm.mono ?_; rintro e w1 ⟨rfl, rfl⟩)
    go_ret
    exact ⟨rfl, rfl⟩
set_option maxHeartbeats 2000000 in
theorem rleast_any (h : RK encZ x v l w) (hl : l.length < 100000) : Calls Try.prog 17 #[v] w fun e w' => e = .returned (.int .i64 (Tt.least l)) ∧ w = w' := by
  obtain ⟨ao, cap, rfl, _, _⟩ := h.form
  by_cases h0 : l.length = 0
  · have d0 : ((l.length : Int) == 0) = true := by simp [h0]
    have e := List.length_eq_zero_iff.1 h0
    go_enter Try.func17, Try.ntmps17
    go_wp2
    go_ret
    exact ⟨by rw [e]; rfl, rfl⟩
  · have d0 : ((l.length : Int) == 0) = false := by rw [beq_eq_false_iff_ne]; omega
    have h0 : 0 < l.length := by omega
    obtain ⟨b, off, rfl, c0⟩ := rk_cell h h0
    have i0 : (0 : Int) < (l.length : Int) := by omega
    have c0' : w.cell? ⟨b, off, none⟩ = some (.int .i64 l[0]) := by simpa using c0
    go_enter Try.func17, Try.ntmps17
    go_wp2
    go_loopw [3, 4] (fun m i wr => ∃ j : Nat, 0 < j ∧ j ≤ l.length ∧ i = .int .i64 (j : Int) ∧ m = .int .i64 (Tt.least (l.take j)) ∧ wr = w) (fun _ i _ => l.length + 1 - (intOf i).toNat)
    case atStart =>
      refine ⟨1, by omega, by omega, rfl, ?_, rfl⟩
      cases l with
      | nil => simp at h0
      | cons x l => rfl
    case round =>
      obtain ⟨j, hj0, hj, rfl, rfl, rfl⟩ := hrel
      by_cases hlt : j < l.length
      · obtain ⟨b2, off2, hab, c1⟩ := rk_cell h hlt
        cases hab
        have d1 : decide ((j : Int) < (l.length : Int)) = true := by simpa using hlt
        have ht := Tt.least_take l j hj0 hlt
        generalize l[j] = z at *
        generalize Tt.least (l.take j) = m at *
        clear c0 c0' i0
        go_wp2
        all_goals (
          go_roundw
          case rel => exact ⟨j + 1, by omega, by omega, by go_num, by rw [ht]; exact congrArg _ (by omega), trivial⟩
          case measure => simp [intOf]; omega)
      · have d1 : decide ((j : Int) < (l.length : Int)) = false := by simp; omega
        have e : l.take j = l := List.take_of_length_le (by omega)
        rw [e]
        go_wp2
        go_ret
        exact ⟨rfl, rfl⟩
end
end Go.Proofs.Ytchlemajppnehaa

/- Package ttl: Negative, and awake. -/
set_option maxRecDepth 100000
namespace Go.Proofs.Ytchlemajppnehaa
open Go Go.RowKit Go.Shelf
/-- A literal of several, read. -/
theorem RK.litT {α : Type} {enc : α → List Value} (l : List α) (t : TypeId) (W : World) (n : Nat) (hn : n = W.heap.size) (cs : Array Value) (hc : cs = (l.flatMap enc).toArray) (m : Nat) (hm : m = l.length) : RK enc (fun k => k = n) (.slice (some ⟨n, 0, none⟩) m m) l (W.alloc (.cells cs t)) := by
  subst hn hc hm
  refine ⟨some ⟨W.heap.size, 0, none⟩, l.length, rfl, Nat.le_refl _, fun j u hu => ⟨W.heap.size, 0, rfl, rfl, ?_⟩⟩
  rw [Nat.zero_add]
  exact (show Blk (W.alloc (.cells (l.flatMap enc).toArray t)) W.heap.size (l.flatMap enc) t from Blk.new W _ t).cell hu
section
variable {a b c : Int} {w : World}
set_option maxHeartbeats 1000000 in
theorem negative_any (a b c : Int) (w : World) : Calls Try.prog 19 #[.int .i64 a, .int .i64 b, .int .i64 c] w fun e w' => e = .returned (.int .i64 (Tt.cap (min a b) c)) ∧ Below w.heap.size w w' := by
  have r := RK.litT (enc := encZ) [a, b] 3 w _ rfl #[.int .i64 a, .int .i64 b] rfl 2 rfl
  have hb : Below w.heap.size w (w.alloc (.cells #[.int .i64 a, .int .i64 b] 3)) := (Below.refl _ _).alloc (Nat.le_refl _) _
  go_enter Try.func19, Try.ntmps19
  go_wp2_with fail
  refine (least_any r (by simp)).mono ?_
  rintro e w1 ⟨rfl, rfl⟩
  go_wp2_with fail
  refine (cap_any _ _ _).mono ?_
  rintro e w1 ⟨rfl, rfl⟩
  go_wp2
  go_ret
  exact ⟨rfl, hb⟩
set_option maxHeartbeats 1000000 in
theorem rnegative_any (a b c : Int) (w : World) : Calls Try.prog 20 #[.int .i64 a, .int .i64 b, .int .i64 c] w fun e w' => e = .returned (.int .i64 (Tt.cap (min a b) c)) ∧ w = w' := by
  go_enter Try.func20, Try.ntmps20
  go_wp2_with (go_at_call 11; refine (rcap_any _ _ _).mono ?_; rintro e w1 ⟨rfl, rfl⟩)
  all_goals (
    go_ret
    exact ⟨ret_int (by unfold Tt.cap; omega), rfl⟩)
set_option maxHeartbeats 4000000 in
theorem awake11_any (w : World) : Calls Try.prog 9 #[] w fun e w' => e = .returned (.bool true) ∧ Below w.heap.size w w' := by
  have r3 := RK.litT (enc := encZ) [3, 1, 2] 3 w _ rfl #[.int .i64 3, .int .i64 1, .int .i64 2] rfl 3 rfl
  have hb : Below w.heap.size w (w.alloc (.cells #[.int .i64 3, .int .i64 1, .int .i64 2] 3)) := (Below.refl _ _).alloc (Nat.le_refl _) _
  have b0 : ∀ z : Int, -5000000000000 ≤ z → z ≤ 5000000000000 → Tt.B z := fun z h1 h2 => ⟨by omega, by omega⟩
  have C1 := cap_any 10 5 w
  have C2 := cap_any (-1) 5 w
  have E1 := expiry_any (b0 4 (by decide) (by decide)) (b0 6 (by decide) (by decide)) w
  have E2 := expiry_any (b0 1099511627776 (by decide) (by decide)) (b0 5 (by decide) (by decide)) w
  have L1 := left_any (b0 10 (by decide) (by decide)) (b0 4 (by decide) (by decide)) w
  have L2 := left_any (b0 4 (by decide) (by decide)) (b0 10 (by decide) (by decide)) w
  rw [show Tt.cap 10 5 = 5 by decide] at C1
  rw [show Tt.cap (-1) 5 = 0 by decide] at C2
  rw [show Tt.expiry 4 6 = 10 by decide] at E1
  rw [show Tt.expiry 1099511627776 5 = 1099511627776 by decide] at E2
  rw [show Tt.left 10 4 = 6 by decide] at L1
  rw [show Tt.left 4 10 = 0 by decide] at L2
  go_enter Try.func9, Try.ntmps9
  go_wp2_with fail
  refine C1.mono ?_
  rintro e w1 ⟨rfl, rfl⟩
  go_wp2_with fail
  refine C2.mono ?_
  rintro e w1 ⟨rfl, rfl⟩
  go_wp2_with fail
  refine E1.mono ?_
  rintro e w1 ⟨rfl, rfl⟩
  go_wp2_with fail
  refine E2.mono ?_
  rintro e w1 ⟨rfl, rfl⟩
  go_wp2_with fail
  refine L1.mono ?_
  rintro e w1 ⟨rfl, rfl⟩
  go_wp2_with fail
  refine L2.mono ?_
  rintro e w1 ⟨rfl, rfl⟩
  clear C1 C2 E1 E2 L1 L2
  go_wp2_with fail
  generalize w.alloc (.cells #[.int .i64 3, .int .i64 1, .int .i64 2] 3) = W1 at *
  have R1 := least_any r3 (by decide)
  rw [show Tt.least [3, 1, 2] = 1 by decide] at R1
  refine R1.mono ?_
  rintro e w1 ⟨rfl, rfl⟩
  clear R1 r3
  go_wp2_with fail
  have R2 := least_any (RK.nil encZ (fun _ => True) W1) (by decide)
  rw [show Tt.least [] = 0 by decide] at R2
  refine R2.mono ?_
  rintro e w1 ⟨rfl, rfl⟩
  clear R2
  have O1 := tover_any (b0 4 (by decide) (by decide)) (b0 4 (by decide) (by decide)) W1
  have O2 := tover_any (b0 5 (by decide) (by decide)) (b0 4 (by decide) (by decide)) W1
  rw [show (Tt.left 4 4 == 0) = true by decide] at O1
  rw [show (Tt.left 5 4 == 0) = false by decide] at O2
  go_wp2_with fail
  refine O1.mono ?_
  rintro e w1 ⟨rfl, rfl⟩
  go_wp2_with fail
  refine O2.mono ?_
  rintro e w1 ⟨rfl, rfl⟩
  clear O1 O2
  have N1 := negative_any 60 30 20 W1
  rw [show Tt.cap (min 60 30) 20 = 20 by decide] at N1
  go_wp2_with fail
  refine N1.mono ?_
  rintro e w2 ⟨rfl, b2⟩
  go_wp2
  go_ret
  exact ⟨rfl, below_trans hb b2⟩
end
end Go.Proofs.Ytchlemajppnehaa
