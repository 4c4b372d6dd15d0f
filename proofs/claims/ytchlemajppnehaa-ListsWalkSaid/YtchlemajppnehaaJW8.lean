/- 5 texts put together: SeqW, Llrj, Llrk, Llrl, Llrm. -/
import Derived.TacticsInMore
import Derived.LoopNIn
import Derived.RecoverIn
import Derived.RangeFuncNested
import Derived.RangeFuncBound
import Derived.RangeFuncCalls
import Derived.Shelf.Abstract
import Derived.Shelf.RegionOpen
import Derived.LoopIn
import Derived.Test.YtchlemajppnehaaJW7
/- A range over a function that walks a structure of its own, and whose body may change that structure: the structure's state goes from round to round. -/
namespace Go.Proofs.Ytchlemajppnehaa
open Go Go.RowKit
variable {F : Fence} {n : Nat} {P : Program} {α σ τ : Type}
/-- The contract of an iterator that walks: V: the structure at rest; U t R: it is walked by t, and R is still to be told; Mv: what the iterator itself does between the rounds; T: what it tells. -/
def SeqW (F : Fence) (n : Nat) (P : Program) (g : Nat) (lb : Array Value) (encs : α → Array Value) (V : σ → World → Prop) (U : τ → List α → σ → World → Prop) (Mv : σ → World → σ → World → Prop) (T : List α) (s0 : σ) : Prop :=
  ∀ (l : Nat) (C Cx : List α → σ → World → Prop) (W : World), V s0 W → (∀ pre s s' W W', C pre s W → Mv s W s' W' → C pre s' W') → (∀ pre s s' W W', Cx pre s W → Mv s W s' W' → Cx pre s' W') → C [] s0 W →
    (∀ t pre x R s W1, pre ++ x :: R = T → U t R s W1 → C pre s W1 → YieldAt F (n - 1) P l (encs x) W1 fun e W' =>
      (e = .returned (.bool true) ∧ ∃ s', U t R s' W' ∧ C (pre ++ [x]) s' W') ∨ (e = .returned (.bool false) ∧ ∃ s', U t R s' W' ∧ Cx (pre ++ [x]) s' W')) →
    CallsIn F n P g (#[.func (.yield l) #[] #[]] ++ lb) W fun e W' => (∃ v, e = .returned v) ∧ ∃ s, V s W' ∧ (C T s W' ∨ ∃ pre, pre <+: T ∧ Cx pre s W')
def postW (B : Nat) (U : List α → σ → World → Prop) (I : List α → σ → World → Prop) (Ix : Code → List α → σ → World → Prop) (xs R : List α) (W : World) : Exit → Act → World → Prop
  | .normal, _, W' => KeepsBk B W W' ∧ ∃ s, U R s W' ∧ I xs s W'
  | .ret, _, W' => KeepsBk B W W' ∧ ∃ s, U R s W' ∧ Ix .ret xs s W'
  | .exit id, _, W' => KeepsBk B W W' ∧ ∃ s, U R s W' ∧ Ix (.exit id) xs s W'
  | .goto t, _, W' => KeepsBk B W W' ∧ ∃ s, U R s W' ∧ Ix (.goto t) xs s W'
  | .panic _, _, _ => False
  | .outgrown, _, _ => False
/-- It abides what becomes of book-keeping. -/
def BookOk {σ : Type} (V : σ → World → Prop) : Prop := ∀ s W l o o', V s W → W.heap[l]? = some o → isBook o = true → V s (W.putObj l o')
theorem wpIn_rangeFunc_W {g : Operand} {ps : Array Tmp} {assign body : Code} {Q : Exit → Act → World → Prop} {a : Act} {w : World}
    (hro : F.round = none) (h1 : 1 ≤ n) {gf : Nat} {lb : Array Value} (hg : a.eval g = .func (.func gf) #[] lb) (hFg : F.fn gf) (eg : ∀ args w, (callFunc gf args).run P w = .ok (.enter gf args) w)
    {encs : α → Array Value} {V : σ → World → Prop} {U : τ → List α → σ → World → Prop} {Mv : σ → World → σ → World → Prop} {T : List α} {s0 : σ} (hseq : SeqW F (n - 1) P gf lb encs V U Mv T s0)
    (hVa : ∀ s W o, V s W → V s (W.alloc o)) (hVb : BookOk V) (hUb : ∀ t R, BookOk (U t R)) (hMb : ∀ s W s' W', Mv s W s' W' → ∀ (k : Nat) (o : Obj), W.heap[k]? = some o → isBook o = true → W'.heap[k]? = some o) (hps : ∀ x, (encs x).size = ps.size)
    (I : List α → σ → World → Prop) (Ix : Code → List α → σ → World → Prop) (hI : ∀ s, OwnBk w.heap.size (fun pre W => I pre s W)) (hIx : ∀ c s, OwnBk w.heap.size (fun pre W => Ix c pre s W))
    (hIm : ∀ pre s s' W W', I pre s W → Mv s W s' W' → I pre s' W') (hIxm : ∀ c pre s s' W W', Ix c pre s W → Mv s W s' W' → Ix c pre s' W') (hV0 : V s0 w) (h0 : I [] s0 w) (a₁ : α → Act)
    (hassign : ∀ (l : Nat) (x : α) (W : World) (K : Act → World → Prop), K (a₁ x) W →
      assign.wpIn (F.inRound l) (n - 1 - 1) P (Exit.then K (fun _ _ _ => False)) { tmps := (ps.zip (encs x)).foldl (fun t (p, v) => t.setIfInBounds p v) a.tmps, defers := [] } W)
    (hbody : ∀ (l : Nat) (t : τ) (pre : List α) (x : α) (R : List α) (s : σ) (W : World), pre ++ x :: R = T → U t R s W → I pre s W → body.wpIn (F.inRound l) (n - 1 - 1) P (postW w.heap.size (U t) I Ix (pre ++ [x]) R W) (a₁ x) W)
    (hdone : ∀ (D : Nat) (s : σ) (W : World), w.heap.size ≤ D → V s W → I T s W → W.heap[D]? = some (.deferred (some [])) → Q .normal { a with defers := { target := .collected D, args := #[] } :: a.defers } W)
    (hstop : ∀ (D : Nat) (c : Code) (pre : List α) (s : σ) (W : World), w.heap.size ≤ D → pre <+: T → V s W → Ix c pre s W → W.heap[D]? = some (.deferred (some [])) → c.wpIn F n P Q { a with defers := { target := .collected D, args := #[] } :: a.defers } W) :
    (Code.rangeFunc g ps assign body).wpIn F n P Q a w := by
  refine wpIn_rangeFunc ?_
  intro fn hfn
  rw [hro]
  obtain ⟨rec, hrec⟩ : ∃ rec : LoopState → Option Code → Loop, rec = fun st pe => { state := st, pending := pe, fn, tmps := a.tmps, params := ps, assign, body, defers := w.heap.size } := ⟨_, rfl⟩
  obtain ⟨W1, hW1⟩ : ∃ W1, (w.alloc (.deferred (some []))).alloc (.loop (rec .ready none)) = W1 := ⟨_, rfl⟩
  have hsz1 : W1.heap.size = w.heap.size + 2 := by rw [← hW1]; simp
  have hL1 : W1.heap[w.heap.size + 1]? = some (.loop (rec .ready none)) := by
    rw [← hW1]; have := World.alloc_heap_new (w.alloc (.deferred (some []))) (.loop (rec .ready none)); rwa [World.size_alloc] at this
  have hK1 : W1.heap[w.heap.size]? = some (.deferred (some [])) := by
    rw [← hW1]; exact (Below.heap_alloc _ _ _ (by simp)).trans (World.alloc_heap_new w _)
  have hI1 : I [] s0 W1 := by rw [← hW1]; exact (hI s0).alloc (I := fun pre W => I pre s0 W) _ ((hI s0).alloc (I := fun pre W => I pre s0 W) _ h0)
  have hV1 : V s0 W1 := by rw [← hW1]; exact hVa _ _ _ (hVa _ _ _ hV0)
  refine ⟨w.heap.size + 1, [{ target := .collected w.heap.size, args := #[] }], W1, { target := .fn (.func gf) lb, args := #[.func (.yield (w.heap.size + 1)) #[] #[]] }, W1, gf,
    #[.func (.yield (w.heap.size + 1)) #[] #[]] ++ lb, W1, ?_, ?_, ?_, ?_, fun _ => h1, ?_⟩
  · rw [← hW1, hrec]; exact run_enterLoop_outer _ _ _ _ _
  · simp only [resolve, hg]
    simp [go_sem]
  · intro f' hf'; simp [Target.leads] at hf'; subst hf'; exact hFg
  · simp [invoke, go_sem, eg]
  · refine (hseq (w.heap.size + 1)
      (fun pre s W => I pre s W ∧ W.heap[w.heap.size + 1]? = some (.loop (rec .ready none)) ∧ W.heap[w.heap.size]? = some (.deferred (some [])))
      (fun pre s W => ∃ c, Ix c pre s W ∧ W.heap[w.heap.size + 1]? = some (.loop (rec .done (some c))) ∧ W.heap[w.heap.size]? = some (.deferred (some [])))
      W1 hV1
      (fun pre s s' A B hs hm => ⟨hIm pre s s' A B hs.1 hm, hMb _ _ _ _ hm _ _ hs.2.1 rfl, hMb _ _ _ _ hm _ _ hs.2.2 rfl⟩)
      (fun pre s s' A B hs hm => by
        obtain ⟨c, hc, hl, hk⟩ := hs
        exact ⟨c, hIxm c pre s s' A B hc hm, hMb _ _ _ _ hm _ _ hl rfl, hMb _ _ _ _ hm _ _ hk rfl⟩)
      ⟨hI1, hL1, hK1⟩ ?_).mono ?_
    · rintro tk pre x R s W hT hU ⟨hi, hl, hk⟩
      have hlt : w.heap.size + 1 < W.heap.size := (Array.getElem?_eq_some_iff.1 hl).1
      have hy := run_yield (P := P) (args := encs x) hl (by rw [hrec]; exact hps x)
      rw [hrec] at hy
      refine ⟨fn, _, assign, body, hy, roundIn_of_wpIn hfn (hassign _ x W _ ?_)⟩
      clear hy
      refine ⟨_, run_beginRound hl (by rw [hrec]), ?_⟩
      have hl2 : (W.putObj (w.heap.size + 1) (.loop { rec .ready none with state := .busy })).heap[w.heap.size + 1]? = some (.loop { rec .ready none with state := .busy }) := World.putObj_heap_same hlt
      have hk2 : (W.putObj (w.heap.size + 1) (.loop { rec .ready none with state := .busy })).heap[w.heap.size]? = some (.deferred (some [])) := (World.putObj_heap_other (by omega)).trans hk
      refine wpIn_mono (hbody _ tk pre x R s _ hT (hUb tk R s _ _ _ _ hU hl rfl) ((hI s).putObj (I := fun pre W => I pre s W) _ hi (by omega) hl rfl)) ?_
      have fin : ∀ (jump : Option Code) (W3 : World), KeepsBk w.heap.size (W.putObj (w.heap.size + 1) (.loop { rec .ready none with state := .busy })) W3 →
          (Instr.endRound (w.heap.size + 1) jump).run P W3 = .ok (.bool jump.isNone) (W3.putObj (w.heap.size + 1) (.loop (rec (if jump.isNone then .ready else .done) jump))) ∧
          W3.heap[w.heap.size + 1]? = some (.loop { rec .ready none with state := .busy }) ∧
          (W3.putObj (w.heap.size + 1) (.loop (rec (if jump.isNone then .ready else .done) jump))).heap[w.heap.size + 1]? = some (.loop (rec (if jump.isNone then .ready else .done) jump)) ∧
          (W3.putObj (w.heap.size + 1) (.loop (rec (if jump.isNone then .ready else .done) jump))).heap[w.heap.size]? = some (.deferred (some [])) := fun jump W3 hk3 => by
        have hl3 := hk3.same _ _ (by omega) hl2 rfl
        have := run_endRound (P := P) jump hl3
        rw [hrec] at this ⊢
        exact ⟨this, by rw [hrec] at hl3; exact hl3, World.putObj_heap_same (Array.getElem?_eq_some_iff.1 hl3).1, (World.putObj_heap_other (by omega)).trans (hk3.same _ _ (Nat.le_refl _) hk2 rfl)⟩
      rintro e a3 W3 hp
      cases e with
      | normal =>
        obtain ⟨hk3, s3, hU3, hi3⟩ := hp
        obtain ⟨hr, hl3, hl4, hk4⟩ := fin none W3 hk3
        exact ⟨_, _, hr, .inl ⟨rfl, s3, hUb tk R s3 _ _ _ _ hU3 hl3 rfl, (hI s3).putObj (I := fun pre W => I pre s3 W) _ hi3 (by omega) hl3 rfl, hl4, hk4⟩⟩
      | ret =>
        obtain ⟨hk3, s3, hU3, hi3⟩ := hp
        obtain ⟨hr, hl3, hl4, hk4⟩ := fin (some .ret) W3 hk3
        exact ⟨_, _, hr, .inr ⟨rfl, s3, hUb tk R s3 _ _ _ _ hU3 hl3 rfl, .ret, (hIx _ s3).putObj (I := fun pre W => Ix _ pre s3 W) _ hi3 (by omega) hl3 rfl, hl4, hk4⟩⟩
      | exit id =>
        obtain ⟨hk3, s3, hU3, hi3⟩ := hp
        obtain ⟨hr, hl3, hl4, hk4⟩ := fin (some (.exit id)) W3 hk3
        exact ⟨_, _, hr, .inr ⟨rfl, s3, hUb tk R s3 _ _ _ _ hU3 hl3 rfl, .exit id, (hIx _ s3).putObj (I := fun pre W => Ix _ pre s3 W) _ hi3 (by omega) hl3 rfl, hl4, hk4⟩⟩
      | goto t =>
        obtain ⟨hk3, s3, hU3, hi3⟩ := hp
        obtain ⟨hr, hl3, hl4, hk4⟩ := fin (some (.goto t)) W3 hk3
        exact ⟨_, _, hr, .inr ⟨rfl, s3, hUb tk R s3 _ _ _ _ hU3 hl3 rfl, .goto t, (hIx _ s3).putObj (I := fun pre W => Ix _ pre s3 W) _ hi3 (by omega) hl3 rfl, hl4, hk4⟩⟩
      | panic ch => exact hp.elim
      | outgrown => exact hp.elim
    · rintro e W2 ⟨⟨v, rfl⟩, s2, hV2, (⟨hi, hl, hk⟩ | ⟨pre, hpre, c, hi, hl, hk⟩)⟩
      · exact ⟨none, _, by have := run_endLoop (P := P) hl (by rw [hrec]; simp); rw [hrec] at this; exact this, hdone _ s2 _ (Nat.le_refl _) (hVb s2 _ _ _ _ hV2 hl rfl) ((hI s2).putObj (I := fun pre W => I pre s2 W) _ hi (by omega) hl rfl) ((World.putObj_heap_other (by omega)).trans hk)⟩
      · exact ⟨some c, _, by have := run_endLoop (P := P) hl (by rw [hrec]; simp); rw [hrec] at this; exact this, hstop _ c pre s2 _ (Nat.le_refl _) hpre (hVb s2 _ _ _ _ hV2 hl rfl) ((hIx c s2).putObj (I := fun pre W => Ix c pre s2 W) _ hi (by omega) hl rfl) ((World.putObj_heap_other (by omega)).trans hk)⟩
end Go.Proofs.Ytchlemajppnehaa

/- An LRU's walk: its making, and its end. -/
set_option maxRecDepth 100000
namespace Go.Proofs.Ytchlemajppnehaa
open Go Go.RowKit Go.Shelf Go.Maps
theorem two_blks (W : World) (a b : Value) : Blk ((W.alloc (.cells #[a] 3)).alloc (.cells #[b] 3)).drew W.heap.size [a] 3 ∧ Blk ((W.alloc (.cells #[a] 3)).alloc (.cells #[b] 3)).drew (W.heap.size + 1) [b] 3 := by
  have h1 := (Blk.new W [a] 3).alloc (.cells #[b] 3)
  have h2 := Blk.new (W.alloc (.cells #[a] 3)) [b] 3
  rw [World.size_alloc] at h2
  exact ⟨h1, h2⟩
section
variable {X : Nat} {S : Lr.St} {L : TL} {wv : Value} {w w' : World} {p q : List Nat} {N lb cb ab j : Nat}
set_option maxHeartbeats 2000000 in
theorem lsteps_any (h : LruE X S L wv w) (hI : Lr.InvF S p q [] N) (hN : N < 90000) :
    Calls Try.prog 82 #[.pointer (some ⟨X, 0, none⟩)] w fun e w' => ∃ lb cb ab, e = .returned (.func (.func 90) #[] #[.pointer (some ⟨lb, 0, none⟩), .pointer (some ⟨cb, 0, none⟩), .pointer (some ⟨ab, 0, none⟩)]) ∧
      StepE X lb cb ab (p ++ q) 0 w' ∧ Below w.heap.size w w' ∧ w.heap.size ≤ lb ∧ w.heap.size ≤ cb ∧ w.heap.size ≤ ab := by
  obtain ⟨q0, q1, q2, q3, q4⟩ := h.cells
  rw [hI.cnt0] at q1
  rw [hI.cnt1] at q2
  have hbd := hI.bounds
  have hln := hI.len
  unfold encI at q1 q2
  have hX : X < w.heap.size := by obtain ⟨bx, ht, _⟩ := h.ex; exact ht.box.lt
  go_enter Try.func82, Try.ntmps82
  have B0 := Blk.new w [.pointer (some ⟨X, 0, none⟩)] 44
  have hb0 : Below w.heap.size w (w.alloc (.cells #[.pointer (some ⟨X, 0, none⟩)] 44)) := (Below.refl _ _).alloc (Nat.le_refl _) _
  replace q1 := (hb0.cell (p := ⟨X, 1, none⟩) hX).trans q1
  replace q2 := (hb0.cell (p := ⟨X, 2, none⟩) hX).trans q2
  go_wp2
  have hsz : (w.alloc (.cells #[.pointer (some ⟨X, 0, none⟩)] 44)).heap.size = w.heap.size + 1 := by simp
  generalize w.alloc (.cells #[.pointer (some ⟨X, 0, none⟩)] 44) = W2 at *
  generalize hn0 : w.heap.size = n0 at *
  have k0 := B0.cell (i := 0) rfl
  have A1 : ∀ (o : Obj) (b i : Nat), b < W2.heap.size → (W2.alloc o).cell? ⟨b, i, none⟩ = W2.cell? ⟨b, i, none⟩ := fun o b i hb => cell_same (Below.heap_alloc W2 o b hb) i
  have A2 : ∀ (o o' : Obj) (b i : Nat), b < W2.heap.size → ((W2.alloc o).alloc o').cell? ⟨b, i, none⟩ = W2.cell? ⟨b, i, none⟩ := fun o o' b i hb => (cell_same (Below.heap_alloc _ o' b (by simp; omega)) i).trans (A1 o b i hb)
  have X1 := fun o => A1 o X 1 (by omega)
  have X2 := fun o => A1 o X 2 (by omega)
  have X3 := fun o => A1 o n0 0 (by omega)
  have Y1 := fun o o' => A2 o o' X 1 (by omega)
  have Y2 := fun o o' => A2 o o' X 2 (by omega)
  have Y3 := fun o o' => A2 o o' n0 0 (by omega)
  have HS := Lib.hid hsz
  clear A1 A2 hsz
  go_region
  all_goals
    go_wp2
    go_ret
    have hs := HS.out
    have hbl : ∀ a b, Below n0 w ((W2.alloc (.cells #[a] 3)).alloc (.cells #[b] 3)).drew := fun a b => (((hb0.alloc (by omega) _).alloc (by simp; omega) _).trans ⟨rfl, rfl, rfl, Nat.le_refl _, fun _ _ => rfl⟩)
    have hlen : (((p ++ q).length - 0 : Nat) : Int) = (p.length : Int) + (q.length : Int) := by rw [Nat.sub_zero, List.length_append]; omega
    have hcur : ((Lr.cur (p ++ q) 0 : Nat) : Int) = 1 := rfl
  · obtain ⟨t1, t2⟩ := two_blks W2 (.int .i64 1) (.int .i64 ((p.length : Int) + (q.length : Int)))
    exact ⟨_, _, _, rfl, ⟨by rw [hlen]; exact t2, by rw [hcur]; exact t1, (B0.alloc _).alloc _, by omega⟩, by rw [hn0]; exact hbl _ _, by omega, by omega, by omega⟩
  · obtain ⟨t1, t2⟩ := two_blks W2 (.int .i64 ((p.length : Int) + (q.length : Int))) (.int .i64 1)
    exact ⟨_, _, _, rfl, ⟨by rw [hlen]; exact t1, by rw [hcur]; exact t2, (B0.alloc _).alloc _, by omega⟩, by rw [hn0]; exact hbl _ _, by omega, by omega, by omega⟩
end
end Go.Proofs.Ytchlemajppnehaa

/- An LRU's walk: its end. -/
set_option maxRecDepth 100000
namespace Go.Proofs.Ytchlemajppnehaa
open Go Go.RowKit Go.Shelf Go.Maps
def encW (x : Nat) : List Value := [.pointer (some ⟨x, 0, none⟩)]
theorem encW_len (x : Nat) : (encW x).length = 1 := rfl
theorem encW_one (x : Nat) : ∀ u ∈ encW x, u.oneCell' = true := by intro u hu; simp [encW] at hu; subst hu; rfl
theorem infoW : (Try.prog.info? 105).map (fun i => (i.zero, i.size, i.bytes)) = some (some (.pointer none), 1, 8) := by kernel_rfl
theorem run_take1 {t e : TypeId} {z : Value} {bytes : Nat} (h1 : Try.prog.underlying t = some (.slice e)) (h2 : (Try.prog.info? e).map (fun i => (i.zero, i.size, i.bytes)) = some (some z, 1, bytes)) (G n c m : Nat) (hm : m ≤ n) (hn : n ≤ c) (W : World) :
    (Instr.slice t (.slice (some ⟨G, 0, none⟩) n c) none (some (.int .i64 (m : Int))) none).run Try.prog W = .ok (.slice (some ⟨G, 0, none⟩) m c) W := by
  have he : Try.prog.elem t = e := by simp [Program.elem, h1]
  have hs : (sizeOf (Try.prog.elem t)).run Try.prog W = .ok 1 W := by
    rw [he]
    obtain ⟨i, hi, _, h1, _⟩ := info_parts h2
    simp [sizeOf, typeInfo, hi, h1]
  rw [run_slice_h (w := W) t (some ⟨G, 0, none⟩) n c (by rw [he]; exact h1) .i64 (m : Int) (by omega) (by omega), hs]
  simp [sliced, Result.andThen, Addr.add]
theorem own_nil_set {α : Type} {enc : α → List Value} {k : Nat} {e : TypeId} {base g c : Nat} {W : World} (h : OwnK enc k e base (.slice (some ⟨g, 0, none⟩) 0 c) [] W) (i : Nat) (u : Value) : OwnK enc k e base (.slice (some ⟨g, 0, none⟩) 0 c) [] (W.setCell ⟨g, i, none⟩ u) := by
  have h1 := h.1
  rcases h.2 with ⟨e1, _⟩ | ⟨g', cap, cur, e1, hb, hg, hn, hc, hs, ht⟩
  · cases e1
  · cases e1
    have hblk : Blk W g cur.toList e := by show W.heap[g]? = some (.cells cur.toList.toArray e (0, 0)); rw [hg]
    have hset := hblk.set i u
    exact ⟨h1, .inr ⟨g, c, _, rfl, hb, hset, hn, hc, by rw [List.size_toArray, List.length_set, Array.length_toList]; exact hs, by simp⟩⟩
section
variable {X : Nat} {S : Lr.St} {L : TL} {wv : Value} {w w' : World} {p q : List Nat} {N lb cb ab j g cap xb m : Nat}
theorem qEq (d : Nat) {t e : TypeId} (h : Try.prog.underlying t = some (.pointer e)) (hs : ∀ w : World, (sizeOf e).run Try.prog w = .ok 1 w) (w : World) (a : Nat) : (Op.equalIn (d + 1) t (.pointer (some ⟨a, 0, none⟩)) (.pointer (some ⟨a, 0, none⟩))).run Try.prog w = .ok true w := by
  simp [Op.equalIn, run_underlying h, hs, Result.andThen, sameAddr]
theorem qWalk (w : World) (a : Nat) : (binOp .eql 105 (.pointer (some ⟨a, 0, none⟩)) (.pointer (some ⟨a, 0, none⟩))).run Try.prog w = .ok (.bool true) w := by
  have h := qEq 9999 Try.underlying105 Try.sizeOf109 w a
  have h : (Op.equal 105 (.pointer (some ⟨a, 0, none⟩)) (.pointer (some ⟨a, 0, none⟩))).run Try.prog w = .ok true w := h
  simp only [binOp]
  simp [h]
set_option maxHeartbeats 2000000 in
theorem lend1 (h : LruE X S L (.slice (some ⟨g, 0, none⟩) 1 cap) w) (ho : OwnK encW 1 105 0 (.slice (some ⟨g, 0, none⟩) 1 cap) [xb] w) (hX : X ≠ g) (hM : L.M ≠ g) (hR : L.R ≠ g) (hs : L.sv.ownBlock ≠ some g) :
    CallsDIn Fence.wide m Try.prog 89 #[.pointer (some ⟨X, 6, none⟩), .pointer (some ⟨xb, 0, none⟩)] .returning w fun e u' w' => u' = .returning ∧ e = .returned (.tuple #[]) ∧ LruE X S L (.slice (some ⟨g, 0, none⟩) 0 cap) w' ∧
      OwnK encW 1 105 0 (.slice (some ⟨g, 0, none⟩) 0 cap) [] w' ∧ Trn (fun b => b = X ∨ b = g) w w' := by
  obtain ⟨_, _, _, q6, qf⟩ := h.cells
  have kk := ownK_cell encW_len ho (j := 0) (i := 0) (by simp) (by omega)
  simp [encW] at kk
  have kf := fun i => World.ownsRow.frozenAt ho i
  have hcap := (own_cap ho).2
  have hX' : ¬ g = X := fun e => hX e.symm
  have qq := qWalk
  refine callsDIn_of_wp Try.func89 rfl trivial (wpIn_wide.2 ?_) rfl
  simp only [Try.ntmps89, List.size_toArray, List.length_cons, List.length_nil, Nat.reduceAdd, Nat.reduceSub, Array.replicate_succ, Array.replicate_zero, List.push_toArray, List.append_toArray, List.nil_append, List.cons_append]
  go_wp2
  refine wp_loop_rounds 1 ?_
  rw [rounds_succ]
  have hsl := run_take1 Try.underlying85 infoW g 1 cap 0 (by omega) (by simpa using hcap.1)
  simp only [Int.ofNat_zero] at hsl
  go_wp2
  go_region
  go_wp2
  refine bodyPost_ret (results_none rfl _ _ _) rfl ?_
  have o1 := own_nil_set (own_nil_set (ownK_take encW_len ho 0 (by simp)) 0 (.pointer (some ⟨xb, 0, none⟩))) 0 (.pointer none)
  obtain ⟨d, hd⟩ := own_blk ho
  have t1 : Trn (fun b => b = X ∨ b = g) w (w.setCell ⟨g, 0, none⟩ (.pointer (some ⟨xb, 0, none⟩))) := Trn.set hd (.inr rfl) 0 _
  have t2 := t1.trans (Trn.set (f := grow (fun b => b = X ∨ b = g) w _) (hd.set 0 (.pointer (some ⟨xb, 0, none⟩))) (.inl (.inr rfl)) 0 (.pointer none))
  have e1 := (h.other hX hM hR hs 0 (.pointer (some ⟨xb, 0, none⟩))).other hX hM hR hs 0 (.pointer none)
  obtain ⟨e2, t3⟩ := e1.walks (.slice (some ⟨g, 0, none⟩) 0 cap)
  have t4 := t2.trans (t3.mono fun b _ e => .inl (.inl e))
  exact ⟨rfl, e2.same rfl, own_kept o1 (fun b e => by cases e; exact Below.heap_setCell _ ⟨X, 6, none⟩ _ g hX'), t4.trans (Trn.drew _ 1)⟩
end
end Go.Proofs.Ytchlemajppnehaa

/- An LRU's walk: what lies in memory, and the run. -/
set_option maxRecDepth 100000
namespace Go.Proofs.Ytchlemajppnehaa
open Go Go.RowKit Go.Shelf Go.Maps
attribute [local go_sem] Oper.semAt_some
abbrev tWp : TypeId := 105
def nfL (lb cb ab : Nat) : Value := .func (.func 90) #[] #[.pointer (some ⟨lb, 0, none⟩), .pointer (some ⟨cb, 0, none⟩), .pointer (some ⟨ab, 0, none⟩)]
/-- An LRU that is walked, by the walk in the box xb: R is left to be told. -/
structure UL (X : Nat) (most : Int) (P Q : List Int) (N : Nat) (xb : Nat) (R : List Int) (f : Nat → Prop) (W : World) : Prop where
  ex : ∃ S L g cap p q lb cb ab j, LruE X S L (.slice (some ⟨g, 0, none⟩) 1 cap) W ∧ OwnK encW 1 tWp 0 (.slice (some ⟨g, 0, none⟩) 1 cap) [xb] W ∧ Lr.InvF S p q [] N ∧ S.most = most ∧ P = p.map (fun i => (Lr.rat S.T.rows i).k) ∧ Q = q.map (fun i => (Lr.rat S.T.rows i).k) ∧ (q.length : Int) ≤ most ∧ L.n ≤ N ∧
    StepE X lb cb ab (p ++ q) j W ∧ Blk W xb [nfL lb cb ab] 109 ∧ j ≤ (p ++ q).length ∧ R = ((p ++ q).drop j).map (fun i => (Lr.rat S.T.rows i).k) ∧
    f L.M ∧ f L.R ∧ (∀ b, L.sv.ownBlock = some b → f b ∧ b ≠ lb ∧ b ≠ ab) ∧ f g ∧ f lb ∧ f cb ∧ f ab ∧ f xb
  fX : f X
  fb : ∀ k, f k → k < W.heap.size
/-- What the walk itself does between two steps. -/
def MvL (f : Nat → Prop) (W : World) (f' : Nat → Prop) (W' : World) : Prop := Trn f W W' ∧ ∀ k, f' k ↔ grow f W W' k
theorem blk_book {W : World} {B : Nat} {cs : List Value} {t : TypeId} (h : Blk W B cs t) {l : Nat} {o : Obj} (hl : W.heap[l]? = some o) (hk : isBook o = true) (o' : Obj) : (W.putObj l o').heap[B]? = W.heap[B]? :=
  World.putObj_heap_other (fun e => by
    subst e
    rw [show W.heap[B]? = _ from h] at hl
    cases hl
    cases hk)
theorem map_book {W : World} {M n : Nat} {g : Int → Option Nat} (h : MapI M n g W) {l : Nat} {o : Obj} (hl : W.heap[l]? = some o) (hk : isBook o = true) (o' : Obj) : (W.putObj l o').heap[M]? = W.heap[M]? :=
  World.putObj_heap_other (fun e => by
    subst e
    obtain ⟨D, ⟨es, clock, h1, _⟩, _⟩ := h.ex
    rw [h1] at hl
    cases hl
    cases hk)
theorem own_book {α : Type} {enc : α → List Value} {k : Nat} {e : TypeId} {base : Nat} {v : Value} {L : List α} {W : World} (h : OwnK enc k e base v L W) {l : Nat} {o : Obj} (hl : W.heap[l]? = some o) (hk : isBook o = true) (o' : Obj) : OwnK enc k e base v L (W.putObj l o') :=
  own_kept h fun g hg => by
    obtain ⟨d, hd⟩ := own_blk' h hg
    exact blk_book hd hl hk o'
theorem LruE.book {X : Nat} {S : Lr.St} {L : TL} {wv : Value} {W : World} (h : LruE X S L wv W) {l : Nat} {o : Obj} (hl : W.heap[l]? = some o) (hk : isBook o = true) (o' : Obj) : LruE X S L wv (W.putObj l o') := by
  obtain ⟨bx, h1, h2⟩ := h.ex
  exact ⟨bx, ⟨h1.box.kept (blk_book h1.box hl hk o'), h1.c0, h1.c1, h1.c2, h1.map.kept (map_book h1.map hl hk o'), own_book h1.rows hl hk o', own_book h1.spare hl hk o', h1.tx⟩, h2⟩
theorem StepE.book {X lb cb ab : Nat} {T : List Nat} {j : Nat} {W : World} (h : StepE X lb cb ab T j W) {l : Nat} {o : Obj} (hl : W.heap[l]? = some o) (hk : isBook o = true) (o' : Obj) : StepE X lb cb ab T j (W.putObj l o') :=
  ⟨h.left.kept (blk_book h.left hl hk o'), h.at_.kept (blk_book h.at_ hl hk o'), h.box.kept (blk_book h.box hl hk o'), h.ne⟩
theorem UL.book {X : Nat} {most : Int} {P Q : List Int} {N xb : Nat} {R : List Int} : BookOk (UL X most P Q N xb R) := by
  intro f W l o o' h hl hk
  obtain ⟨S, L, g, cap, p, q, lb, cb, ab, j, h1, h2, h3, h4, h5, h6, h7, h8, h9, h10, h11⟩ := h.ex
  exact ⟨⟨S, L, g, cap, p, q, lb, cb, ab, j, h1.book hl hk o', own_book h2 hl hk o', h3, h4, h5, h6, h7, h8, h9.book hl hk o', h10.kept (blk_book h10 hl hk o'), h11⟩, h.fX, fun k e => by have := h.fb k e; simpa [World.putObj] using this⟩
theorem LV.book {X : Nat} {most : Int} {P Q : List Int} {N : Nat} : BookOk (LV X most P Q N) := by
  intro f W l o o' h hl hk
  obtain ⟨S, L, wv, p, q, h1, h2, h3, h4, h5, h6, h7, h8, h9⟩ := h.ex
  exact ⟨⟨S, L, wv, p, q, h1.book hl hk o', h2, h3, h4, h5, h6, h7, own_book h8 hl hk o', h9⟩, h.fX, fun k e => by have := h.fb k e; simpa [World.putObj] using this⟩
theorem StepE.below {X lb cb ab : Nat} {T : List Nat} {j : Nat} {w w' : World} (h : StepE X lb cb ab T j w) (hb : Below w.heap.size w w') : StepE X lb cb ab T j w' :=
  ⟨h.left.kept (hb.block _ h.left.lt), h.at_.kept (hb.block _ h.at_.lt), h.box.kept (hb.block _ h.box.lt), h.ne⟩
end Go.Proofs.Ytchlemajppnehaa

/- An LRU's walk: its steps and its end, by what is left to be told. -/
set_option maxRecDepth 100000
namespace Go.Proofs.Ytchlemajppnehaa
open Go Go.RowKit Go.Shelf Go.Maps
section
variable {X : Nat} {most : Int} {P Q : List Int} {N xb m : Nat} {f : Nat → Prop} {w w' : World}
theorem mvL {f : Nat → Prop} {w w' : World} (t : Trn f w w') : MvL f w (grow f w w') w' := ⟨t, fun _ => Iff.rfl⟩
theorem ul_nil (h : UL X most P Q N xb [] f w) : ∃ lb cb ab, w.cell? ⟨xb, 0, none⟩ = some (nfL lb cb ab) ∧
    Calls Try.prog 90 #[.pointer (some ⟨lb, 0, none⟩), .pointer (some ⟨cb, 0, none⟩), .pointer (some ⟨ab, 0, none⟩)] w fun e w' => e = .returned (.tuple #[.int .i64 0, .bool false]) ∧ w = w' := by
  obtain ⟨S, L, g, cap, p, q, lb, cb, ab, j, h1, h2, h3, h4, h5, h6, h7, h8, h9, h10, h11, h12, h13⟩ := h.ex
  have hj : j = (p ++ q).length := by
    have := congrArg List.length h12
    simp only [List.length_nil, List.length_map, List.length_drop] at this
    omega
  subst hj
  exact ⟨lb, cb, ab, h10.cell rfl, lnext_end h9⟩
theorem ul_cons {x : Int} {R : List Int} (h : UL X most P Q N xb (x :: R) f w) (hN : N < 80000) : ∃ lb cb ab, w.cell? ⟨xb, 0, none⟩ = some (nfL lb cb ab) ∧
    Calls Try.prog 90 #[.pointer (some ⟨lb, 0, none⟩), .pointer (some ⟨cb, 0, none⟩), .pointer (some ⟨ab, 0, none⟩)] w fun e w' => e = .returned (.tuple #[.int .i64 x, .bool true]) ∧ Trn f w w' ∧ UL X most P Q N xb R (grow f w w') w' := by
  obtain ⟨S, L, g, cap, p, q, lb, cb, ab, j, h1, h2, h3, h4, h5, h6, h7, h8, h9, h10, h11, h12, fM, fR, fs, fg, fl, fc, fa, fx⟩ := h.ex
  have hj : j < (p ++ q).length := by
    have := congrArg List.length h12
    simp only [List.length_cons, List.length_map, List.length_drop] at this
    omega
  rw [List.drop_eq_getElem_cons hj, List.map_cons] at h12
  injection h12 with e1 e2
  obtain ⟨d, hd⟩ := own_blk h2
  obtain ⟨bx, ht, _⟩ := h1.ex
  obtain ⟨c, hc⟩ := own_blk ht.rows
  have hL : ∀ b, b = lb ∨ b = ab → X ≠ b ∧ L.M ≠ b ∧ L.R ≠ b ∧ L.sv.ownBlock ≠ some b := by
    intro b hb
    have hbk : ∃ cs, Blk w b cs 3 := by rcases hb with rfl | rfl; exact ⟨_, h9.left⟩; exact ⟨_, h9.at_⟩
    obtain ⟨cs, hbk⟩ := hbk
    refine ⟨ht.box.ne hbk (by decide), ht.map.ne hbk, hc.ne hbk (by decide), fun e => ?_⟩
    obtain ⟨_, n1, n2⟩ := fs b e
    rcases hb with hb | hb
    · exact n1 hb
    · exact n2 hb
  refine ⟨lb, cb, ab, h10.cell rfl, (lnext_some h1 h3 (by omega) h9 hj hL).mono ?_⟩
  rintro e w2 ⟨rfl, s2, l2, t2⟩
  have t3 : Trn f w w2 := t2.mono fun b _ e => e.elim (fun e => e ▸ fl) (fun e => e ▸ fa)
  refine ⟨by rw [e1], t3, ⟨⟨S, L, g, cap, p, q, lb, cb, ab, j + 1, l2, own_kept h2 (fun b e => ?_), h3, h4, h5, h6, h7, h8, s2, h10.trn t2 (fun e => ?_), hj, e2, .inl fM, .inl fR, fun b e => ⟨.inl (fs b e).1, (fs b e).2⟩, .inl fg, .inl fl, .inl fc, .inl fa, .inl fx⟩, .inl h.fX, fun k e => ?_⟩⟩
  · cases e
    refine t2.block g hd.lt fun e => ?_
    rcases e with e | e
    · exact hd.ne h9.left (by decide) e
    · exact hd.ne h9.at_ (by decide) e
  · rcases e with e | e
    · exact h10.ne h9.left (by decide) e
    · exact h10.ne h9.at_ (by decide) e
  · rcases e with e | e
    · exact Nat.lt_of_lt_of_le (h.fb k e) t3.size
    · exact e.2
theorem ul_end {R : List Int} (h : UL X most P Q N xb R f w) : CallsDIn Fence.wide m Try.prog 89 #[.pointer (some ⟨X, 6, none⟩), .pointer (some ⟨xb, 0, none⟩)] .returning w fun e u' w' => u' = .returning ∧ e = .returned (.tuple #[]) ∧ Trn f w w' ∧ LV X most P Q N (grow f w w') w' := by
  obtain ⟨S, L, g, cap, p, q, lb, cb, ab, j, h1, h2, h3, h4, h5, h6, h7, h8, h9, h10, h11, h12, fM, fR, fs, fg, fl, fc, fa, fx⟩ := h.ex
  obtain ⟨d, hd⟩ := own_blk h2
  obtain ⟨bx, ht, _⟩ := h1.ex
  obtain ⟨c, hc⟩ := own_blk ht.rows
  refine (lend1 (m := m) h1 h2 (ht.box.ne hd (by decide)) (ht.map.ne hd) (hc.ne hd (by decide)) (fun e => ?_)).mono ?_
  · obtain ⟨d2, hd2⟩ := own_blk' ht.spare e
    exact hd2.ne hd (by decide) rfl
  · rintro e u' w2 ⟨rfl, rfl, e2, o2, t2⟩
    have t3 : Trn f w w2 := t2.mono fun b _ e => e.elim (fun e => e ▸ h.fX) (fun e => e ▸ fg)
    exact ⟨rfl, rfl, t3, ⟨⟨S, L, _, p, q, e2, h3, h4, h5, h6, h7, h8, o2, .inl fM, .inl fR, fun b e => .inl (fs b e).1, fun b e => by cases e; exact .inl fg⟩, .inl h.fX, fun k e => e.elim (fun e => Nat.lt_of_lt_of_le (h.fb k e) t3.size) (fun e => e.2)⟩⟩
end
end Go.Proofs.Ytchlemajppnehaa
