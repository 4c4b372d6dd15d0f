/- 4 texts put together: Lord, SeqZ, Pl, Md. -/
import Derived.LoopTactic
import Derived.Test.YtjaejdenboggpaaJB2
import Derived.Test.YtjaejdenboggpaaJB7
import Derived.Test.YtjaejdenboggpaaJB8
import Derived.Test.YtjaejdenboggpaaJB9
import Derived.Test.YtjaejdenboggpaaJB18
/- An LRU's Order, as an iterator. -/
set_option maxRecDepth 100000
namespace Go.Proofs.Ytjaejdenboggpaa
open Go Go.RowKit Go.Shelf Go.Maps
theorem qLruN (w : World) (a : Addr) : (binOp .neq 24 (.pointer (some a)) (.pointer none)).run Try.prog w = .ok (.bool true) w := by kernel_rfl
section
variable {X : Nat} {most : Int} {P Q : List Int} {N m l ob : Nat} {f : Nat → Prop} {w WW : World}
theorem lorder_any (X : Nat) (w : World) :
    Calls Try.prog 47 #[.pointer (some ⟨X, 0, none⟩)] w fun e w' => e = .returned (.func (.func 68) #[] #[.pointer (some ⟨w.heap.size, 0, none⟩)]) ∧ w' = w.alloc (.cells #[.pointer (some ⟨X, 0, none⟩)] 24) := by
  go_enter Try.func47, Try.ntmps47
  go_wp2
  go_ret
  exact ⟨rfl, rfl⟩
set_option maxHeartbeats 4000000 in
theorem lorder_seq (hm : 1 ≤ m) (hN : N < 80000) (hVV : LV X most P Q N f WW) (hB : Blk WW ob [.pointer (some ⟨X, 0, none⟩)] 24)
    (C Cx : List Int → (Nat → Prop) → World → Prop) (hC : ∀ pre s s' W W', C pre s W → MvL s W s' W' → C pre s' W') (hCx : ∀ pre s s' W W', Cx pre s W → MvL s W s' W' → Cx pre s' W') (h0 : C [] f WW)
    (hY : ∀ t pre x R s W1, pre ++ x :: R = P ++ Q → UL X most P Q N t R s W1 → C pre s W1 → YieldAt Fence.wide (m - 1) Try.prog l (encK x) W1 fun e W' =>
      (e = .returned (.bool true) ∧ ∃ s', UL X most P Q N t R s' W' ∧ C (pre ++ [x]) s' W') ∨ (e = .returned (.bool false) ∧ ∃ s', UL X most P Q N t R s' W' ∧ Cx (pre ++ [x]) s' W')) :
    CallsIn Fence.wide m Try.prog 68 #[.func (.yield l) #[] #[], .pointer (some ⟨ob, 0, none⟩)] WW fun e W' => (∃ v, e = .returned v) ∧ ∃ s, LV X most P Q N s W' ∧ (C (P ++ Q) s W' ∨ ∃ pre, pre <+: P ++ Q ∧ Cx pre s W') := by
  obtain ⟨S, L, wv, p, q, h1, h2, h3, h4, h5, h6, h7, h8, h9', h10, h11, h12⟩ := hVV.ex
  have k0 := hB.cell (i := 0) rfl
  have hobl := hB.lt
  have q1 := qLruN
  refine callsIn_wide.2 ?_
  go_enter Try.func68, Try.ntmps68
  go_wp2
  obtain ⟨ao, cap, hwv, _⟩ := ownK_form h8
  have hwv : wv = .slice ao 0 cap := hwv
  subst hwv
  have HY := Lib.hid hY
  have HC := Lib.hid hC
  have HCx := Lib.hid hCx
  have H0 := Lib.hid h0
  have HP := Lib.hid h4
  have HQ := Lib.hid h5
  have HM := Lib.hid h3
  clear hY hC hCx h0 h4 h5 h3
  have H1 := Lib.hid (h1.same (w' := WW.drew) rfl)
  have HO : Hid (OwnK encW 1 tWp 0 (.slice ao 0 cap) [] WW.drew) := Lib.hid h8
  have K0 : Hid (WW.drew.cell? ⟨ob, 0, none⟩ = some (.pointer (some ⟨X, 0, none⟩))) := Lib.hid k0
  clear h1 h8 k0 q1
  refine wp_region_slotsTL (by simp) slotLe (slotPhi ((fun v _ => v = ?o5) :: (fun v _ => v = ?o6) :: (fun v _ => v = ?o7) :: (fun v _ => v = ?o8) :: (fun v W' => ∃ lb cb ab, v = nfL lb cb ab ∧ StepE X lb cb ab (p ++ q) 0 W' ∧ WW.drew.heap.size ≤ lb ∧ WW.drew.heap.size ≤ cb ∧ WW.drew.heap.size ≤ ab) :: (fun v _ => v = ?o10) :: [])) slotLe_refl slotLe_trans (slotPhi_stable ?stb) (by kernel_rfl) (by kernel_rfl) (by kernel_rfl) (by kernel_rfl) (by kernel_rfl) ?steps ?fin
  case stb =>
    refine ⟨by intro _ _ _ _ h; exact h, ?_⟩
    refine ⟨by intro _ _ _ _ h; exact h, ?_⟩
    refine ⟨by intro _ _ _ _ h; exact h, ?_⟩
    refine ⟨by intro _ _ _ _ h; exact h, ?_⟩
    refine ⟨by rintro v x y h ⟨lb, cb, ab, e, s, g⟩; exact ⟨lb, cb, ab, e, s.below h, g⟩, ?_⟩
    refine ⟨by intro _ _ _ _ h; exact h, ?_⟩
    exact trivial
  case steps =>
    refine ⟨?_, ?_⟩
    · intro a W K N hK
      have e1 : a.tmps[1]?.getD undef = .pointer (some ⟨ob, 0, none⟩) := N.was' 1 _ (by kernel_rfl) rfl
      rw [if_pos (wanted_no rfl)]
      have z := keep_cell N.le K0.out
      go_simp
      refine hK _ _ (slotLe_refl _) ?_
      exact rfl
    refine ⟨?_, ?_⟩
    · intro a W K N hK
      have e5 : a.tmps[5]?.getD undef = _ := N.dep' 0 5 (by kernel_rfl)
      rw [if_pos (wanted_no rfl)]
      go_simp
      refine hK _ _ (slotLe_refl _) ?_
      exact rfl
    refine ⟨?_, ?_⟩
    · intro a W K N hK
      have e6 : a.tmps[6]?.getD undef = _ := N.dep' 1 6 (by kernel_rfl)
      rw [if_pos (wanted_no rfl)]
      go_simp
      refine hK _ _ (slotLe_refl _) ?_
      exact rfl
    refine ⟨?_, ?_⟩
    · intro a W K N hK
      have e1 : a.tmps[1]?.getD undef = .pointer (some ⟨ob, 0, none⟩) := N.was' 1 _ (by kernel_rfl) rfl
      rw [if_pos (wanted_no rfl)]
      have z := keep_cell N.le K0.out
      go_simp
      refine hK _ _ (slotLe_refl _) ?_
      exact rfl
    refine ⟨?_, ?_⟩
    · intro a W K N hK
      have e8 : a.tmps[8]?.getD undef = _ := N.dep' 3 8 (by kernel_rfl)
      rw [if_pos (wanted_no rfl)]
      have hl := H1.out.below N.le
      have hs := N.le.size
      go_simp
      go_at_call 70
      refine (lsteps_any hl h2 (by omega)).mono ?_
      rintro e w2 ⟨lb, cb, ab, rfl, s2, b2, g1, g2, g3⟩
      go_simp
      refine hK _ _ b2 ?_
      exact ⟨lb, cb, ab, rfl, s2, Nat.le_trans hs g1, Nat.le_trans hs g2, Nat.le_trans hs g3⟩
    refine ⟨?_, ?_⟩
    · intro a W K N hK
      have e0 : a.tmps[0]?.getD undef = .func (.yield l) #[] #[] := N.was' 0 _ (by kernel_rfl) rfl
      rw [if_pos (wanted_no rfl)]
      go_simp
      refine hK _ _ (slotLe_refl _) ?_
      exact rfl
    exact trivial
  case fin =>
    intro V hV
    simp only [FinAll, slotPhi, List.dropLast, List.getLast_cons_cons, List.getLast_singleton, List.getD_cons_zero, List.getD_cons_succ, forall_eq, Act.put, List.setIfInBounds_toArray, List.set_cons_zero, List.set_cons_succ]
    intro v9 h9
    obtain ⟨lb, cb, ab, rfl, s2, g1, g2, g3⟩ := h9
    have hb : Below WW.heap.size WW V := (show Below WW.heap.size WW WW.drew from ⟨rfl, rfl, rfl, Nat.le_refl _, fun _ _ => rfl⟩).trans hV
    have tr : Trn f WW V := Trn.of_below hb
    have gs : ∀ b, WW.heap.size ≤ b → b < V.heap.size → grow f WW V b := fun b h1 h2 => .inr ⟨h1, h2⟩
    have b1 := s2.left.lt
    have b2 := s2.box.lt
    have b3 := s2.at_.lt
    have hC3 := HC.out _ _ _ _ _ H0.out (mvL tr)
    have hfs : ∀ b, L.sv.ownBlock = some b → grow f WW V b ∧ b ≠ lb ∧ b ≠ ab := fun b e => by
      have h1 := h11 b e
      have h2 := hVV.fb b h1
      have g1 : WW.heap.size ≤ lb := g1
      have g3 : WW.heap.size ≤ ab := g3
      exact ⟨.inl h1, by omega, by omega⟩
    have hrun := lrun_in (m := m) (l := l) hm hN (f := grow f WW V) (H1.out.below hV) (ownK_below (enc := encW) HO.out hV) h2 HM.out HP.out HQ.out h6 h7 s2 (.inl hVV.fX) (.inl h9') (.inl h10) hfs (fun b e => .inl (h12 b e)) (gs _ g1 b1) (gs _ g2 b2) (gs _ g3 b3) (fun k e => e.elim (fun e => Nat.lt_of_lt_of_le (hVV.fb k e) hb.size) (fun e => e.2)) C Cx HC.out HCx.out hC3 HY.out
    unfold nfL at hrun ⊢
    go_wp2_with fail
    refine (callsIn_wide.1 hrun).mono ?_
    rintro e w' ⟨⟨v, rfl⟩, s, hV', hC'⟩
    go_wp2
    go_end0
    exact ⟨⟨_, rfl⟩, s, hV', hC'⟩
end
end Go.Proofs.Ytjaejdenboggpaa

/- As SeqW: the iterator may ask something of the world where it begins. -/
namespace Go.Proofs.Ytjaejdenboggpaa
open Go Go.RowKit
variable {F : Fence} {n : Nat} {P : Program} {α σ τ : Type}
/-- The contract of an iterator that walks: V: the structure at rest; U t R: it is walked by t, and R is still to be told; Mv: what the iterator itself does between the rounds; T: what it tells. -/
def SeqZ (F : Fence) (n : Nat) (P : Program) (g : Nat) (lb : Array Value) (encs : α → Array Value) (Z : World → Prop) (V : σ → World → Prop) (U : τ → List α → σ → World → Prop) (Mv : σ → World → σ → World → Prop) (T : List α) (s0 : σ) : Prop :=
  ∀ (l : Nat) (C Cx : List α → σ → World → Prop) (W : World), Z W → V s0 W → (∀ pre s s' W W', C pre s W → Mv s W s' W' → C pre s' W') → (∀ pre s s' W W', Cx pre s W → Mv s W s' W' → Cx pre s' W') → C [] s0 W →
    (∀ t pre x R s W1, pre ++ x :: R = T → U t R s W1 → C pre s W1 → YieldAt F (n - 1) P l (encs x) W1 fun e W' =>
      (e = .returned (.bool true) ∧ ∃ s', U t R s' W' ∧ C (pre ++ [x]) s' W') ∨ (e = .returned (.bool false) ∧ ∃ s', U t R s' W' ∧ Cx (pre ++ [x]) s' W')) →
    CallsIn F n P g (#[.func (.yield l) #[] #[]] ++ lb) W fun e W' => (∃ v, e = .returned v) ∧ ∃ s, V s W' ∧ (C T s W' ∨ ∃ pre, pre <+: T ∧ Cx pre s W')
theorem wpIn_rangeFunc_Z {g : Operand} {ps : Array Tmp} {assign body : Code} {Q : Exit → Act → World → Prop} {a : Act} {w : World}
    (hro : F.round = none) (h1 : 1 ≤ n) {gf : Nat} {lb : Array Value} (hg : a.eval g = .func (.func gf) #[] lb) (hFg : F.fn gf) (eg : ∀ args w, (callFunc gf args).run P w = .ok (.enter gf args) w)
    {encs : α → Array Value} {Z : World → Prop} {V : σ → World → Prop} {U : τ → List α → σ → World → Prop} {Mv : σ → World → σ → World → Prop} {T : List α} {s0 : σ} (hseq : SeqZ F (n - 1) P gf lb encs Z V U Mv T s0)
    (hZa : ∀ W o, Z W → Z (W.alloc o)) (hZ0 : Z w) (hVa : ∀ s W o, V s W → V s (W.alloc o)) (hVb : BookOk V) (hUb : ∀ t R, BookOk (U t R)) (hMb : ∀ s W s' W', Mv s W s' W' → ∀ (k : Nat) (o : Obj), W.heap[k]? = some o → isBook o = true → W'.heap[k]? = some o) (hps : ∀ x, (encs x).size = ps.size)
    (I : List α → σ → World → Prop) (Ix : Code → List α → σ → World → Prop) (hI : ∀ s, OwnBk w.heap.size (fun pre W => I pre s W)) (hIx : ∀ c s, OwnBk w.heap.size (fun pre W => Ix c pre s W))
    (hIm : ∀ pre s s' W W', I pre s W → Mv s W s' W' → I pre s' W') (hIxm : ∀ c pre s s' W W', Ix c pre s W → Mv s W s' W' → Ix c pre s' W') (hV0 : V s0 w) (h0 : I [] s0 w) (a₁ : α → Act)
    (hassign : ∀ (l : Nat) (x : α) (W : World) (K : Act → World → Prop), K (a₁ x) W →
      assign.wpIn (F.inRound l) (n - 1 - 1) P (Exit.then K (fun _ _ _ => False)) { tmps := (ps.zip (encs x)).foldl (fun t (p, v) => t.setIfInBounds p v) a.tmps, defers := [] } W)
    (hbody : ∀ (l : Nat) (t : τ) (pre : List α) (x : α) (R : List α) (s : σ) (W : World), pre ++ x :: R = T → U t R s W → I pre s W → body.wpIn (F.inRound l) (n - 1 - 1) P (postW w.heap.size (U t) I Ix (pre ++ [x]) R W) (a₁ x) W)
    (hdone : ∀ (D : Nat) (s : σ) (W : World), w.heap.size ≤ D → V s W → I T s W → W.heap[D]? = some (.deferred (some [])) → Q .normal { a with defers := { target := .collected D, args := #[] } :: a.defers } W)
    (hstop : ∀ (D : Nat) (c : Code) (pre : List α) (s : σ) (W : World), w.heap.size ≤ D → pre <+: T → V s W → Ix c pre s W → W.heap[D]? = some (.deferred (some [])) → c.wpIn F n P Q { a with defers := { target := .collected D, args := #[] } :: a.defers } W) :
    (Code.rangeFunc g ps assign body).wpIn F n P Q a w := by
  refine wpIn_rangeFunc ?_
  intro fn hfn
  rw [hro]
  obtain ⟨rec, hrec⟩ : ∃ rec : LoopState → Option Code → Loop, rec = fun st pe => { state := st, pending := pe, fn, tmps := a.tmps, params := ps, assign, body, defers := w.heap.size } := ⟨_, rfl⟩
  obtain ⟨W1, hW1⟩ : ∃ W1, (w.alloc (.deferred (some []))).alloc (.loop (rec .ready none)) = W1 := ⟨_, rfl⟩
  have hsz1 : W1.heap.size = w.heap.size + 2 := by rw [← hW1]; simp
  have hL1 : W1.heap[w.heap.size + 1]? = some (.loop (rec .ready none)) := by
    rw [← hW1]; have := World.alloc_heap_new (w.alloc (.deferred (some []))) (.loop (rec .ready none)); rwa [World.size_alloc] at this
  have hK1 : W1.heap[w.heap.size]? = some (.deferred (some [])) := by
    rw [← hW1]; exact (Below.heap_alloc _ _ _ (by simp)).trans (World.alloc_heap_new w _)
  have hI1 : I [] s0 W1 := by rw [← hW1]; exact (hI s0).alloc (I := fun pre W => I pre s0 W) _ ((hI s0).alloc (I := fun pre W => I pre s0 W) _ h0)
  have hZ1 : Z W1 := by rw [← hW1]; exact hZa _ _ (hZa _ _ hZ0)
  have hV1 : V s0 W1 := by rw [← hW1]; exact hVa _ _ _ (hVa _ _ _ hV0)
  refine ⟨w.heap.size + 1, [{ target := .collected w.heap.size, args := #[] }], W1, { target := .fn (.func gf) lb, args := #[.func (.yield (w.heap.size + 1)) #[] #[]] }, W1, gf,
    #[.func (.yield (w.heap.size + 1)) #[] #[]] ++ lb, W1, ?_, ?_, ?_, ?_, fun _ => h1, ?_⟩
  · rw [← hW1, hrec]; exact run_enterLoop_outer _ _ _ _ _
  · simp only [resolve, hg]
    simp [go_sem]
  · intro f' hf'; simp [Target.leads] at hf'; subst hf'; exact hFg
  · simp [invoke, go_sem, eg]
  · refine (hseq (w.heap.size + 1)
      (fun pre s W => I pre s W ∧ W.heap[w.heap.size + 1]? = some (.loop (rec .ready none)) ∧ W.heap[w.heap.size]? = some (.deferred (some [])))
      (fun pre s W => ∃ c, Ix c pre s W ∧ W.heap[w.heap.size + 1]? = some (.loop (rec .done (some c))) ∧ W.heap[w.heap.size]? = some (.deferred (some [])))
      W1 hZ1 hV1
      (fun pre s s' A B hs hm => ⟨hIm pre s s' A B hs.1 hm, hMb _ _ _ _ hm _ _ hs.2.1 rfl, hMb _ _ _ _ hm _ _ hs.2.2 rfl⟩)
      (fun pre s s' A B hs hm => by
        obtain ⟨c, hc, hl, hk⟩ := hs
        exact ⟨c, hIxm c pre s s' A B hc hm, hMb _ _ _ _ hm _ _ hl rfl, hMb _ _ _ _ hm _ _ hk rfl⟩)
      ⟨hI1, hL1, hK1⟩ ?_).mono ?_
    · rintro tk pre x R s W hT hU ⟨hi, hl, hk⟩
      have hlt : w.heap.size + 1 < W.heap.size := (Array.getElem?_eq_some_iff.1 hl).1
      have hy := run_yield (P := P) (args := encs x) hl (by rw [hrec]; exact hps x)
      rw [hrec] at hy
      refine ⟨fn, _, assign, body, hy, roundIn_of_wpIn hfn (hassign _ x W _ ?_)⟩
      clear hy
      refine ⟨_, run_beginRound hl (by rw [hrec]), ?_⟩
      have hl2 : (W.putObj (w.heap.size + 1) (.loop { rec .ready none with state := .busy })).heap[w.heap.size + 1]? = some (.loop { rec .ready none with state := .busy }) := World.putObj_heap_same hlt
      have hk2 : (W.putObj (w.heap.size + 1) (.loop { rec .ready none with state := .busy })).heap[w.heap.size]? = some (.deferred (some [])) := (World.putObj_heap_other (by omega)).trans hk
      refine wpIn_mono (hbody _ tk pre x R s _ hT (hUb tk R s _ _ _ _ hU hl rfl) ((hI s).putObj (I := fun pre W => I pre s W) _ hi (by omega) hl rfl)) ?_
      have fin : ∀ (jump : Option Code) (W3 : World), KeepsBk w.heap.size (W.putObj (w.heap.size + 1) (.loop { rec .ready none with state := .busy })) W3 →
          (Instr.endRound (w.heap.size + 1) jump).run P W3 = .ok (.bool jump.isNone) (W3.putObj (w.heap.size + 1) (.loop (rec (if jump.isNone then .ready else .done) jump))) ∧
          W3.heap[w.heap.size + 1]? = some (.loop { rec .ready none with state := .busy }) ∧
          (W3.putObj (w.heap.size + 1) (.loop (rec (if jump.isNone then .ready else .done) jump))).heap[w.heap.size + 1]? = some (.loop (rec (if jump.isNone then .ready else .done) jump)) ∧
          (W3.putObj (w.heap.size + 1) (.loop (rec (if jump.isNone then .ready else .done) jump))).heap[w.heap.size]? = some (.deferred (some [])) := fun jump W3 hk3 => by
        have hl3 := hk3.same _ _ (by omega) hl2 rfl
        have := run_endRound (P := P) jump hl3
        rw [hrec] at this ⊢
        exact ⟨this, by rw [hrec] at hl3; exact hl3, World.putObj_heap_same (Array.getElem?_eq_some_iff.1 hl3).1, (World.putObj_heap_other (by omega)).trans (hk3.same _ _ (Nat.le_refl _) hk2 rfl)⟩
      rintro e a3 W3 hp
      cases e with
      | normal =>
        obtain ⟨hk3, s3, hU3, hi3⟩ := hp
        obtain ⟨hr, hl3, hl4, hk4⟩ := fin none W3 hk3
        exact ⟨_, _, hr, .inl ⟨rfl, s3, hUb tk R s3 _ _ _ _ hU3 hl3 rfl, (hI s3).putObj (I := fun pre W => I pre s3 W) _ hi3 (by omega) hl3 rfl, hl4, hk4⟩⟩
      | ret =>
        obtain ⟨hk3, s3, hU3, hi3⟩ := hp
        obtain ⟨hr, hl3, hl4, hk4⟩ := fin (some .ret) W3 hk3
        exact ⟨_, _, hr, .inr ⟨rfl, s3, hUb tk R s3 _ _ _ _ hU3 hl3 rfl, .ret, (hIx _ s3).putObj (I := fun pre W => Ix _ pre s3 W) _ hi3 (by omega) hl3 rfl, hl4, hk4⟩⟩
      | exit id =>
        obtain ⟨hk3, s3, hU3, hi3⟩ := hp
        obtain ⟨hr, hl3, hl4, hk4⟩ := fin (some (.exit id)) W3 hk3
        exact ⟨_, _, hr, .inr ⟨rfl, s3, hUb tk R s3 _ _ _ _ hU3 hl3 rfl, .exit id, (hIx _ s3).putObj (I := fun pre W => Ix _ pre s3 W) _ hi3 (by omega) hl3 rfl, hl4, hk4⟩⟩
      | goto t =>
        obtain ⟨hk3, s3, hU3, hi3⟩ := hp
        obtain ⟨hr, hl3, hl4, hk4⟩ := fin (some (.goto t)) W3 hk3
        exact ⟨_, _, hr, .inr ⟨rfl, s3, hUb tk R s3 _ _ _ _ hU3 hl3 rfl, .goto t, (hIx _ s3).putObj (I := fun pre W => Ix _ pre s3 W) _ hi3 (by omega) hl3 rfl, hl4, hk4⟩⟩
      | panic ch => exact hp.elim
      | outgrown => exact hp.elim
    · rintro e W2 ⟨⟨v, rfl⟩, s2, hV2, (⟨hi, hl, hk⟩ | ⟨pre, hpre, c, hi, hl, hk⟩)⟩
      · exact ⟨none, _, by have := run_endLoop (P := P) hl (by rw [hrec]; simp); rw [hrec] at this; exact this, hdone _ s2 _ (Nat.le_refl _) (hVb s2 _ _ _ _ hV2 hl rfl) ((hI s2).putObj (I := fun pre W => I pre s2 W) _ hi (by omega) hl rfl) ((World.putObj_heap_other (by omega)).trans hk)⟩
      · exact ⟨some c, _, by have := run_endLoop (P := P) hl (by rw [hrec]; simp); rw [hrec] at this; exact this, hstop _ c pre s2 _ (Nat.le_refl _) hpre (hVb s2 _ _ _ _ hV2 hl rfl) ((hIx c s2).putObj (I := fun pre W => Ix c pre s2 W) _ hi (by omega) hl rfl) ((World.putObj_heap_other (by omega)).trans hk)⟩
end Go.Proofs.Ytjaejdenboggpaa

/- The document's own lists: where a number is. -/
set_option maxRecDepth 100000
namespace Go.Proofs.Ytjaejdenboggpaa
open Go Go.RowKit Go.Shelf
def encZ (x : Int) : List Value := [.int .i64 x]
theorem encZ_len (x : Int) : (encZ x).length = 1 := rfl
theorem encZ_one (x : Int) : ∀ u ∈ encZ x, u.oneCell' = true := by intro u hu; simp [encZ] at hu; subst hu; rfl
/-- Where one is; -1: nowhere. -/
def plc (k : Int) : List Int → Nat → Int
  | [], _ => -1
  | x :: l, i => if x = k then (i : Int) else plc k l (i + 1)
theorem plc_drop {l : List Int} {k : Int} {i : Nat} (h : i < l.length) : plc k (l.drop i) i = if l[i] = k then (i : Int) else plc k (l.drop (i + 1)) (i + 1) := by
  rw [List.drop_eq_getElem_cons h]; rfl
theorem plc_end {l : List Int} {k : Int} {i : Nat} (h : l.length ≤ i) : plc k (l.drop i) i = -1 := by
  rw [List.drop_eq_nil_of_le h]; rfl
theorem rk_cell {x : Nat → Prop} {ao : Option Addr} {n cap : Nat} {l : List Int} {W : World} (h : RK encZ x (.slice ao n cap) l W) {i : Nat} (hi : i < l.length) : ∃ b off, ao = some ⟨b, off, none⟩ ∧ W.cell? ⟨b, off + i, none⟩ = some (.int .i64 l[i]) := by
  obtain ⟨b, off, e, _, c⟩ := RK.at_ encZ_len h hi (f := 0) (by omega)
  exact ⟨b, off, e, by rw [Nat.mul_one, Nat.add_zero] at c; rw [c]; rfl⟩
set_option maxHeartbeats 2000000 in
theorem place_any {x : Nat → Prop} {v : Value} {l : List Int} {w : World} (h : RK encZ x v l w) (k : Int) (hl : l.length < 100000) :
    Calls Try.prog 42 #[v, .int .i64 k] w fun e w' => e = .returned (.int .i64 (plc k l 0)) ∧ w = w' := by
  obtain ⟨ao, cap, rfl, _, _⟩ := h.form
  have HR := Lib.hid h
  clear h
  go_enter Try.func42, Try.ntmps42
  go_wp2
  go_loopw [5] (fun i wr => ∃ j : Nat, j ≤ l.length ∧ i = .int .i64 (j : Int) ∧ Hid (plc k (l.drop j) j = plc k l 0) ∧ w = wr) (fun i _ => l.length + 1 - (intOf i).toNat)
  case atStart => exact ⟨0, by omega, rfl, Lib.hid rfl, rfl⟩
  case round =>
    obtain ⟨j, hj, rfl, hp, rfl⟩ := hrel
    by_cases hlt : j < l.length
    · obtain ⟨b, off, rfl, c1⟩ := rk_cell HR.out hlt
      have hd := plc_drop (k := k) hlt
      have d1 : decide ((j : Int) < (l.length : Int)) = true := by simpa using hlt
      generalize l[j] = y at *
      by_cases hk : y = k
      · subst hk
        rw [if_pos rfl] at hd
        go_wp2
        go_ret
        exact ⟨by rw [← hp.out, hd]; rfl, rfl⟩
      · rw [if_neg hk] at hd
        have d2 : (y == k) = false := by simpa using hk
        have HD := Lib.hid (hd.symm.trans hp.out)
        clear hd hp
        go_wp2
        go_roundw
        case rel => exact ⟨j + 1, by omega, by go_num, HD, by first | rfl | trivial⟩
        case measure => simp [intOf]; omega
    · have d1 : decide ((j : Int) < (l.length : Int)) = false := by simp; omega
      have he := plc_end (k := k) (Nat.le_of_not_lt hlt)
      go_wp2
      go_ret
      exact ⟨by rw [← hp.out, he]; rfl, rfl⟩
end Go.Proofs.Ytjaejdenboggpaa

/- The document's own Due: what lies in memory; where, At. -/
set_option maxRecDepth 100000
namespace Go.Proofs.Ytjaejdenboggpaa
open Go Go.RowKit Go.Shelf
def encQ (x : Int × Int) : List Value := [.int .i64 x.1, .int .i64 x.2]
theorem encQ_len (x : Int × Int) : (encQ x).length = 2 := rfl
theorem encQ_one (x : Int × Int) : ∀ u ∈ encQ x, u.oneCell' = true := by intro u hu; simp [encQ] at hu; rcases hu with rfl | rfl <;> rfl
/-- The document's own Due in the box m: its list E is read within x. -/
structure MD (x : Nat → Prop) (m : Nat) (E : List (Int × Int)) (w : World) : Prop where
  ex : ∃ v, Blk w m [v] 46 ∧ RK encQ x v E w
theorem MD.below {x : Nat → Prop} {m : Nat} {E : List (Int × Int)} {w w' : World} (h : MD x m E w) (hb : Below w.heap.size w w') : MD x m E w' := by
  obtain ⟨v, h1, h2⟩ := h.ex
  exact ⟨v, h1.kept (hb.block _ h1.lt), h2.below hb⟩
theorem rkq_cell {x : Nat → Prop} {ao : Option Addr} {n cap : Nat} {l : List (Int × Int)} {W : World} (h : RK encQ x (.slice ao n cap) l W) {i : Nat} (hi : i < l.length) : ∃ b off, ao = some ⟨b, off, none⟩ ∧ W.cell? ⟨b, off + i * 2, none⟩ = some (.int .i64 l[i].1) ∧ W.cell? ⟨b, off + i * 2 + 1, none⟩ = some (.int .i64 l[i].2) := by
  obtain ⟨b, off, e, _, c⟩ := RK.at_ encQ_len h hi (f := 0) (by omega)
  obtain ⟨b', off', e', _, c'⟩ := RK.at_ encQ_len h hi (f := 1) (by omega)
  rw [e] at e'
  cases e'
  exact ⟨b, off, e, by rw [Nat.add_zero] at c; rw [c]; rfl, by rw [← Nat.add_assoc] at c'; rw [c']; rfl⟩
theorem plq_drop {l : List (Int × Int)} {k : Int} {i : Nat} (h : i < l.length) : plc k ((l.drop i).map (·.1)) i = if l[i].1 = k then (i : Int) else plc k ((l.drop (i + 1)).map (·.1)) (i + 1) := by
  rw [List.drop_eq_getElem_cons h]; rfl
theorem plq_end {l : List (Int × Int)} {k : Int} {i : Nat} (h : l.length ≤ i) : plc k ((l.drop i).map (·.1)) i = -1 := by
  rw [List.drop_eq_nil_of_le h]; rfl
set_option maxHeartbeats 2000000 in
theorem where_any {x : Nat → Prop} {m : Nat} {l : List (Int × Int)} {w : World} (h : MD x m l w) (k : Int) (hl : l.length < 100000) :
    Calls Try.prog 59 #[.pointer (some ⟨m, 0, none⟩), .int .i64 k] w fun e w' => e = .returned (.int .i64 (plc k (l.map (·.1)) 0)) ∧ w = w' := by
  obtain ⟨v, hb, hr⟩ := h.ex
  obtain ⟨ao, cap, rfl, _, _⟩ := hr.form
  have c0 := hb.cell (i := 0) rfl
  have HR := Lib.hid hr
  clear h hr hb
  go_enter Try.func59, Try.ntmps59
  go_wp2
  go_loopw [5] (fun i wr => ∃ j : Nat, j ≤ l.length ∧ i = .int .i64 (j : Int) ∧ Hid (plc k ((l.drop j).map (·.1)) j = plc k (l.map (·.1)) 0) ∧ w = wr) (fun i _ => l.length + 1 - (intOf i).toNat)
  case atStart => exact ⟨0, by omega, rfl, Lib.hid rfl, rfl⟩
  case round =>
    obtain ⟨j, hj, rfl, hp, rfl⟩ := hrel
    by_cases hlt : j < l.length
    · obtain ⟨b, off, rfl, c1, _⟩ := rkq_cell HR.out hlt
      have hd := plq_drop (k := k) hlt
      have d1 : decide ((j : Int) < (l.length : Int)) = true := by simpa using hlt
      generalize l[j].1 = y at *
      by_cases hk : y = k
      · subst hk
        rw [if_pos rfl] at hd
        go_wp2
        go_ret
        exact ⟨by rw [← hp.out, hd]; rfl, rfl⟩
      · rw [if_neg hk] at hd
        have d2 : (y == k) = false := by simpa using hk
        have HD := Lib.hid (hd.symm.trans hp.out)
        clear hd hp
        go_wp2
        go_roundw
        case rel => exact ⟨j + 1, by omega, by go_num, HD, by first | rfl | trivial⟩
        case measure => simp [intOf]; omega
    · have d1 : decide ((j : Int) < (l.length : Int)) = false := by simp; omega
      have he := plq_end (k := k) (Nat.le_of_not_lt hlt)
      go_wp2
      go_ret
      exact ⟨by rw [← hp.out, he]; rfl, rfl⟩
/-- Where one is, by what stands there. -/
theorem plc_some {k : Int} : ∀ {l : List Int} {i : Nat}, k ∈ l → ∃ j, j < l.length ∧ plc k l i = ((i + j : Nat) : Int) ∧ l[j]? = some k ∧ ∀ z, z < j → l[z]? ≠ some k
  | [], _, h => by cases h
  | y :: l, i, h => by
    unfold plc
    by_cases e : y = k
    · subst e
      exact ⟨0, by simp, by rw [if_pos rfl]; rfl, rfl, fun z hz => absurd hz (Nat.not_lt_zero z)⟩
    · rcases List.mem_cons.1 h with e2 | h2
      · exact absurd e2.symm e
      · obtain ⟨j, h1, h3, h4, h5⟩ := plc_some (i := i + 1) h2
        refine ⟨j + 1, by simpa using h1, by rw [if_neg e, h3]; congr 1; omega, by simpa using h4, fun z hz => ?_⟩
        cases z with
        | zero => simp; exact e
        | succ z => rw [List.getElem?_cons_succ]; exact h5 z (by omega)
theorem plc_none {k : Int} : ∀ {l : List Int} {i : Nat}, k ∉ l → plc k l i = -1
  | [], _, _ => rfl
  | y :: l, i, h => by
    unfold plc
    rw [if_neg (fun e => h (by simp [e]))]
    exact plc_none (fun e => h (List.mem_cons_of_mem _ e))
end Go.Proofs.Ytjaejdenboggpaa
