/- 3 texts put together: MEncM, SeqC, Get1. -/
import Derived.Laws.BitsLemmas
import Derived.Test.YtfmghbmbahembaaJB7
import Derived.Test.YtfmghbmbahembaaJB15
import Derived.Test.YtfmghbmbahembaaJB21
import Derived.Test.YtfmghbmbahembaaJB23
/- Encode: the mathematics. -/
namespace Go.Proofs.Ytfmghbmbahembaa
namespace Ms
def optR (z : Int) : Rd.RR := ⟨[0], 41, z, 0, []⟩
theorem wR_optsize (S : WS) (z : Int) : (wR S (optR z)).size = S.size + 11 := by
  have h1 : (wR S (optR z)).size = (wD ((wR0 S (optR z)).put (two 0)) (optR z)).size := wRc_size _ _
  have h2 := wR0_size S (optR z)
  have h3 := name_root S
  have h4 : (S.name (optR z).name true).size = (S.name [0] true).size := rfl
  have hp : Rd.partsD (optR z).typ (optR z).data = [] := show Rd.partsD 41 [] = [] by decide
  have h5 : wD ((wR0 S (optR z)).put (two 0)) (optR z) = ((wR0 S (optR z)).put (two 0)).put (optR z).data := by unfold wD; rw [hp]; rfl
  have h6 : (((wR0 S (optR z)).put (two 0)).put (optR z).data).size = (wR0 S (optR z)).size + 2 + 0 := rfl
  rw [h1, h5, h6]
  omega
theorem wR_opt {S : WS} (h : OkW S) (z : Int) (hs : S.size + 11 ≤ 4096) : wR S (optR z) = S.put (opt z) := by
  have hsz := wR_optsize S z
  have hn : S.name [0] true = S.put [0] := by
    unfold WS.name
    rw [if_neg (by decide), if_pos rfl]
    have : Nm.labsD [0] = [] := by decide
    rw [this, WS.sq]
  have h0 : wR0 S (optR z) = S.put ([0] ++ two 41 ++ two z ++ four 0) := by
    show (((S.name [0] true).put (two 41)).put (two z)).put (four 0) = _
    rw [hn, WS.put_put, WS.put_put, WS.put_put]
    simp only [List.append_assoc]
  have hl : ([0] ++ two 41 ++ two z ++ four 0 : List UInt8).length = 9 := rfl
  obtain ⟨o1, o2, o3⟩ := okw_put h (x := [0] ++ two 41 ++ two z ++ four 0) (by rw [hl]; omega)
  rw [← h0] at o1 o2
  have hc : (wRc (wR0 S (optR z)) (optR z)).size ≤ 4096 := by rw [← wR_c, hsz]; exact hs
  obtain ⟨L, e1, e2⟩ := wR_eq o1 hc
  rw [← wR_c] at e1 e2
  have hL : L = 0 := by rw [hsz, o2, hl] at e1; omega
  subst hL
  have hp : Rd.partsD (optR z).typ (optR z).data = [] := show Rd.partsD 41 [] = [] by decide
  obtain ⟨q1, _, _⟩ := okw_put o1 (x := two ((0 : Nat) : Int)) (by rw [two_len, o2, hl]; omega)
  have h5 : wD ((wR0 S (optR z)).put (two ((0 : Nat) : Int))) (optR z) = (wR0 S (optR z)).put (two ((0 : Nat) : Int)) := by
    unfold wD
    rw [hp]
    exact put_none q1
  rw [e2, h5, h0, WS.put_put]
  rfl
def S4 (m : M) : WS := ((rows m).map Prod.snd).foldl wR (m.qs.foldl wQ ((WS.new 4096).put (head m)))
theorem S4_eq (m : M) : S4 m = m.ad.foldl wR (m.ns.foldl wR (m.an.foldl wR (m.qs.foldl wQ ((WS.new 4096).put (head m))))) := by
  unfold S4 rows rowsOf
  simp only [List.nil_append, List.map_append, List.map_map, List.foldl_append, Function.comp_def, List.map_id']
def T (m : M) : WS := if m.edns then wR (S4 m) (optR m.size) else S4 m
theorem T_size (m : M) : (T m).size = (wAll m).size := by
  unfold T wAll
  rw [← S4_eq]
  unfold wE
  cases m.edns with
  | true => exact (wR_optsize _ _).trans rfl
  | false => rfl
theorem okw_S4 {m : M} (hc : check m = true) (hs : (S4 m).size ≤ 4096) : OkW (S4 m) := by
  obtain ⟨hh, hq, hz, hez, hqs, han, hns, had⟩ := check_split hc
  rw [S4_eq] at hs ⊢
  obtain ⟨k0, k1, k2⟩ := okw_head m
  have m2 := wRs_mono m.an (m.qs.foldl wQ ((WS.new 4096).put (head m)))
  have m3 := wRs_mono m.ns (m.an.foldl wR (m.qs.foldl wQ ((WS.new 4096).put (head m))))
  have m4 := wRs_mono m.ad (m.ns.foldl wR (m.an.foldl wR (m.qs.foldl wQ ((WS.new 4096).put (head m)))))
  obtain ⟨a1, _, _⟩ := wQs_read m.qs k0 hqs (by omega)
  obtain ⟨b1, _, _⟩ := wRs_read 0 m.an a1 han.2 (by omega)
  obtain ⟨c1, _, _⟩ := wRs_read 1 m.ns b1 hns.2 (by omega)
  exact (wRs_read 2 m.ad c1 had.2 hs).1
theorem T_eq {m : M} (hc : check m = true) (hs : (wAll m).size ≤ 4096) : T m = wAll m := by
  have h := T_size m
  have e : wAll m = wE (S4 m) m := by unfold wAll; rw [S4_eq]
  have hm := wE_mono (S4 m) m
  have hs' := hs
  rw [e] at hs' ⊢
  have ho := okw_S4 hc (by omega)
  unfold T wE at *
  cases hd : m.edns with
  | true =>
    rw [hd] at hs'
    have : ((S4 m).put (opt m.size)).size = (S4 m).size + 11 := rfl
    simp only [if_true] at hs' ⊢
    exact wR_opt ho m.size (by omega)
  | false => rfl
/-- Encode by way of T. -/
theorem enc_T {m : M} (hc : check m = true) : enc m = if (T m).bad = true ∨ (4096 : Int) < (T m).size then ([], 3) else ((T m).out, 0) := by
  have h := T_size m
  unfold enc
  rw [if_neg (by rw [hc]; simp)]
  by_cases hs : (wAll m).size ≤ 4096
  · rw [T_eq hc hs]
  · rw [if_pos (.inr (by omega)), if_pos (.inr (by omega))]
theorem enc_bad {m : M} (hc : check m = false) : enc m = ([], 1) := by unfold enc; rw [if_pos hc]
/-! ### Bounds -/
theorem wQ_le {S : WS} (hT : TabOk S) (q : Q) : TabOk (wQ S q) ∧ (wQ S q).size ≤ S.size + q.name.length + 4 ∧ (wQ S q).tab.length ≤ S.tab.length + q.name.length := by
  have h := name_size_le S q.name true
  refine ⟨tabOk_put (tabOk_put (tabOk_name hT _ _) _) _, ?_, h.2⟩
  have : (wQ S q).size = (S.name q.name true).size + 2 + 2 := rfl
  omega
theorem foldQ_le : ∀ (l : List Q) {S : WS}, TabOk S → (∀ q ∈ l, q.name.length ≤ 255) → TabOk (l.foldl wQ S) ∧ (l.foldl wQ S).size ≤ S.size + 259 * l.length ∧ (l.foldl wQ S).tab.length ≤ S.tab.length + 259 * l.length
  | [], S, hT, _ => ⟨hT, by simp, by simp⟩
  | q :: l, S, hT, h => by
    obtain ⟨h1, h2, h3⟩ := wQ_le hT q
    have h4 := h q (List.mem_cons_self)
    obtain ⟨h5, h6, h7⟩ := foldQ_le l h1 (fun x hx => h x (List.mem_cons_of_mem _ hx))
    rw [List.foldl_cons, List.length_cons]
    exact ⟨h5, by omega, by omega⟩
theorem foldR_le : ∀ (l : List Rd.RR) {S : WS}, TabOk S → (∀ r ∈ l, r.name.length ≤ 255 ∧ r.data.length ≤ 3000) → TabOk (l.foldl wR S) ∧ (l.foldl wR S).size ≤ S.size + 3265 * l.length ∧ (l.foldl wR S).tab.length ≤ S.tab.length + 3265 * l.length
  | [], S, hT, _ => ⟨hT, by simp, by simp⟩
  | r :: l, S, hT, h => by
    obtain ⟨h1, h2, h3⟩ := wR_le hT r
    have h4 := h r (List.mem_cons_self)
    obtain ⟨h5, h6, h7⟩ := foldR_le l h1 (fun x hx => h x (List.mem_cons_of_mem _ hx))
    rw [List.foldl_cons, List.length_cons]
    exact ⟨h5, by omega, by omega⟩
theorem rows_mem {m : M} {x : Nat × Rd.RR} (h : x ∈ rows m) : x.2 ∈ m.an ∨ x.2 ∈ m.ns ∨ x.2 ∈ m.ad := by
  unfold rows rowsOf at h
  simp only [List.nil_append, List.mem_append, List.mem_map] at h
  rcases h with (⟨r, hr, rfl⟩ | ⟨r, hr, rfl⟩) | ⟨r, hr, rfl⟩
  · exact .inl hr
  · exact .inr (.inl hr)
  · exact .inr (.inr hr)
theorem rows_len (m : M) : (rows m).length = m.an.length + m.ns.length + m.ad.length := by
  unfold rows rowsOf
  simp only [List.nil_append, List.length_append, List.length_map]
theorem rows_small {m : M} (hc : check m = true) (h3 : ∀ r, r ∈ m.an ∨ r ∈ m.ns ∨ r ∈ m.ad → r.data.length ≤ 3000) : (rows m).length ≤ 192 ∧ ∀ x ∈ rows m, x.2.name.length ≤ 255 ∧ x.2.data.length ≤ 3000 := by
  obtain ⟨_, _, _, _, _, han, hns, had⟩ := check_split hc
  refine ⟨by rw [rows_len]; omega, fun x hx => ?_⟩
  have hm := rows_mem hx
  refine ⟨?_, h3 _ hm⟩
  have hck : Rd.check x.2 = true := by
    rcases hm with h | h | h
    · exact List.all_eq_true.1 han.2 _ h
    · exact List.all_eq_true.1 hns.2 _ h
    · exact List.all_eq_true.1 had.2 _ h
  exact Rd.valid_len (check_parts hck).1
theorem wR_most (S : WS) (r : Rd.RR) : (wR S r).most = S.most := by
  have e : ∀ (S : WS) (z n : Int), (S.set z n).most = S.most := fun S z n => by unfold WS.set; split <;> rfl
  unfold wR
  rw [e]
  unfold wD
  rw [parts_most]
  exact name_most S r.name true
theorem wRs_most : ∀ (l : List Rd.RR) (S : WS), (l.foldl wR S).most = S.most
  | [], _ => rfl
  | r :: l, S => by rw [List.foldl_cons, wRs_most l, wR_most]
theorem wQs_most : ∀ (l : List Q) (S : WS), (l.foldl wQ S).most = S.most
  | [], _ => rfl
  | q :: l, S => by rw [List.foldl_cons, wQs_most l]; exact name_most S q.name true
theorem T_most (m : M) : (T m).most = 4096 := by
  have h : (S4 m).most = 4096 := by unfold S4; rw [wRs_most, wQs_most]; rfl
  unfold T
  split
  · rw [wR_most, h]
  · exact h
theorem T_le {m : M} (_h : TabOk (S4 m)) : (T m).size ≤ (S4 m).size + 11 := by
  unfold T
  split
  · rw [wR_optsize]; exact Nat.le_refl _
  · omega
end Ms
end Go.Proofs.Ytfmghbmbahembaa

/- A range over a function whose loop variable is boxed anew in each round. -/
namespace Go.Proofs.Ytfmghbmbahembaa
open Go Go.RowKit
variable {F : Fence} {n : Nat} {P : Program}
theorem wpIn_rangeFunc_ownC {α : Type} {g : Operand} {ps : Array Tmp} {assign body : Code} {Q : Exit → Act → World → Prop} {a : Act} {w : World}
    (hro : F.round = none) (h1 : 1 ≤ n) {gf : Nat} {lb : Array Value} (hg : a.eval g = .func (.func gf) #[] lb) (hFg : F.fn gf) (eg : ∀ args w, (callFunc gf args).run P w = .ok (.enter gf args) w)
    {encs : α → Array Value} {Kp : World → World → Prop} {S Sp : List α → Prop} {N : Nat} {w0 : World} (hseq : SeqStopsB F (n - 1) P gf lb encs Kp S Sp N w0)
    (hKt : ∀ {A B C : World}, Kp A B → Kp B C → Kp A C) (hKb : ∀ (W : World) (l : Nat) (o o' : Obj), w.heap.size ≤ l → W.heap[l]? = some o → o.isCells = false → o.isWalk = false → Kp W (W.putObj l o')) (hb0 : Below w0.heap.size w0 w) (hps : ∀ x, (encs x).size = ps.size)
    (I : List α → World → Prop) (Ix : Code → List α → World → Prop) (hI : OwnBk w.heap.size I) (hIx : ∀ c, OwnBk w.heap.size (Ix c)) (h0 : I [] w) (a₁ : α → World → Act) (ob : α → Obj) (hKa : ∀ (W : World) (o : Obj), Kp W (W.alloc o))
    (hassign : ∀ (l : Nat) (x : α) (W : World) (K : Act → World → Prop), K (a₁ x W) (W.alloc (ob x)) →
      assign.wpIn (F.inRound l) (n - 1 - 1) P (Exit.then K (fun _ _ _ => False)) { tmps := (ps.zip (encs x)).foldl (fun t (p, v) => t.setIfInBounds p v) a.tmps, defers := [] } W)
    (hbody : ∀ (l : Nat) (pre : List α) (x : α) (W0 W : World), w.heap.size < W0.heap.size → W.heap[W0.heap.size]? = some (ob x) → I pre W → pre.length < N → Sp (pre ++ [x]) → body.wpIn (F.inRound l) (n - 1 - 1) P (ownPostB w.heap.size Kp I Ix (pre ++ [x]) W) (a₁ x W0) W)
    (hdone : ∀ (D : Nat) (xs : List α) (W : World), w.heap.size ≤ D → S xs → I xs W → W.heap[D]? = some (.deferred (some [])) → Q .normal { a with defers := { target := .collected D, args := #[] } :: a.defers } W)
    (hstop : ∀ (D : Nat) (c : Code) (pre : List α) (W : World), w.heap.size ≤ D → Sp pre → Ix c pre W → W.heap[D]? = some (.deferred (some [])) → c.wpIn F n P Q { a with defers := { target := .collected D, args := #[] } :: a.defers } W) :
    (Code.rangeFunc g ps assign body).wpIn F n P Q a w := by
  refine wpIn_rangeFunc ?_
  intro fn hfn
  rw [hro]
  obtain ⟨rec, hrec⟩ : ∃ rec : LoopState → Option Code → Loop, rec = fun st pe => { state := st, pending := pe, fn, tmps := a.tmps, params := ps, assign, body, defers := w.heap.size } := ⟨_, rfl⟩
  obtain ⟨W1, hW1⟩ : ∃ W1, (w.alloc (.deferred (some []))).alloc (.loop (rec .ready none)) = W1 := ⟨_, rfl⟩
  have hsz1 : W1.heap.size = w.heap.size + 2 := by rw [← hW1]; simp
  have hL1 : W1.heap[w.heap.size + 1]? = some (.loop (rec .ready none)) := by
    rw [← hW1]; have := World.alloc_heap_new (w.alloc (.deferred (some []))) (.loop (rec .ready none)); rwa [World.size_alloc] at this
  have hK1 : W1.heap[w.heap.size]? = some (.deferred (some [])) := by
    rw [← hW1]; exact (Below.heap_alloc _ _ _ (by simp)).trans (World.alloc_heap_new w _)
  have hI1 : I [] W1 := by rw [← hW1]; exact hI.alloc _ (hI.alloc _ h0)
  have hb1 : Below w0.heap.size w0 W1 := by
    rw [← hW1]; exact hb0.trans ((((Below.refl _ w).alloc (Nat.le_refl _) _).alloc (by simp) _).mono hb0.size)
  refine ⟨w.heap.size + 1, [{ target := .collected w.heap.size, args := #[] }], W1, { target := .fn (.func gf) lb, args := #[.func (.yield (w.heap.size + 1)) #[] #[]] }, W1, gf,
    #[.func (.yield (w.heap.size + 1)) #[] #[]] ++ lb, W1, ?_, ?_, ?_, ?_, fun _ => h1, ?_⟩
  · rw [← hW1, hrec]; exact run_enterLoop_outer _ _ _ _ _
  · simp only [resolve, hg]
    simp [go_sem]
  · intro f' hf'; simp [Target.leads] at hf'; subst hf'; exact hFg
  · simp [invoke, go_sem, eg]
  · have hnw : ∀ {A : World} {row : Option Nat}, (∀ r, row = some r → W1.heap.size ≤ r ∧ ∃ o : Obj, A.heap[r]? = some o ∧ isBook o = true) → (∀ r, row = some r → w.heap.size ≤ r ∧ ∃ o : Obj, A.heap[r]? = some o ∧ isBook o = true) :=
      fun hr r e => ⟨by have := (hr r e).1; omega, (hr r e).2⟩
    have hkeep : ∀ {A B : World} {row : Option Nat} {k : Nat} {o : Obj}, A.grownBy B row → (∀ r, row = some r → W1.heap.size ≤ r ∧ ∃ o : Obj, A.heap[r]? = some o ∧ isBook o = true) → k < W1.heap.size → A.heap[k]? = some o → B.heap[k]? = some o :=
      fun {A B row k o} hg' hr hk h => (hg'.block k (Array.getElem?_eq_some_iff.1 h).1 (fun e => by have := (hr k e.symm).1; omega)).trans h
    refine (hseq (w.heap.size + 1)
      (fun pre W => I pre W ∧ W.heap[w.heap.size + 1]? = some (.loop (rec .ready none)) ∧ W.heap[w.heap.size]? = some (.deferred (some [])))
      (fun pre W => ∃ c, Ix c pre W ∧ W.heap[w.heap.size + 1]? = some (.loop (rec .done (some c))) ∧ W.heap[w.heap.size]? = some (.deferred (some [])))
      W1 hb1
      (fun s A B row hs hg' hr => ⟨hI s A B row hs.1 hg' (hnw hr), hkeep hg' hr (by omega) hs.2.1, hkeep hg' hr (by omega) hs.2.2⟩)
      (fun s A B row hs hg' hr => by
        obtain ⟨c, hc, hl, hk⟩ := hs
        exact ⟨c, hIx c s A B row hc hg' (hnw hr), hkeep hg' hr (by omega) hl, hkeep hg' hr (by omega) hk⟩)
      ?_ ⟨hI1, hL1, hK1⟩).mono ?_
    · rintro pre x W ⟨hi, hl, hk⟩ hlen hsp
      have hlt : w.heap.size + 1 < W.heap.size := (Array.getElem?_eq_some_iff.1 hl).1
      have hy := run_yield (P := P) (args := encs x) hl (by rw [hrec]; exact hps x)
      rw [hrec] at hy
      refine ⟨fn, _, assign, body, hy, roundIn_of_wpIn hfn (hassign _ x W _ ?_)⟩
      clear hy
      obtain ⟨Wa, hWa⟩ : ∃ Wa, W.alloc (ob x) = Wa := ⟨_, rfl⟩
      have hszW : w.heap.size < W.heap.size := by omega
      have hia : I pre Wa := by rw [← hWa]; exact hI.alloc _ hi
      have hga : W.grownBy Wa none := by rw [← hWa]; exact World.grownBy_alloc W _ none
      have hla := (hga.block _ hlt (by simp)).trans hl
      have hka := (hga.block w.heap.size (by omega) (by simp)).trans hk
      have hbx : Wa.heap[W.heap.size]? = some (ob x) := by rw [← hWa]; exact World.alloc_heap_new W _
      have kpa : Kp W Wa := by rw [← hWa]; exact hKa W _
      have kba : KeepsBk W1.heap.size W Wa := KeepsBk.of_grownBy hga (fun j e => by cases e)
      have hlta : w.heap.size + 1 < Wa.heap.size := (Array.getElem?_eq_some_iff.1 hla).1
      rw [hWa]
      clear hWa hga
      refine ⟨_, run_beginRound hla (by rw [hrec]), ?_⟩
      have hl2 : (Wa.putObj (w.heap.size + 1) (.loop { rec .ready none with state := .busy })).heap[w.heap.size + 1]? = some (.loop { rec .ready none with state := .busy }) := World.putObj_heap_same hlta
      have hk2 : (Wa.putObj (w.heap.size + 1) (.loop { rec .ready none with state := .busy })).heap[w.heap.size]? = some (.deferred (some [])) := (World.putObj_heap_other (by omega)).trans hka
      have hw2 : Kp W (Wa.putObj (w.heap.size + 1) (.loop { rec .ready none with state := .busy })) := hKt kpa (hKb _ _ _ _ (by omega) hla rfl rfl)
      have hf2 : KeepsBk W1.heap.size W (Wa.putObj (w.heap.size + 1) (.loop { rec .ready none with state := .busy })) := kba.trans (keeps_put _ (by omega))
      refine wpIn_mono (hbody _ pre x W _ hszW (((World.putObj_heap_other (by omega))).trans hbx) (hI.putObj _ hia (by omega) hla rfl) hlen hsp) ?_
      have fin : ∀ (jump : Option Code) (W3 : World), KeepsBk w.heap.size (Wa.putObj (w.heap.size + 1) (.loop { rec .ready none with state := .busy })) W3 →
          (Instr.endRound (w.heap.size + 1) jump).run P W3 = .ok (.bool jump.isNone) (W3.putObj (w.heap.size + 1) (.loop (rec (if jump.isNone then .ready else .done) jump))) ∧
          W3.heap[w.heap.size + 1]? = some (.loop { rec .ready none with state := .busy }) ∧
          (W3.putObj (w.heap.size + 1) (.loop (rec (if jump.isNone then .ready else .done) jump))).heap[w.heap.size + 1]? = some (.loop (rec (if jump.isNone then .ready else .done) jump)) ∧
          (W3.putObj (w.heap.size + 1) (.loop (rec (if jump.isNone then .ready else .done) jump))).heap[w.heap.size]? = some (.deferred (some [])) ∧
          KeepsBk W1.heap.size W (W3.putObj (w.heap.size + 1) (.loop (rec (if jump.isNone then .ready else .done) jump))) := fun jump W3 hk3 => by
        have hl3 := hk3.same _ _ (by omega) hl2 rfl
        have := run_endRound (P := P) jump hl3
        rw [hrec] at this ⊢
        refine ⟨this, by rw [hrec] at hl3; exact hl3, World.putObj_heap_same (Array.getElem?_eq_some_iff.1 hl3).1, (World.putObj_heap_other (by omega)).trans (hk3.same _ _ (Nat.le_refl _) hk2 rfl), ?_⟩
        refine hf2.trans (KeepsBk.trans ⟨hk3.size, fun k o hB hk ho => hk3.same k o (by omega) hk ho⟩ (keeps_put _ (by omega)))
      rintro e a3 W3 hp
      cases e with
      | normal =>
        obtain ⟨hk3, hkp3, hi3⟩ := hp
        obtain ⟨hr, hl3, hl4, hk4, hkf⟩ := fin none W3 hk3
        exact ⟨_, _, hr, .inl ⟨rfl, ⟨hI.putObj _ hi3 (by omega) hl3 rfl, hl4, hk4⟩, hKt (hKt hw2 hkp3) (hKb _ _ _ _ (by omega) hl3 rfl rfl), hkf⟩⟩
      | ret =>
        obtain ⟨hk3, hi3⟩ := hp
        obtain ⟨hr, hl3, hl4, hk4, hkf⟩ := fin (some .ret) W3 hk3
        exact ⟨_, _, hr, .inr ⟨rfl, ⟨.ret, (hIx _).putObj _ hi3 (by omega) hl3 rfl, hl4, hk4⟩, hkf⟩⟩
      | exit id =>
        obtain ⟨hk3, hi3⟩ := hp
        obtain ⟨hr, hl3, hl4, hk4, hkf⟩ := fin (some (.exit id)) W3 hk3
        exact ⟨_, _, hr, .inr ⟨rfl, ⟨.exit id, (hIx _).putObj _ hi3 (by omega) hl3 rfl, hl4, hk4⟩, hkf⟩⟩
      | goto t =>
        obtain ⟨hk3, hi3⟩ := hp
        obtain ⟨hr, hl3, hl4, hk4, hkf⟩ := fin (some (.goto t)) W3 hk3
        exact ⟨_, _, hr, .inr ⟨rfl, ⟨.goto t, (hIx _).putObj _ hi3 (by omega) hl3 rfl, hl4, hk4⟩, hkf⟩⟩
      | panic ch => exact hp.elim
      | outgrown => exact hp.elim
    · rintro e W2 ⟨⟨v, rfl⟩, (⟨xs, hS, hi, hl, hk⟩ | ⟨pre, hSp, c, hi, hl, hk⟩)⟩
      · exact ⟨none, _, by have := run_endLoop (P := P) hl (by rw [hrec]; simp); rw [hrec] at this; exact this, hdone _ xs _ (Nat.le_refl _) hS (hI.putObj _ hi (by omega) hl rfl) ((World.putObj_heap_other (by omega)).trans hk)⟩
      · exact ⟨some c, _, by have := run_endLoop (P := P) hl (by rw [hrec]; simp); rw [hrec] at this; exact this, hstop _ c pre _ (Nat.le_refl _) hSp ((hIx c).putObj _ hi (by omega) hl rfl) ((World.putObj_heap_other (by omega)).trans hk)⟩
end Go.Proofs.Ytfmghbmbahembaa

/- endOfLabels, target, Or: the parts of Get. -/
namespace Go.Proofs.Ytfmghbmbahembaa
open Go.RowKit Go.Shelf
attribute [local go_sem] Oper.semAt_some

def pairRet (x : Option Nat) : Value := match x with
  | some e => .tuple #[.int .i64 (e : Int), .bool true]
  | none => .tuple #[.int .i64 0, .bool false]
def eolI (b : List UInt8) (z : Int) : Option Nat := if z < 0 then none else Wn.eol b z.toNat
theorem eolI_nat (b : List UInt8) (k : Nat) : eolI b (k : Int) = Wn.eol b k := by
  unfold eolI; rw [if_neg (by omega)]; rfl
theorem bneN {a b : UInt8} (h : a.toNat ≠ b.toNat) : ((a.toNat : Int) == (b.toNat : Int)) = false := nbeqI (fun e => h (by rw [e]))

set_option maxRecDepth 100000 in
set_option maxHeartbeats 1000000 in
theorem endl_any (b : List UInt8) (bv : Value) (z : Int) (w : World) (hr : ReadB bv b w) (hlen : b.length ≤ 100000) (hz1 : -9223372036854775808 ≤ z) (hz2 : z ≤ 9223372036854775807) :
    Calls Try.prog 90 #[bv, .int .i64 z] w fun e w' => e = .returned (pairRet (eolI b z)) ∧ w = w' := by
  obtain ⟨ao, cap, rfl, hc⟩ := hr.form
  by_cases hneg : z < 0
  · have H : Hid (eolI b z = none) := Lib.hid (if_pos hneg)
    go_enter Try.func90, Try.ntmps90
    go_wp2
    go_loop [1] (fun i => i = .int .i64 z) (fun _ => 0)
    case atStart => rfl
    case round =>
      obtain rfl := hrel
      go_wp2
      go_ret2
      exact ⟨by rw [H.out]; rfl, rfl⟩
  · obtain ⟨p, rfl⟩ := Int.eq_ofNat_of_zero_le (by omega : 0 ≤ z)
    obtain ⟨x, hx⟩ : ∃ x, Wn.eol b p = x := ⟨_, rfl⟩
    have HR : Hid (pairRet (eolI b (p : Int)) = pairRet x) := Lib.hid (by rw [eolI_nat, hx])
    have HC := Lib.hid hc
    have HX := Lib.hid hx
    clear hc hx hneg
    go_enter Try.func90, Try.ntmps90
    go_wp2
    go_loop [1] (fun i => ∃ k : Nat, i = .int .i64 (k : Int) ∧ k ≤ 9223372036854775807 ∧ Hid (Wn.eol b k = x)) (fun i => b.length + 1 - (intOf i).toNat)
    case atStart => exact ⟨p, rfl, by omega, HX⟩
    case round =>
      obtain ⟨k, rfl, hk, hh⟩ := hrel
      have h0k : 0 ≤ (k : Int) := by omega
      by_cases hlt : k < b.length
      · obtain ⟨g, off, rfl, c1⟩ := HC.out k hlt
        unfold encB at c1
        have E1 := Lib.hid (fun h => Wn.eol_end (b := b) hlt h)
        have E2 := Lib.hid (fun h h' => Wn.eol_bad (b := b) hlt h h')
        have E3 := Lib.hid (fun h h' => Wn.eol_step (b := b) hlt h h')
        obtain ⟨c, hcc⟩ : ∃ c, c = b[k] := ⟨_, rfl⟩
        rw [← hcc] at c1 E1 E2 E3
        have hc255 : c.toNat ≤ 255 := by have := c.toNat_lt; omega
        clear hcc
        by_cases h0 : c.toNat = 0
        · have t1 : ((c.toNat : Int) == 0) = true := by rw [h0]; rfl
          have HF : Hid (pairRet (eolI b (p : Int)) = .tuple #[.int .i64 (k : Int), .bool true]) := Lib.hid (by rw [HR.out, ← hh.out, E1.out (.inl h0)]; rfl)
          clear h0
          go_wp2
          go_ret2
          exact ⟨by rw [HF.out]; rfl, rfl⟩
        · have t1 : ((c.toNat : Int) == 0) = false := by rw [beq_eq_false_iff_ne]; omega
          by_cases h1 : 192 ≤ c.toNat
          · have HF : Hid (pairRet (eolI b (p : Int)) = .tuple #[.int .i64 (k : Int), .bool true]) := Lib.hid (by rw [HR.out, ← hh.out, E1.out (.inr h1)]; rfl)
            clear h0
            go_wp2
            go_ret2
            exact ⟨by rw [HF.out]; rfl, rfl⟩
          · by_cases h2 : 63 < c.toNat
            · have HF : Hid (pairRet (eolI b (p : Int)) = .tuple #[.int .i64 0, .bool false]) := Lib.hid (by rw [HR.out, ← hh.out, E2.out h2 (by omega)]; rfl)
              clear h0
              go_wp2
              go_ret2
              exact ⟨by rw [HF.out]; rfl, rfl⟩
            · have HS : Hid (Wn.eol b (k + (1 + c.toNat)) = x) := Lib.hid (by rw [← E3.out h0 (by omega)]; exact hh.out)
              clear h0
              go_wp2
              exact ⟨⟨k + (1 + c.toNat), by go_num, by omega, HS⟩, by simp [intOf]; omega⟩
      · have HF : Hid (pairRet (eolI b (p : Int)) = .tuple #[.int .i64 0, .bool false]) := Lib.hid (by rw [HR.out, ← hh.out, Wn.eol_none (by omega)]; rfl)
        go_wp2
        go_ret2
        exact ⟨by rw [HF.out]; rfl, rfl⟩

theorem andNot192 : ∀ c : Fin 256, 192 ≤ c.val → bits .andNot .u8 (c.val : Int) 192 = (c.val : Int) - 192 := by decide +kernel
theorem wrapsG_i64 (n : Int) (h₀ : 0 ≤ n) (h₁ : n < 2 ^ 62) : IntKind.i64.wrap n = n := by rw [IntKind.wrap_i64]; omega
theorem or256 (x y : Int) (h0 : 0 ≤ x) (h1 : x % 256 = 0) (h2 : x < 1000000) (h3 : 0 ≤ y) (h4 : y < 256) : bits .or .i64 x y = x + y :=
  bits_join .i64 62 (by decide) wrapsG_i64 8 x y h0 h1 (by omega) h3 h4 (by omega)
theorem target_ret {c d : UInt8} (h : 192 ≤ c.toNat) (hc : c.toNat ≤ 255) (hd : d.toNat ≤ 255) :
    Ending.returned (.tuple #[.int .i64 (bits .or .i64 (wrap64 (wrap64 (bits .andNot .u8 (c.toNat : Int) 192) * 256)) (d.toNat : Int)), .bool true]) = .returned (pairRet (some ((c.toNat - 192) * 256 + d.toNat))) := by
  have e : bits .or .i64 (wrap64 (wrap64 (bits .andNot .u8 (c.toNat : Int) 192) * 256)) (d.toNat : Int) = (((c.toNat - 192) * 256 + d.toNat : Nat) : Int) := by
    have h1 := andNot192 ⟨c.toNat, by omega⟩ h
    rw [h1, show wrap64 ((c.toNat : Int) - 192) = (c.toNat : Int) - 192 by unfold wrap64; omega, show wrap64 (((c.toNat : Int) - 192) * 256) = ((c.toNat : Int) - 192) * 256 by unfold wrap64; omega,
      or256 _ _ (by omega) (by omega) (by omega) (by omega) (by omega)]
    omega
  rw [e]; rfl

set_option maxRecDepth 100000 in
set_option maxHeartbeats 1000000 in
theorem target_any (b : List UInt8) (bv : Value) (k : Nat) (w : World) (hr : ReadB bv b w) (hlen : b.length ≤ 100000) (hk : k < b.length) (h192 : 192 ≤ b[k].toNat) :
    Calls Try.prog 92 #[bv, .int .i64 (k : Int)] w fun e w' => e = .returned (pairRet (Wn.ptr b k)) ∧ Drew w w' := by
  obtain ⟨ao, cap, rfl, hc⟩ := hr.form
  by_cases hlt : k + 1 < b.length
  · obtain ⟨g, off, rfl, c1⟩ := hc k hk
    obtain ⟨g2, off2, e2, c2⟩ := hc (k + 1) hlt
    cases e2
    unfold encB at c1 c2
    have HP := Lib.hid (Wn.ptr_some hlt)
    obtain ⟨c, hcc⟩ : ∃ c, c = b[k] := ⟨_, rfl⟩
    obtain ⟨d, hd⟩ : ∃ d, d = b[k + 1] := ⟨_, rfl⟩
    rw [← hcc] at c1 HP h192
    rw [← hd] at c2 HP
    have hc255 : c.toNat ≤ 255 := by have := c.toNat_lt; omega
    have hd255 : d.toNat ≤ 255 := by have := d.toNat_lt; omega
    clear hc hcc hd
    go_enter Try.func92, Try.ntmps92
    go_wp2
    go_quiet (fail)
    go_wp2
    go_ret2
    refine ⟨?_, ⟨_, rfl⟩⟩
    rw [HP.out]
    exact target_ret h192 hc255 hd255
  · have H : Hid (pairRet (Wn.ptr b k) = .tuple #[.int .i64 0, .bool false]) := Lib.hid (by rw [Wn.ptr_none (by omega)]; rfl)
    go_enter Try.func92, Try.ntmps92
    go_wp2
    go_ret2
    exact ⟨by rw [H.out]; rfl, Drew.refl _⟩

/-- The first one that is not 0. -/
def orI : List Int → Int
  | [] => 0
  | x :: r => if x = 0 then orI r else x

set_option maxRecDepth 100000 in
set_option maxHeartbeats 1000000 in
theorem or_any (zs : List Int) (v : Value) (w : World) (hr : ReadI v zs w) (hlen : zs.length ≤ 100000) :
    Calls Try.prog 91 #[v] w fun e w' => e = .returned (.int .i64 (orI zs)) ∧ w = w' := by
  obtain ⟨ao, cap, rfl, hc⟩ := hr.form
  obtain ⟨x, hx⟩ : ∃ x, orI zs = x := ⟨_, rfl⟩
  rw [hx]
  have HC := Lib.hid hc
  have HX := Lib.hid hx
  clear hc hx
  go_enter Try.func91, Try.ntmps91
  go_wp2
  go_loop [8] (fun i => ∃ k : Nat, k ≤ zs.length ∧ i = .int .i64 (k : Int) ∧ Hid (orI (zs.drop k) = x)) (fun i => zs.length + 1 - (intOf i).toNat)
  case atStart => exact ⟨0, by omega, rfl, HX⟩
  case round =>
    obtain ⟨k, hk, rfl, hh⟩ := hrel
    by_cases hlt : k < zs.length
    · obtain ⟨g, off, rfl, c1⟩ := HC.out k hlt
      have hst := hh.out
      rw [List.drop_eq_getElem_cons hlt, orI] at hst
      obtain ⟨y, hy⟩ : ∃ y, y = zs[k] := ⟨_, rfl⟩
      rw [← hy] at c1 hst
      clear hy hh
      by_cases h0 : y = 0
      · rw [if_pos h0] at hst
        have HN := Lib.hid hst
        subst h0
        clear hst
        go_wp2
        exact ⟨⟨k + 1, by omega, by go_num, HN⟩, by simp [intOf]; omega⟩
      · rw [if_neg h0] at hst
        have HF := Lib.hid hst
        have t1 : (y != 0) = true := by rw [bne_iff_ne]; exact h0
        clear h0 hst
        go_wp2
        go_ret
        exact ⟨ret_int HF.out, rfl⟩
    · have hst := hh.out
      rw [List.drop_of_length_le (by omega), orI] at hst
      have HF := Lib.hid hst
      clear hst hh
      go_wp2
      go_ret
      exact ⟨ret_int HF.out, rfl⟩
end Go.Proofs.Ytfmghbmbahembaa
