/- 2 texts put together: Lrun, LtabT. -/
import Derived.Deep.LoopGhost
import Derived.Maps.AppendAt
import Derived.WalkSpells
import Derived.Test.YtchlemajppnehaaJW3
import Derived.Test.YtchlemajppnehaaJW8
/- An LRU's walk: the run. -/
set_option maxRecDepth 100000
namespace Go.Proofs.Ytchlemajppnehaa
open Go Go.RowKit Go.Shelf Go.Maps
attribute [local go_sem] Oper.semAt_some
def encK (x : Int) : Array Value := #[.int .i64 x]
theorem one_of {e : Ending} {A B : Prop} (h : (e = .returned (.bool true) ∧ A) ∨ (e = .returned (.bool false) ∧ B)) : ∃ b : Bool, e = .returned (.bool b) ∧ Hid ((b = true ∧ A) ∨ (b = false ∧ B)) :=
  h.elim (fun ⟨e, a⟩ => ⟨true, e, .inl ⟨rfl, a⟩⟩) (fun ⟨e, b⟩ => ⟨false, e, .inr ⟨rfl, b⟩⟩)
/-- At the head of the run's loop: n are left, the one in hand with them. -/
def RunR (X : Nat) (most : Int) (P Q : List Int) (N xb : Nat) (C : List Int → (Nat → Prop) → World → Prop) (n : Nat) (v ok : Value) (wr : World) : Prop :=
  ∃ pre f, C pre f wr ∧ ((∃ x R, pre ++ x :: R = P ++ Q ∧ n = R.length + 1 ∧ v = .int .i64 x ∧ ok = .bool true ∧ UL X most P Q N xb R f wr) ∨ (pre = P ++ Q ∧ n = 0 ∧ v = .int .i64 0 ∧ ok = .bool false ∧ UL X most P Q N xb [] f wr))
/-- What an append to the list of walks leaves. -/
theorem run_made {X : Nat} {S : Lr.St} {L : TL} {ao : Option Addr} {cap g cp B xb lb cb ab j : Nat} {T : List Nat} {W1 w1 : World} {ob : Obj} {cs : List Value} (hg : (W1.alloc ob).grownBy w1 (Value.slice ao 0 cap).ownBlock) (_ho : OwnK encW 1 tWp 0 (.slice (some ⟨g, 0, none⟩) 1 cp) [xb] w1)
    (hl : (Value.slice ao 0 cap).ownBlock = some g ∨ g = (W1.alloc ob).heap.size) (h1 : LruE X S L (.slice ao 0 cap) W1) (h2 : OwnK encW 1 tWp 0 (.slice ao 0 cap) [] W1) (h3 : Blk W1 B cs 109) (h4 : StepE X lb cb ab T j W1) (hX : X < W1.heap.size) :
    LruE X S L (.slice ao 0 cap) w1 ∧ Blk w1 B cs 109 ∧ StepE X lb cb ab T j w1 ∧ ((Value.slice ao 0 cap).ownBlock = some g ∨ W1.heap.size ≤ g) ∧ X ≠ g ∧ (∀ k, k < W1.heap.size → (Value.slice ao 0 cap).ownBlock ≠ some k → w1.heap[k]? = W1.heap[k]?) := by
  have hsz : (W1.alloc ob).heap.size = W1.heap.size + 1 := by simp
  have hgg : (Value.slice ao 0 cap).ownBlock = some g ∨ W1.heap.size ≤ g := hl.imp id (fun e => by omega)
  have hb : ∀ k, k < W1.heap.size → (Value.slice ao 0 cap).ownBlock ≠ some k → w1.heap[k]? = W1.heap[k]? := fun k hk hne =>
    (hg.block k (by omega) (fun e => hne e.symm)).trans (Below.heap_alloc W1 ob k hk)
  obtain ⟨bx, ht, hx⟩ := h1.ex
  obtain ⟨c, hc⟩ := own_blk ht.rows
  have nB : ∀ (k : Nat) (l : List Value) (t : TypeId), t ≠ tWp → Blk W1 k l t → (Value.slice ao 0 cap).ownBlock ≠ some k := fun k l t htt hk e => by
    obtain ⟨d, hd⟩ := own_blk' h2 e
    exact hk.ne hd htt rfl
  have keep : ∀ (k : Nat) (l : List Value) (t : TypeId), t ≠ tWp → Blk W1 k l t → w1.heap[k]? = W1.heap[k]? := fun k l t htt hk => hb k hk.lt (nB k l t htt hk)
  refine ⟨⟨bx, ⟨ht.box.kept (keep _ _ _ (by decide) ht.box), ht.c0, ht.c1, ht.c2, ht.map.kept (hb _ ht.map.lt fun e => ?_), own_kept ht.rows (fun b e => by cases e; exact keep _ _ _ (by decide) hc), own_kept ht.spare (fun b e => ?_), ht.tx⟩, hx⟩, h3.kept (keep _ _ _ (by decide) h3), ⟨h4.left.kept (keep _ _ _ (by decide) h4.left), h4.at_.kept (keep _ _ _ (by decide) h4.at_), h4.box.kept (keep _ _ _ (by decide) h4.box), h4.ne⟩, hgg, fun e => ?_, hb⟩
  · obtain ⟨d, hd⟩ := own_blk' h2 e
    exact ht.map.ne hd rfl
  · obtain ⟨d, hd⟩ := own_blk' ht.spare e
    exact keep _ _ _ (by decide) hd
  · rcases hgg with h | h
    · obtain ⟨d, hd⟩ := own_blk' h2 h
      exact ht.box.ne hd (by decide) e
    · omega
theorem run_begin {X : Nat} {most : Int} {P Q : List Int} {N : Nat} {S : Lr.St} {L : TL} {ao : Option Addr} {cap g cp xb lb cb ab : Nat} {p q : List Nat} {W W1 w1 : World} {f : Nat → Prop} (h1 : LruE X S L (.slice ao 0 cap) w1) (ho : OwnK encW 1 tWp 0 (.slice (some ⟨g, 0, none⟩) 1 cp) [xb] w1)
    (h3 : Blk w1 xb [nfL lb cb ab] 109) (h4 : StepE X lb cb ab (p ++ q) 0 w1) (hgg : (Value.slice ao 0 cap).ownBlock = some g ∨ W1.heap.size ≤ g) (hXg : X ≠ g) (hk : ∀ k, k < W1.heap.size → (Value.slice ao 0 cap).ownBlock ≠ some k → w1.heap[k]? = W1.heap[k]?)
    (h2 : OwnK encW 1 tWp 0 (.slice ao 0 cap) [] W) (hb : Below W.heap.size W W1) (hT : W1.os = w1.os ∧ W1.tape = w1.tape ∧ W1.output = w1.output ∧ W1.heap.size ≤ w1.heap.size) (hxb : W.heap.size ≤ xb) (hI : Lr.InvF S p q [] N) (hm : S.most = most) (hP : P = p.map (fun i => (Lr.rat S.T.rows i).k)) (hQ : Q = q.map (fun i => (Lr.rat S.T.rows i).k)) (hle : (q.length : Int) ≤ most) (hn : L.n ≤ N)
    (fX : f X) (fM : f L.M) (fR : f L.R) (fs : ∀ b, L.sv.ownBlock = some b → f b ∧ b ≠ lb ∧ b ≠ ab) (fg : ∀ b, (Value.slice ao 0 cap).ownBlock = some b → f b) (fl : f lb) (fc : f cb) (fa : f ab) (fb : ∀ k, f k → k < W.heap.size) :
    Trn f W (w1.setCell ⟨X, 6, none⟩ (.slice (some ⟨g, 0, none⟩) 1 cp)) ∧ UL X most P Q N xb (P ++ Q) (grow f W (w1.setCell ⟨X, 6, none⟩ (.slice (some ⟨g, 0, none⟩) 1 cp))) (w1.setCell ⟨X, 6, none⟩ (.slice (some ⟨g, 0, none⟩) 1 cp)) := by
  have hbs := hb.size
  have h1s := hT.2.2.2
  obtain ⟨bx, ht, _⟩ := h1.ex
  obtain ⟨d, hd⟩ := own_blk ho
  have t0 : Trn f W w1 := ⟨hT.1.symm.trans hb.os, hT.2.1.symm.trans hb.tape, hT.2.2.1.symm.trans hb.output, by omega, fun k hkl hnf => (hk k (by omega) (fun e => hnf (fg k e))).trans (hb.block k hkl), fun k o ho hbk => by
    have hkl : k < W.heap.size := (Array.getElem?_eq_some_iff.1 ho).1
    refine ((hk k (by omega) (fun e => ?_)).trans (hb.block k hkl)).trans ho
    obtain ⟨d2, hd2⟩ := own_blk' h2 e
    rw [show W.heap[k]? = _ from hd2] at ho
    cases ho
    cases hbk⟩
  obtain ⟨e2, t2⟩ := h1.walks (.slice (some ⟨g, 0, none⟩) 1 cp)
  have t3 := t0.trans (t2.mono (g := grow f W w1) fun b _ e => .inl (e ▸ fX))
  have hs := fun b (hb : b ≠ X) => Below.heap_setCell w1 ⟨X, 6, none⟩ (.slice (some ⟨g, 0, none⟩) 1 cp) b hb
  have nX : ∀ b cs t, t ≠ tLru → Blk w1 b cs t → b ≠ X := fun b cs t htt hbb e => by subst e; exact hbb.ne ht.box htt rfl
  have hsz := t2.size
  refine ⟨t3, ⟨⟨S, L, g, cp, p, q, lb, cb, ab, 0, e2, own_kept ho (fun b e => by cases e; exact hs _ (Ne.symm hXg)), hI, hm, hP, hQ, hle, hn, ⟨h4.left.kept (hs _ (nX _ _ _ (by decide) h4.left)), h4.at_.kept (hs _ (nX _ _ _ (by decide) h4.at_)), h4.box.kept (hs _ (nX _ _ _ (by decide) h4.box)), h4.ne⟩, h3.kept (hs _ (nX _ _ _ (by decide) h3)), Nat.zero_le _, by rw [List.drop_zero, List.map_append, hP, hQ],
    .inl fM, .inl fR, fun b e => ⟨.inl (fs b e).1, (fs b e).2⟩, ?_, .inl fl, .inl fc, .inl fa, .inr ⟨hxb, by have := h3.lt; omega⟩⟩, .inl fX, fun k e => ?_⟩⟩
  · rcases hgg with e | e
    · exact .inl (fg g e)
    · exact .inr ⟨by omega, by have := hd.lt; omega⟩
  · rcases e with e | e
    · exact Nat.lt_of_lt_of_le (fb k e) t3.size
    · exact e.2
section
variable {X : Nat} {most : Int} {P Q : List Int} {N m l : Nat} {f : Nat → Prop} {W : World}
theorem ul_next {xb : Nat} {R pre : List Int} {C : List Int → (Nat → Prop) → World → Prop} {w : World} (h : UL X most P Q N xb R f w) (hN : N < 80000) (hR : pre ++ R = P ++ Q) (hC : ∀ pre s s' W W', C pre s W → MvL s W s' W' → C pre s' W') (h0 : C pre f w) : ∃ lb cb ab, w.cell? ⟨xb, 0, none⟩ = some (nfL lb cb ab) ∧
    Calls Try.prog 90 #[.pointer (some ⟨lb, 0, none⟩), .pointer (some ⟨cb, 0, none⟩), .pointer (some ⟨ab, 0, none⟩)] w fun e w' => ∃ v ok, e = .returned (.tuple #[v, ok]) ∧ RunR X most P Q N xb C R.length v ok w' := by
  cases R with
  | nil =>
    obtain ⟨lb, cb, ab, h1, h2⟩ := ul_nil h
    refine ⟨lb, cb, ab, h1, h2.mono ?_⟩
    rintro e w' ⟨rfl, rfl⟩
    exact ⟨_, _, rfl, pre, f, h0, .inr ⟨by simpa using hR, rfl, rfl, rfl, h⟩⟩
  | cons x R =>
    obtain ⟨lb, cb, ab, h1, h2⟩ := ul_cons h hN
    refine ⟨lb, cb, ab, h1, h2.mono ?_⟩
    rintro e w' ⟨rfl, t, h3⟩
    exact ⟨_, _, rfl, pre, _, hC _ _ _ _ _ h0 (mvL t), .inl ⟨x, R, hR, rfl, rfl, rfl, h3⟩⟩
set_option maxHeartbeats 4000000 in
theorem lrun_in (hm : 1 ≤ m) (hN : N < 80000) {S : Lr.St} {L : TL} {ao : Option Addr} {cap : Nat} {p q : List Nat} {lb cb ab : Nat} (h1 : LruE X S L (.slice ao 0 cap) W) (h2 : OwnK encW 1 tWp 0 (.slice ao 0 cap) [] W) (h3 : Lr.InvF S p q [] N) (h4 : S.most = most) (h5 : P = p.map (fun i => (Lr.rat S.T.rows i).k)) (h6 : Q = q.map (fun i => (Lr.rat S.T.rows i).k))
    (h7 : (q.length : Int) ≤ most) (h8 : L.n ≤ N) (h9 : StepE X lb cb ab (p ++ q) 0 W) (fX : f X) (fM : f L.M) (fR : f L.R) (fs : ∀ b, L.sv.ownBlock = some b → f b ∧ b ≠ lb ∧ b ≠ ab) (fg : ∀ b, (Value.slice ao 0 cap).ownBlock = some b → f b) (fl : f lb) (fc : f cb) (fa : f ab) (fb : ∀ k, f k → k < W.heap.size)
    (C Cx : List Int → (Nat → Prop) → World → Prop) (hC : ∀ pre s s' W W', C pre s W → MvL s W s' W' → C pre s' W') (hCx : ∀ pre s s' W W', Cx pre s W → MvL s W s' W' → Cx pre s' W') (h0 : C [] f W)
    (hY : ∀ t pre x R s W1, pre ++ x :: R = P ++ Q → UL X most P Q N t R s W1 → C pre s W1 → YieldAt Fence.wide (m - 1) Try.prog l (encK x) W1 fun e W' =>
      (e = .returned (.bool true) ∧ ∃ s', UL X most P Q N t R s' W' ∧ C (pre ++ [x]) s' W') ∨ (e = .returned (.bool false) ∧ ∃ s', UL X most P Q N t R s' W' ∧ Cx (pre ++ [x]) s' W')) :
    CallsIn Fence.wide m Try.prog 81 #[.pointer (some ⟨X, 6, none⟩), nfL lb cb ab, .func (.yield l) #[] #[]] W fun e W' => (∃ v, e = .returned v) ∧ ∃ s, LV X most P Q N s W' ∧ (C (P ++ Q) s W' ∨ ∃ pre, pre <+: P ++ Q ∧ Cx pre s W') := by
  obtain ⟨_, _, _, q6, qf⟩ := h1.cells
  have HY := Lib.hid hY
  have HC := Lib.hid hC
  have HCx := Lib.hid hCx
  have H0 := Lib.hid h0
  clear hY hC hCx h0
  unfold nfL
  refine callsIn_of_wp_defers Try.func81 rfl trivial ?_ rfl
  simp only [Try.ntmps81, List.size_toArray, List.length_cons, List.length_nil, Nat.reduceAdd, Nat.reduceSub, Array.replicate_succ, Array.replicate_zero, List.push_toArray, List.append_toArray, List.nil_append, List.cons_append]
  have nb := Blk.new W [nfL lb cb ab] 109
  have hba : Below W.heap.size W (W.alloc (.cells #[nfL lb cb ab] 109)) := (Below.refl _ _).alloc (Nat.le_refl _) _
  have hXW : X < W.heap.size := fb X fX
  have e1 := h1.below hba
  obtain ⟨_, _, _, q6', _⟩ := e1.cells
  have s1 := h9.below hba
  have o1 := ownK_below h2 hba
  unfold nfL at q6' nb
  gi_wp2_with (gi_at_builtin; go_loud (
     refine wpListIn_apK encW_len (by decide) encW_one (x := fun _ => True) Try.underlying85 infoW rfl (by decide) rfl _ _ rfl rfl 0 (.slice ao 0 cap) [] rfl (ownK_alloc (ownK_alloc h2 _) _) (.slice (some ⟨W.heap.size + 1, 0, none⟩) 1 1) [W.heap.size] (by simp) rfl (RK.oneN (enc := encW) W.heap.size tWp _ _ (by simp) _ rfl) (by simp) (Nat.zero_le _) ?_
     intro g cp w1 ho1 hg1 hl1
     simp only [List.nil_append, List.length_singleton] at ho1
     obtain ⟨E2, B2, S2, hgg, hXg, hKK⟩ := run_made hg1 ho1 hl1 e1 o1 nb s1 (Nat.lt_of_lt_of_le hXW hba.size)
     obtain ⟨_, _, _, q62, f62⟩ := E2.cells
     have d3 := B2.cell (i := 0) rfl
     have hne : ¬ W.heap.size = X := fun e => by omega
     have hUL := run_begin E2 ho1 B2 S2 hgg hXg hKK h2 hba ⟨hg1.os.symm, hg1.tape.symm, hg1.output.symm, Nat.le_trans (by simp) hg1.size⟩ (Nat.le_refl _) h3 h4 h5 h6 h7 h8 fX fM fR fs fg fl fc fa fb))
  obtain ⟨t3, hU⟩ := hUL
  have d4 := (B2.other hne 6 (.slice (some ⟨g, 0, none⟩) 1 cp)).cell (i := 0) rfl
  clear hKK hne d3 f62 q62 hgg hXg S2 B2 E2 hl1 hg1 ho1 o1 s1 e1 q6' hba nb q6 qf h9 h8 h7 h1 h2 h3
  generalize w1.setCell ⟨X, 6, none⟩ (.slice (some ⟨g, 0, none⟩) 1 cp) = W3 at *
  have hC3 := HC.out _ _ _ _ _ H0.out (mvL t3)
  generalize hxb : W.heap.size = xb at *
  have hfx : xb = W.heap.size := hxb.symm
  obtain ⟨lb', cb', ab', c1, c2⟩ := ul_next hU hN (pre := []) rfl HC.out hC3
  have hnf : nfL lb' cb' ab' = nfL lb cb ab := by
    rw [d4] at c1
    exact (Option.some.inj c1).symm
  unfold nfL at hnf
  simp at hnf
  obtain ⟨rfl, rfl, rfl⟩ := hnf
  clear c1 d4 hfx
  refine ⟨trivial, ?_⟩
  refine (callsIn_wide.2 c2).mono ?_
  rintro e w2 ⟨v, ok, rfl, hR⟩
  clear c2
  gi_wp2_with fail
  gi_loopw [7, 8] (fun v ok wr => ∃ n, RunR X most P Q N xb C n v ok wr) (fun v ok wr => leastOf (fun n => RunR X most P Q N xb C n v ok wr))
  case atStart => exact ⟨_, hR⟩
  case round =>
    clear hR hU hC3 H0 t3
    obtain ⟨hR1, hmin⟩ := leastOf_spec hrel
    obtain ⟨pre, f1, hc, ⟨x, R, hT, hn, rfl, rfl, hU1⟩ | ⟨hT, hn, rfl, rfl, hU1⟩⟩ := hR1
    · have HN := Lib.hid hn
      clear hn hmin hrel
      obtain ⟨fn, tmps, assign, body, hy, hRd⟩ := HY.out xb pre x R f1 wr hT hU1 hc
      simp only [encK] at hy
      have HC1 := Lib.hid hc
      clear hc hU1
      have hT2 : (pre ++ [x]) ++ R = P ++ Q := by rw [List.append_assoc]; exact hT
      have HT2 := Lib.hid hT2
      have hpre : pre ++ [x] <+: P ++ Q := ⟨R, hT2⟩
      clear hT2 hT
      gi_wp2_with (refine hRd.mono ?_; intro e W4 hor; rcases hor with ⟨rfl, s', hU', hC'⟩ | ⟨rfl, s', hU', hC'⟩; (obtain ⟨lb2, cb2, ab2, c1, c2⟩ := ul_next hU' hN (pre := pre ++ [x]) HT2.out HC.out hC'; unfold nfL at c1))
      · refine ⟨trivial, ?_⟩
        refine (callsIn_wide.2 c2).mono ?_
        rintro e w5 ⟨v5, ok5, rfl, hR5⟩
        have HN2 := HN.out
        clear c1 c2 hU' hC'
        gi_wp2_with fail
        go_roundw
        case rel => exact ⟨_, hR5⟩
        case measure =>
          have h5 := (leastOf_spec (p := fun n => RunR X most P Q N xb C n v5 ok5 w5) ⟨_, hR5⟩).2 _ hR5
          rw [HN2]
          exact Nat.lt_succ_of_le h5
      · refine leavesIn_cons (fv := .func 89) (cap := #[]) (dargs := #[.pointer (some ⟨X, 6, none⟩), .pointer (some ⟨xb, 0, none⟩)]) (f := 89) (args := #[.pointer (some ⟨X, 6, none⟩), .pointer (some ⟨xb, 0, none⟩)]) (by simp) (fun e => by cases e) (by simp [go_sem]) (fun _ _ => trivial) ?_
        refine (ul_end hU').mono ?_
        rintro e u' w6 ⟨rfl, rfl, t6, hV⟩
        exact ⟨_, results_none rfl _ _ _, ⟨_, rfl⟩, _, hV, .inr ⟨_, hpre, HCx.out _ _ _ _ _ hC' (mvL t6)⟩⟩
    · have HC1 := Lib.hid hc
      clear hc hn hmin hrel
      have HT := Lib.hid hT
      clear hT
      gi_wp2_with fail
      first
        | (refine leavesIn_cons (fv := .func 89) (cap := #[]) (dargs := #[.pointer (some ⟨X, 6, none⟩), .pointer (some ⟨xb, 0, none⟩)]) (f := 89) (args := #[.pointer (some ⟨X, 6, none⟩), .pointer (some ⟨xb, 0, none⟩)]) (by simp) (fun e => by cases e) (by simp [go_sem]) (fun _ _ => trivial) ?_)
        | (refine ⟨(fun _ e => by cases e), ?_⟩
           gi_wp2_with fail
           refine leavesIn_cons (fv := .func 89) (cap := #[]) (dargs := #[.pointer (some ⟨X, 6, none⟩), .pointer (some ⟨xb, 0, none⟩)]) (f := 89) (args := #[.pointer (some ⟨X, 6, none⟩), .pointer (some ⟨xb, 0, none⟩)]) (by simp) (fun e => by cases e) (by simp [go_sem]) (fun _ _ => trivial) ?_)
      refine (ul_end hU1).mono ?_
      rintro e u' w6 ⟨rfl, rfl, t6, hV⟩
      refine ⟨_, results_none rfl _ _ _, ⟨_, rfl⟩, _, hV, .inl ?_⟩
      have h7 := HC.out _ _ _ _ _ HC1.out (mvL t6)
      rw [HT.out] at h7
      exact h7
end
end Go.Proofs.Ytchlemajppnehaa

/- Rows by key, of a term: takes, find, add, drop. -/
set_option maxRecDepth 100000
namespace Go.Proofs.Ytchlemajppnehaa
open Go Go.RowKit Go.Shelf Go.Maps
abbrev tT : TypeId := 98
theorem qMapT (w : World) (r : Option Nat) : (binOp .neq 55 (.map r) (.map none)).run Try.prog w = .ok (.bool (!r.isNone)) w := run_neq_map_nil w _ _ _ r Try.underlying55
section
variable {X o : Nat} {tX : TypeId} {bx : List Value} {T : Tb.Tab} {L : TL} {w : World}
theorem takesT (h : TabE tT X o tX bx T L w) (k : Int) (hk : I64 k) :
    Calls Try.prog 44 #[.pointer (some ⟨X, o, none⟩), .int .i64 k] w fun e w' => e = .returned (.bool true) ∧ Below w.heap.size w w' := by
  obtain ⟨c0, _, _⟩ := h.cells
  have q := qMapT
  go_enter Try.func44, Try.ntmps44
  go_wp2_with (go_at_call 67; refine (able_any k hk _).mono ?_; rintro e w1 ⟨rfl, b1⟩)
  go_ret
  exact ⟨rfl, b1⟩
theorem findT (h : TabE tT X o tX bx T L w) (k : Int) (hk : I64 k) :
    Calls Try.prog 69 #[.pointer (some ⟨X, o, none⟩), .int .i64 k] w fun e w' => e = .returned (.tuple #[.int .i64 (((T.g k).getD 0 : Nat) : Int), .bool (T.g k).isSome]) ∧ Below w.heap.size w w' := by
  go_enter Try.func69, Try.ntmps69
  go_wp2_with (go_at_call 44; refine (takesT h k hk).mono ?_; rintro e w1 ⟨rfl, b1⟩; have c0 := (h.below b1).cells.1; have hl := (h.below b1).map.look hk)
  go_ret2
  exact ⟨rfl, b1⟩
theorem infoT : (Try.prog.info? tT).map (fun i => (i.zero, i.size, i.bytes)) = some (some (.agg #[.int .i64 0, .int .i64 0, .int .i64 0, .int .i64 0]), 4, 32) := by kernel_rfl
set_option maxHeartbeats 2000000 in
theorem addT_new (h : TabE tT X o tX bx T L w) (k : Int) (hk : I64 k) (hs : T.spare = []) (hlen : T.rows.length < 100000) (hn : L.n < 1000000) :
    Calls Try.prog 49 #[.pointer (some ⟨X, o, none⟩), .int .i64 k] w fun e w' => e = .returned (encI T.free) ∧ TabTo tT X o tX bx L w 1 (T.add k) w' := by
  obtain ⟨c0, c1, c2⟩ := h.cells
  obtain ⟨ao, cap, hsv, _⟩ := ownK_form h.spare
  rw [hs] at hsv
  rw [hsv] at c2
  have hfz := h.box.frozen
  go_enter Try.func49, Try.ntmps49
  go_wp2_with (first
    | (at_builtin; refine wpList_apK encR_len (by decide) encR_one (x := fun _ => True) Try.underlying56 infoT rfl (by decide) rfl _ _ rfl 0 (.slice (some ⟨L.R, 0, none⟩) T.rows.length L.cap) T.rows rfl (ownK_alloc h.rows _) (.slice (some ⟨w.heap.size, 0, none⟩) 1 1) [Tb.zero] (by simp) rfl ((RK.one Tb.zero _ w)) (by simp; omega) (Nat.zero_le _) ?_
       intro g cp w1 ho1 hg1 hl1
       obtain ⟨hgg, nX, nM, hb, t1, hT1⟩ := h.grown hg1 ho1 hl1 (by have := (List.getElem?_eq_some_iff.1 h.c2).1; omega)
       have hX1 : Blk w1 X bx tX := h.box.kept (hb X h.box.lt h.neXR)
       have d0 := hX1.cell h.c0
       have d1 := hX1.cell h.c1
       have d2 := hX1.frozen
       have hgX : ¬ g = X := fun e => nX e.symm
       have hXg : ¬ X = g := nX
       have kk := ownK_cell encR_len ho1 (j := T.rows.length) (i := 0) (by simp) (by omega)
       have kf := fun i => World.ownsRow.frozenAt ho1 i
       simp at kk
       have hs2 := hT1.set (i := T.rows.length) (f := 0) (q := T.rows.length * 4) (u := .int .i64 k) (r := { Tb.zero with k := k }) (by simp) (by omega) (by simp [Tb.Tab.at_]; rfl) (by omega)
       have t2 := (t1.mono (g := fun b => b = X ∨ b = L.M ∨ b = L.R ∨ L.sv.ownBlock = some b) (fun b _ e => e.elim .inl (fun e => .inr (.inr (.inl e))))).set_own hT1.rows (by rcases hgg with e | e; exact .inl (.inr (.inr (.inl e))); exact .inr e) (T.rows.length * 4) (.int .i64 k)
       simp only [List.length_append, List.length_singleton] at t2 hs2)
    | (at_mapUpdate; go_loud (
       refine wpList_mapI _ rfl _ _ _ rfl L.M L.n T.g k T.rows.length rfl hs2.map (by unfold maxLen; omega) rfl rfl hk (i64_of (by omega) (by omega)) ?_
       intro w2 hm2 ht2
       have hT2 := hs2.mapped hm2 ht2
       have t3 := t2.turned ht2 (.inr (.inl rfl)))))
  go_ret
  have e1 : T.free = T.rows.length := by unfold Tb.Tab.free; rw [if_pos hs]
  have e2 : T.add k = ⟨(T.rows ++ [Tb.zero]).set T.rows.length { Tb.zero with k := k }, T.spare, updO T.g k (some T.rows.length)⟩ := by
    unfold Tb.Tab.add Tb.Tab.room
    rw [e1, hs, if_pos rfl]
    simp
  rw [e1, e2]
  exact ⟨rfl, ⟨_, _, hT2, t3, rfl, Nat.le_refl _, hgg, fun g e => .inl e, by simp, fun i h1 h2 => List.getElem?_set_ne (Ne.symm h1)⟩⟩
set_option maxHeartbeats 2000000 in
theorem addT_old (h : TabE tT X o tX bx T L w) (k : Int) (hk : I64 k) {s : List Nat} {j : Nat} (hs : T.spare = s ++ [j]) (hj : j < T.rows.length) (hlen : T.rows.length < 100000) (hsl : s.length < 100000) (hn : L.n < 1000000) :
    Calls Try.prog 49 #[.pointer (some ⟨X, o, none⟩), .int .i64 k] w fun e w' => e = .returned (encI T.free) ∧ TabTo tT X o tX bx L w 1 (T.add k) w' := by
  obtain ⟨c0, c1, c2⟩ := h.cells
  have hspare := h.spare
  obtain ⟨ao, cap, hsv, hf⟩ := ownK_form h.spare
  obtain ⟨G, rfl⟩ := hf (by simp [hs])
  rw [hs, List.length_append, List.length_singleton] at hsv
  rw [hsv] at c2
  rw [hsv, hs] at hspare
  have hcap := (own_cap hspare).2
  rw [List.length_append, List.length_singleton] at hcap
  have hfz := h.box.frozen
  obtain ⟨r0, _⟩ := h.row hj
  have rf := h.rfroz
  have hXR : ¬ X = L.R := h.neXR
  have hRX : ¬ L.R = X := fun e => hXR e.symm
  have kj := ownK_cell encI1_len hspare (j := s.length) (i := 0) (by simp) (by omega)
  simp [encI1, encI] at kj
  have hrun := run_takeI G (s.length + 1) cap s.length (by omega) hcap.1
  go_enter Try.func49, Try.ntmps49
  go_wp2_with fail
  go_region
  have hG : G ≠ X := (h.neS (g := G) (by rw [hsv]; rfl)).1
  have hlen2 := (List.getElem?_eq_some_iff.1 h.c2).1
  have hT1 := h.boxed (i := o + 2) (u := .slice (some ⟨G, 0, none⟩) s.length cap) (T' := ⟨T.rows, s, T.g⟩) rfl (by rw [List.getElem?_set_ne (by omega)]; exact h.c0) (by rw [List.getElem?_set_ne (by omega)]; exact h.c1) (List.getElem?_set_self hlen2) rfl rfl
    (by have := ownK_take encI1_len hspare s.length (by simp); rw [List.take_left' rfl] at this; exact this) (fun g e => by cases e; exact hG)
  have hs2 := hT1.set (i := j) (f := 0) (q := j * 4) (u := .int .i64 k) (r := { T.at_ j with k := k }) hj (by omega) rfl (by omega)
  have t1 : Trn (fun b => b = X ∨ b = L.M ∨ b = L.R ∨ L.sv.ownBlock = some b) w _ := Trn.set (W := w) h.box (.inl rfl) (o + 2) (.slice (some ⟨G, 0, none⟩) s.length cap)
  have t2 := t1.set_own hT1.rows (.inl (.inr (.inr (.inl rfl)))) (j * 4) (.int .i64 k)
  go_wp2_with (at_mapUpdate; go_loud (
       refine wpList_mapI _ rfl _ _ _ rfl L.M L.n T.g k j rfl (hs2.map.kept rfl) (by unfold maxLen; omega) rfl rfl hk (i64_of (by omega) (by omega)) ?_
       intro w2 hm2 ht2))
  go_ret
  have hT2 := (hs2.same (w' := World.drew _) rfl).mapped hm2 ht2
  have t3 := (t2.trans (Trn.drew _ 1)).turned ht2 (.inr (.inl rfl))
  have e1 : T.free = j := by unfold Tb.Tab.free; rw [if_neg (by simp [hs])]; simp [hs]
  have e2 : T.add k = ⟨T.rows.set j { T.at_ j with k := k }, s, updO T.g k (some j)⟩ := by
    unfold Tb.Tab.add Tb.Tab.room
    rw [e1, if_neg (by simp [hs]), hs]
    simp [Tb.Tab.at_]
  rw [e1, e2]
  exact ⟨rfl, ⟨_, _, hT2, t3, rfl, Nat.le_refl _, .inl rfl, fun g e => .inl (by rw [hsv]; exact e), by simp, fun i h1 h2 => List.getElem?_set_ne (Ne.symm h2)⟩⟩
theorem addT (h : TabE tT X o tX bx T L w) (k : Int) (hk : I64 k) (hsp : ∀ j ∈ T.spare, j < T.rows.length) (hlen : T.rows.length < 100000) (hsl : T.spare.length < 100000) (hn : L.n < 1000000) :
    Calls Try.prog 49 #[.pointer (some ⟨X, o, none⟩), .int .i64 k] w fun e w' => e = .returned (encI T.free) ∧ TabTo tT X o tX bx L w 1 (T.add k) w' := by
  rcases List.eq_nil_or_concat T.spare with hs | ⟨s, j, hs⟩
  · exact addT_new h k hk hs hlen hn
  · rw [List.concat_eq_append] at hs
    rw [hs, List.length_append] at hsl
    exact addT_old h k hk hs (hsp j (by simp [hs])) hlen (by omega) hn
set_option maxHeartbeats 2000000 in
theorem dropT (h : TabE tT X o tX bx T L w) {i : Nat} (hi : i < T.rows.length) (hk : I64 (T.at_ i).k) (hsl : T.spare.length < 100000) :
    Calls Try.prog 55 #[.pointer (some ⟨X, o, none⟩), .int .i64 (i : Int)] w fun e w' => e = .returned (.tuple #[]) ∧ TabTo tT X o tX bx L w 0 (T.drop i) w' := by
  obtain ⟨c0, c1, c2⟩ := h.cells
  have hfz := h.box.frozen
  obtain ⟨r0, r1, r2, r3⟩ := h.row hi
  have rf := h.rfroz
  have hXR : ¬ X = L.R := h.neXR
  have hRX : ¬ L.R = X := fun e => hXR e.symm
  obtain ⟨w2, hd2, hm2, ht2⟩ := run_delI (w := w.drew) (h.map.kept rfl) hk 0
  go_enter Try.func55, Try.ntmps55
  go_wp2_with fail
  go_region
  have hT1 := (h.same (w' := w.drew) rfl).mapped hm2 ht2
  have t1 : Trn (fun b => b = X ∨ b = L.M ∨ b = L.R ∨ L.sv.ownBlock = some b) w w2 := (Trn.drew w 1).turned ht2 (.inr (.inl rfl))
  have t2 := hT1.clear_trn t1 (.inr (.inr (.inl rfl))) i
  clear hd2 c0 c1 c2 hfz r0 r1 r2 r3 rf
  obtain ⟨c0, c1, c2⟩ := hT1.cells
  have hfz := hT1.box.frozen
  obtain ⟨r0, r1, r2, r3⟩ := hT1.row hi
  have rf := hT1.rfroz
  have hT2 := hT1.clear hi
  simp only at c0 c1 c2 r0 r1 r2 r3 rf
  go_wp2_with (at_builtin; go_loud (
       refine wpList_apK encI1_len (by decide) encI1_one (x := fun _ => True) Try.underlying22 infoInt rfl (by decide) rfl _ _ rfl 0 L.sv T.spare rfl (ownK_alloc hT2.spare _) (.slice (some ⟨w2.heap.size, 0, none⟩) 1 1) [i] (by simp) rfl (RK.oneN (enc := encI1) i 3 _ _ (by simp) _ rfl) (by simp; omega) (Nat.zero_le _) ?_
       intro g cp w3 ho3 hg3 hl3
       obtain ⟨hgg, hX3, t3, hT3⟩ := hT2.spared hg3 ho3 hl3 (List.getElem?_eq_some_iff.1 h.c2).1
       have d2 := hX3.cell h.c2
       have f2 := hX3.frozen))
  go_end0
  have hs2 := (turned_trn ht2).size
  have t4 := t2.trans (t3.mono fun b _ e => .inl (e.elim .inl (fun e => .inr (.inr (.inr e)))))
  simp only [List.length_append, List.length_singleton] at t4 hT3
  refine ⟨rfl, ⟨_, _, hT3, t4, rfl, Nat.le_refl _, .inl rfl, fun b e => ?_, by simp, fun j h1 h2 => List.getElem?_set_ne (Ne.symm h2)⟩⟩
  cases e
  refine hgg.imp id (fun e => ?_)
  simp at e
  exact Nat.le_trans hs2 e
end
end Go.Proofs.Ytchlemajppnehaa
