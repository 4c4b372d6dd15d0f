/- 5 texts put together: Lnil, Ints, Same9, Two, Awk9. -/
import Derived.LoopTactic
import Derived.BigQuiet
import Derived.Laws.StructEq
import Derived.Test.YtchlemajppnehaaJW6
import Derived.Test.YtchlemajppnehaaJW7
import Derived.Test.YtchlemajppnehaaJW13
import Derived.Test.YtchlemajppnehaaJW14
import Derived.Test.YtchlemajppnehaaJW20
import Derived.Test.YtchlemajppnehaaJW23
import Derived.Test.YtchlemajppnehaaJW26
/- Nobody's lists. -/
set_option maxRecDepth 100000
namespace Go.Proofs.Ytchlemajppnehaa
open Go Go.RowKit Go.Shelf Go.Maps
theorem qDue0 (w : World) : (binOp .eql 33 (.pointer none) (.pointer none)).run Try.prog w = .ok (.bool true) w := by kernel_rfl
set_option maxHeartbeats 1000000 in
theorem ladd_nil (k : Int) (w : World) :
    Calls Try.prog 32 #[.pointer none, .int .i64 k] w fun e w' => e = .returned (.tuple #[]) ∧ w = w' := by
  have q := qLru0
  go_enter Try.func32, Try.ntmps32
  go_wp2
  refine bodyPost_ret (results_none rfl _ _ _) rfl ?_
  exact ⟨rfl, rfl⟩
set_option maxHeartbeats 1000000 in
theorem ltouch_nil (k : Int) (w : World) :
    Calls Try.prog 33 #[.pointer none, .int .i64 k] w fun e w' => e = .returned (.bool false) ∧ w = w' := by
  go_enter Try.func33, Try.ntmps33
  go_wp2_with fail
  refine (lfind_nil k w).mono ?_
  rintro e w1 ⟨rfl, rfl⟩
  go_wp2
  go_ret
  exact ⟨rfl, rfl⟩
set_option maxHeartbeats 1000000 in
theorem dset_nil (k a : Int) (w : World) :
    Calls Try.prog 24 #[.pointer none, .int .i64 k, .int .i64 a] w fun e w' => e = .returned (.tuple #[]) ∧ w = w' := by
  have q := qDue0
  go_enter Try.func24, Try.ntmps24
  go_wp2
  refine bodyPost_ret (results_none rfl _ _ _) rfl ?_
  exact ⟨rfl, rfl⟩
theorem dlen_nil (w : World) :
    Calls Try.prog 39 #[.pointer none] w fun e w' => e = .returned (.int .i64 0) ∧ w = w' := by
  have q := qDue0
  go_enter Try.func39, Try.ntmps39
  go_wp2
  go_ret
  exact ⟨rfl, rfl⟩
end Go.Proofs.Ytchlemajppnehaa

/- Two lists of numbers, held against each other. -/
set_option maxRecDepth 100000
namespace Go.Proofs.Ytchlemajppnehaa
open Go Go.RowKit Go.Shelf
set_option maxHeartbeats 4000000 in
/-- The same numbers: it says so. -/
theorem ints_same {x y : Nat → Prop} {v u : Value} {l : List Int} {w : World} (h : RK encZ x v l w) (g : RK encZ y u l w) (hl : l.length < 100000) :
    Calls Try.prog 36 #[v, u] w fun e w' => e = .returned (.bool true) ∧ ∃ n, w' = w.drewN n := by
  obtain ⟨ao, cap, rfl, _, _⟩ := h.form
  obtain ⟨bo, dap, rfl, _, _⟩ := g.form
  have HR := Lib.hid (fun n => h.same (W' := w.drewN n) (fun _ _ => rfl))
  have HG := Lib.hid (fun n => g.same (W' := w.drewN n) (fun _ _ => rfl))
  clear h g
  go_enter Try.func36, Try.ntmps36
  have d0 : ((l.length : Int) != (l.length : Int)) = false := by simp
  go_wp2
  go_loopw [5] (fun i wr => ∃ j : Nat, j ≤ l.length ∧ i = .int .i64 (j : Int) ∧ ∃ n, wr = w.drewN n) (fun i _ => l.length + 1 - (intOf i).toNat)
  case atStart => exact ⟨0, by omega, rfl, 0, rfl⟩
  case round =>
    obtain ⟨j, hj, rfl, n, rfl⟩ := hrel
    by_cases hlt : j < l.length
    · obtain ⟨b, off, rfl, c1⟩ := rk_cell (HR.out n) hlt
      obtain ⟨b2, off2, rfl, c2⟩ := rk_cell (HG.out n) hlt
      have d1 : decide ((j : Int) < (l.length : Int)) = true := by simpa using hlt
      generalize l[j] = z at *
      have d2 : (z != z) = false := by simp
      generalize hW : w.drewN n = W1 at *
      go_wp2_with fail
      go_quiet (fail)
      go_wp2
      go_roundw
      case rel => exact ⟨j + 1, by omega, by go_num, ⟨_, by rw [← hW]; exact World.drewN_drewN _ _ _⟩⟩
      case measure => simp [intOf]; omega
    · have d1 : decide ((j : Int) < (l.length : Int)) = false := by simp; omega
      go_wp2
      go_ret
      exact ⟨rfl, n, rfl⟩
end Go.Proofs.Ytchlemajppnehaa

/- Two lists of pairs, held against each other. -/
set_option maxRecDepth 100000
namespace Go.Proofs.Ytchlemajppnehaa
open Go Go.RowKit Go.Shelf
theorem fieldsPair : Try.prog.fieldsOf 38 = #[{ name := "K", type := 3, offset := 0, embedded := false, tag := "", pkgPath := "", byteOffset := 0 }, { name := "At", type := 3, offset := 1, embedded := false, tag := "", pkgPath := "", byteOffset := 8 }] := by
  unfold Program.fieldsOf
  rw [Try.underlying38]
theorem heldPair : Try.prog.stoodInHeld 38 = false := by kernel_rfl
theorem qPair (a b : Int) (W : World) : (binOp .neq 38 (.agg #[.int .i64 a, .int .i64 b]) (.agg #[.int .i64 a, .int .i64 b])).run Try.prog W = .ok (.bool false) W := by
  rw [run_neq_struct, run_equalIn_struct W 9999 38 _ _ (by rw [fieldsPair]; exact Try.underlying38) heldPair, fieldsPair]
  simp [Op.eqFields, go_sem]
set_option maxHeartbeats 4000000 in
/-- The same numbers: it says so. -/
theorem pairs_same {x y : Nat → Prop} {v u : Value} {l : List (Int × Int)} {w : World} (h : RK encQ x v l w) (g : RK encQ y u l w) (hl : l.length < 100000) :
    Calls Try.prog 27 #[v, u] w fun e w' => e = .returned (.bool true) ∧ ∃ n, w' = w.drewN n := by
  obtain ⟨ao, cap, rfl, _, _⟩ := h.form
  obtain ⟨bo, dap, rfl, _, _⟩ := g.form
  have HR := Lib.hid (fun n => h.same (W' := w.drewN n) (fun _ _ => rfl))
  have HG := Lib.hid (fun n => g.same (W' := w.drewN n) (fun _ _ => rfl))
  clear h g
  go_enter Try.func27, Try.ntmps27
  have d0 : ((l.length : Int) != (l.length : Int)) = false := by simp
  go_wp2
  go_loopw [5] (fun i wr => ∃ j : Nat, j ≤ l.length ∧ i = .int .i64 (j : Int) ∧ ∃ n, wr = w.drewN n) (fun i _ => l.length + 1 - (intOf i).toNat)
  case atStart => exact ⟨0, by omega, rfl, 0, rfl⟩
  case round =>
    obtain ⟨j, hj, rfl, n, rfl⟩ := hrel
    by_cases hlt : j < l.length
    · obtain ⟨b, off, rfl, c1, c1b⟩ := rkq_cell (HR.out n) hlt
      obtain ⟨b2, off2, rfl, c2, c2b⟩ := rkq_cell (HG.out n) hlt
      have d1 : decide ((j : Int) < (l.length : Int)) = true := by simpa using hlt
      generalize l[j].1 = z1 at *
      generalize l[j].2 = z2 at *
      have q := qPair z1 z2
      generalize hW : w.drewN n = W1 at *
      go_wp2_with fail
      go_quiet (fail)
      go_wp2
      go_roundw
      case rel => exact ⟨j + 1, by omega, by go_num, ⟨_, by rw [← hW]; exact World.drewN_drewN _ _ _⟩⟩
      case measure => simp [intOf]; omega
    · have d1 : decide ((j : Int) < (l.length : Int)) = false := by simp; omega
      go_wp2
      go_ret
      exact ⟨rfl, n, rfl⟩
end Go.Proofs.Ytchlemajppnehaa

/- Two structures side by side, and what the law owns besides. -/
set_option maxRecDepth 100000
namespace Go.Proofs.Ytchlemajppnehaa
open Go Go.RowKit Go.Shelf Go.Maps
/-- A structure whose blocks are a set: what lies elsewhere may be changed. -/
structure Part (A : (Nat → Prop) → World → Prop) : Prop where
  away : ∀ {s W W'}, A s W → (∀ k, s k → W'.heap[k]? = W.heap[k]?) → W.heap.size ≤ W'.heap.size → A s W'
  low : ∀ {s W}, A s W → ∀ k, s k → k < W.heap.size
def Nobody (s : Nat → Prop) (_ : World) : Prop := ∀ k, ¬ s k
theorem partL {X : Nat} {most : Int} {P Q : List Int} {N : Nat} : Part (LV X most P Q N) := ⟨fun h hk hs => h.away hk hs, fun h => h.fb⟩
theorem partD {X : Nat} {E : List (Int × Int)} {N : Nat} : Part (DV X E N) := ⟨fun h hk hs => h.away hk hs, fun h => h.fb⟩
theorem partN : Part Nobody := ⟨fun h _ _ => h, fun h k e => absurd e (h k)⟩
/-- A and B lie side by side, in memory that was made since w0, apart from x, what the law owns besides. -/
structure Two (A B : (Nat → Prop) → World → Prop) (w0 : World) (x : Nat → Prop) (W : World) : Prop where
  ex : ∃ s1 s2, A s1 W ∧ B s2 W ∧ (∀ k, s1 k → w0.heap.size ≤ k ∧ ¬ x k) ∧ (∀ k, s2 k → w0.heap.size ≤ k ∧ ¬ x k) ∧ ∀ k, s1 k → ¬ s2 k
  bel : Below w0.heap.size w0 W
  own : ∀ k, x k → k < W.heap.size
/-- What is kept of x. -/
structure Kx (x : Nat → Prop) (W W' : World) : Prop where
  size : W.heap.size ≤ W'.heap.size
  block : ∀ k, k < W.heap.size → x k → W'.heap[k]? = W.heap[k]?
theorem Kx.refl (x : Nat → Prop) (W : World) : Kx x W W := ⟨Nat.le_refl _, fun _ _ _ => rfl⟩
theorem Kx.trans {x : Nat → Prop} {A B C : World} (h : Kx x A B) (g : Kx x B C) : Kx x A C := ⟨Nat.le_trans h.size g.size, fun k hk e => (g.block k (Nat.lt_of_lt_of_le hk h.size) e).trans (h.block k hk e)⟩
theorem Kx.of_below {x : Nat → Prop} {W W' : World} (h : Below W.heap.size W W') : Kx x W W' := ⟨h.size, fun k hk _ => h.block k hk⟩
theorem Kx.mono {x y : Nat → Prop} {W W' : World} (h : Kx x W W') (hy : ∀ k, y k → x k) : Kx y W W' := ⟨h.size, fun k hk e => h.block k hk (hy k e)⟩
theorem Kx.blk {x : Nat → Prop} {W W' : World} (h : Kx x W W') {b : Nat} {cs : List Value} {t : TypeId} (hb : Blk W b cs t) (hx : x b) : Blk W' b cs t := hb.kept (h.block b hb.lt hx)
theorem Kx.rk {α : Type} {enc : α → List Value} {x y : Nat → Prop} {v : Value} {l : List α} {W W' : World} (h : Kx x W W') (hr : RK enc y v l W) (hy : ∀ k, y k → x k) (hl : ∀ k, y k → k < W.heap.size) : RK enc y v l W' := hr.same fun b hb => h.block b (hl b hb) (hy b hb)
theorem Kx.own {α : Type} {enc : α → List Value} {k : Nat} {e : TypeId} {base : Nat} {x : Nat → Prop} {v : Value} {l : List α} {W W' : World} (h : Kx x W W') (ho : OwnK enc k e base v l W) (hy : ∀ g, v.ownBlock = some g → x g) : OwnK enc k e base v l W' := own_kept ho fun g hg => by
  obtain ⟨c, hc⟩ := own_blk' ho hg
  exact h.block g hc.lt (hy g hg)
/-- A literal of several. -/
theorem RK.lit {α : Type} {enc : α → List Value} (l : List α) (t : TypeId) (W : World) (n : Nat) (hn : n = W.heap.size) (cs : Array Value) (hc : cs = (l.flatMap enc).toArray) (m : Nat) (hm : m = l.length) : RK enc (fun k => k = n) (.slice (some ⟨n, 0, none⟩) m m) l (W.alloc (.cells cs t)) := by
  subst hn hc hm
  refine ⟨some ⟨W.heap.size, 0, none⟩, l.length, rfl, Nat.le_refl _, fun j u hu => ⟨W.heap.size, 0, rfl, rfl, ?_⟩⟩
  rw [Nat.zero_add]
  exact (show Blk (W.alloc (.cells (l.flatMap enc).toArray t)) W.heap.size (l.flatMap enc) t from Blk.new W _ t).cell hu
/-- append at an operation that is guarded, and wanted. -/
theorem wpList_apKg {α : Type} {enc : α → List Value} {P : Program} {k : Nat} (hk : ∀ a, (enc a).length = k) (h0 : 0 < k) (henc : ∀ a, ∀ u ∈ enc a, u.oneCell' = true) {x : Nat → Prop} {w : World} {t e : TypeId} {z : Value} {bytes : Nat} (h1 : P.underlying t = some (.slice e))
    (h2 : (P.info? e).map (fun i => (i.zero, i.size, i.bytes)) = some (some z, k, bytes)) (hz : z.cells.size = k) (b2 : bytes ≤ 1000) {ops : Array Oper} {rest : List Oper} {o : Oper} {a : Act} {Q : Exit → Act → World → Prop} (hw : Region.wanted o (yielded ops a.tmps) = true)
    (s y : Operand) (hop : o.op = Op.call { callee := Callee.builtin Builtin.append, args := #[s, y], argTypes := #[t, t] })
    (base : Nat) (v : Value) (l : List α) (hs : a.eval s = v) (hown : OwnK enc k e base v l w) (yv : Value) (news : List α) (hne : news ≠ []) (hy : a.eval y = yv) (hr : RK enc x yv news w) (b1 : l.length + news.length ≤ 1000000) (hb : base ≤ w.heap.size)
    (hK : ∀ g cap w', OwnK enc k e base (.slice (some ⟨g, 0, none⟩) (l ++ news).length cap) (l ++ news) w' → w.grownBy w' v.ownBlock → (v.ownBlock = some g ∨ g = w.heap.size) → wpList P ops Q rest (a.put o.dst (.slice (some ⟨g, 0, none⟩) (l ++ news).length cap)) w') :
    wpList P ops Q (o :: rest) a w := by
  refine wpList_step fun K' hK' => ?_
  rw [if_pos hw]
  obtain ⟨v', w', hrun, r1, r2, r3⟩ := run_apRK (P := P) hk h0 henc w base t o.type e z bytes h1 h2 hz v l hown yv news hr b1 b2 hb
  obtain ⟨ao, cap, rfl, hf⟩ := ownK_form r1
  obtain ⟨g, rfl⟩ := hf (by simp [hne])
  unfold Oper.wp
  simp [execOp, hop, resolve, invoke, builtin, hs, hy, hrun, Result.andThen]
  have := hK g cap w' r1 r2 (r3.imp (fun e => e.symm) (fun e => by simpa [Value.ownBlock] using e))
  simp only [List.length_append] at this
  exact hK' _ _ this
section
variable {A B A' B' : (Nat → Prop) → World → Prop} {w0 W W' : World} {x x' : Nat → Prop}
theorem Two.swap (h : Two A B w0 x W) : Two B A w0 x W := by
  obtain ⟨s1, s2, a, b, h1, h2, h3⟩ := h.ex
  exact ⟨⟨s2, s1, b, a, h2, h1, fun k e g => h3 k g e⟩, h.bel, h.own⟩
/-- A call of the first one. -/
theorem Two.left (h : Two A B w0 x W) (hB : Part B) : ∃ s1, A s1 W ∧ ∀ {A'} {W'} {s'}, Trn s1 W W' → A' s' W' → (∀ k, s' k → grow s1 W W' k) → Two A' B w0 x W' ∧ Kx x W W' := by
  obtain ⟨s1, s2, a, b, h1, h2, h3⟩ := h.ex
  refine ⟨s1, a, fun {A' W' s'} t ha hs => ⟨⟨⟨s', s2, ha, hB.away b (fun k e => t.block k (hB.low b k e) (fun e2 => h3 k e2 e)) t.size, fun k e => ?_, h2, fun k e => ?_⟩, ?_, fun k e => Nat.lt_of_lt_of_le (h.own k e) t.size⟩, t.size, fun k hk e => t.block k hk (fun e2 => (h1 k e2).2 e)⟩⟩
  · rcases hs k e with e | e
    · exact h1 k e
    · exact ⟨Nat.le_trans h.bel.size e.1, fun e2 => by have := h.own k e2; omega⟩
  · rcases hs k e with e | e
    · exact h3 k e
    · intro e2
      have := hB.low b k e2
      omega
  · exact h.bel.trans (t.below (fun k e => (h1 k e).1) h.bel.size)
/-- What was made, and nothing else. -/
theorem Two.below (h : Two A B w0 x W) (hA : Part A) (hB : Part B) (hb : Below W.heap.size W W') : Two A B w0 x W' := by
  obtain ⟨s1, s2, a, b, h1, h2, h3⟩ := h.ex
  exact ⟨⟨s1, s2, hA.away a (fun k e => hb.block k (hA.low a k e)) hb.size, hB.away b (fun k e => hb.block k (hB.low b k e)) hb.size, h1, h2, h3⟩, h.bel.trans (hb.mono h.bel.size), fun k e => Nat.lt_of_lt_of_le (h.own k e) hb.size⟩
/-- The law's own memory is changed, and more of it made. -/
theorem Two.turn (h : Two A B w0 x W) (hA : Part A) (hB : Part B) (hb : Below w0.heap.size W W') (hk : ∀ k, k < W.heap.size → ¬ x k → W'.heap[k]? = W.heap[k]?) (hx : ∀ k, x' k → (x k ∨ W.heap.size ≤ k) ∧ k < W'.heap.size) : Two A B w0 x' W' := by
  obtain ⟨s1, s2, a, b, h1, h2, h3⟩ := h.ex
  exact ⟨⟨s1, s2, hA.away a (fun k e => hk k (hA.low a k e) (h1 k e).2) hb.size, hB.away b (fun k e => hk k (hB.low b k e) (h2 k e).2) hb.size,
    fun k e => ⟨(h1 k e).1, fun e2 => (hx k e2).1.elim (h1 k e).2 (fun e3 => by have := hA.low a k e; omega)⟩, fun k e => ⟨(h2 k e).1, fun e2 => (hx k e2).1.elim (h2 k e).2 (fun e3 => by have := hB.low b k e; omega)⟩, h3⟩, h.bel.trans hb, fun k e => (hx k e).2⟩
theorem Two.drew (h : Two A B w0 x W) (hA : Part A) (hB : Part B) (n : Nat) : Two A B w0 x (W.drewN n) := h.below hA hB ⟨rfl, rfl, rfl, Nat.le_refl _, fun _ _ => rfl⟩
theorem Two.fewer (h : Two A B w0 x W) (hx : ∀ k, x' k → x k) : Two A B w0 x' W := by
  obtain ⟨s1, s2, a, b, h1, h2, h3⟩ := h.ex
  exact ⟨⟨s1, s2, a, b, fun k e => ⟨(h1 k e).1, fun e2 => (h1 k e).2 (hx k e2)⟩, fun k e => ⟨(h2 k e).1, fun e2 => (h2 k e).2 (hx k e2)⟩, h3⟩, h.bel, fun k e => h.own k (hx k e)⟩
/-- append to what the law owns: a literal of one is made, then the append. -/
theorem Two.push {α : Type} {enc : α → List Value} {k n c : Nat} {e : TypeId} {l m : List α} {v : Value} {o : Obj} {g : Nat} {w1 : World} (h : Two A B w0 x W) (hA : Part A) (hB : Part B) (ho : OwnK enc k e w0.heap.size v l W) (hv : ∀ b, v.ownBlock = some b → x b) (h1 : OwnK enc k e w0.heap.size (.slice (some ⟨g, 0, none⟩) n c) m w1)
    (hg : (W.alloc o).grownBy w1 v.ownBlock) (hgg : v.ownBlock = some g ∨ g = (W.alloc o).heap.size) : Two A B w0 (fun b => x b ∨ b = g) w1 ∧ (∀ b, b < W.heap.size → v.ownBlock ≠ some b → w1.heap[b]? = W.heap[b]?) ∧ (v.ownBlock = some g ∨ W.heap.size ≤ g) := by
  have hz : (W.alloc o).heap.size = W.heap.size + 1 := World.size_alloc _ _
  have hz1 := hg.size
  have hw := h.bel.size
  have hgg2 : v.ownBlock = some g ∨ W.heap.size ≤ g := hgg.imp id (fun e => by omega)
  have hk : ∀ b, b < W.heap.size → v.ownBlock ≠ some b → w1.heap[b]? = W.heap[b]? := fun b hb hn => (hg.block b (by omega) (fun e => hn e.symm)).trans (Below.heap_alloc W o b hb)
  have hb : Below w0.heap.size W w1 := ((Below.refl w0.heap.size W).alloc hw o).grown hg (by omega) (fun b e => own_low ho e)
  obtain ⟨cs, hcs⟩ := own_blk h1
  refine ⟨h.turn hA hB hb (fun b hb hn => hk b hb fun e => hn (hv b e)) (fun b hb => ?_), hk, hgg2⟩
  rcases hb with e | rfl
  · exact ⟨.inl e, by have := h.own b e; omega⟩
  · exact ⟨hgg2.imp (hv b) id, hcs.lt⟩
/-- append to what the law owns, at the operation: some that were made just now as a literal. -/
theorem wpList_push {α : Type} {enc : α → List Value} {k : Nat} (hk : ∀ a, (enc a).length = k) (h0 : 0 < k) (henc : ∀ a, ∀ u ∈ enc a, u.oneCell' = true) {t e : TypeId} {z : Value} {bytes : Nat} (h1 : Try.prog.underlying t = some (.slice e))
    (h2 : (Try.prog.info? e).map (fun i => (i.zero, i.size, i.bytes)) = some (some z, k, bytes)) (hz : z.cells.size = k) (b2 : bytes ≤ 1000) {ops : Array Oper} {rest : List Oper} {o : Oper} {a : Act} {Q : Exit → Act → World → Prop} (hw : Region.wanted o (yielded ops a.tmps) = true)
    (s y : Operand) (hop : o.op = Op.call { callee := Callee.builtin Builtin.append, args := #[s, y], argTypes := #[t, t] }) (v : Value) (hs : a.eval s = v) {l : List α} (ho : OwnK enc k e w0.heap.size v l W) (news : List α) (hne : news ≠ []) (m : Nat) (hm : m = news.length) (cs : Array Value) (hc : cs = (news.flatMap enc).toArray) (hy : a.eval y = .slice (some ⟨W.heap.size, 0, none⟩) m m)
    (h : Two A B w0 x W) (hA : Part A) (hB : Part B) (hv : ∀ b, v.ownBlock = some b → x b) (hl : l.length + m ≤ 1000000)
    (hK : ∀ g cap w', OwnK enc k e w0.heap.size (.slice (some ⟨g, 0, none⟩) (l.length + m) cap) (l ++ news) w' → Two A B w0 (fun b => x b ∨ b = g) w' → (∀ b, b < W.heap.size → v.ownBlock ≠ some b → w'.heap[b]? = W.heap[b]?) → (v.ownBlock = some g ∨ W.heap.size ≤ g) →
      wpList Try.prog ops Q rest (a.put o.dst (.slice (some ⟨g, 0, none⟩) (l.length + m) cap)) w') :
    wpList Try.prog ops Q (o :: rest) a (W.alloc (.cells cs e)) := by
  subst hm
  have hlen : (l ++ news).length = l.length + news.length := List.length_append
  refine wpList_apKg hk h0 henc (x := fun b => b = W.heap.size) h1 h2 hz b2 hw s y hop w0.heap.size v l hs (ownK_alloc ho _) _ news hne hy (RK.lit news e W _ rfl cs hc _ rfl) hl (by rw [World.size_alloc]; have := h.bel.size; omega) ?_
  intro g cap w' ho1 hg1 hl1
  obtain ⟨T, K, N⟩ := h.push hA hB ho hv ho1 hg1 hl1
  rw [hlen] at ho1 ⊢
  exact hK g cap w' ho1 T K N
/-- A new one beside nobody, or beside another. -/
theorem Two.start (w0 : World) : Two Nobody Nobody w0 (fun _ => False) w0 := ⟨⟨fun _ => False, fun _ => False, fun _ e => e, fun _ e => e, fun _ e => e.elim, fun _ e => e.elim, fun _ e => e.elim⟩, Below.refl _ _, fun _ e => e.elim⟩
theorem Two.made (h : Two Nobody B w0 x W) (hB : Part B) (hb : Below W.heap.size W W') (ha : A (fun k => W.heap.size ≤ k ∧ k < W'.heap.size) W') : Two A B w0 x W' := by
  obtain ⟨s1, s2, a, b, h1, h2, h3⟩ := h.ex
  exact ⟨⟨_, s2, ha, hB.away b (fun k e => hb.block k (hB.low b k e)) hb.size, fun k e => ⟨Nat.le_trans h.bel.size e.1, fun e2 => by have := h.own k e2; omega⟩, h2, fun k e e2 => by have := hB.low b k e2; omega⟩, h.bel.trans (hb.mono h.bel.size), fun k e => Nat.lt_of_lt_of_le (h.own k e) hb.size⟩
end
section
variable {B : (Nat → Prop) → World → Prop} {w0 W : World} {x : Nat → Prop} {X : Nat} {most : Int} {P Q : List Int} {N : Nat} {E : List (Int × Int)}
/-- The calls of an LRU, each in one line. -/
theorem t_lnew (h : Two Nobody B w0 x W) (hB : Part B) (most : Int) (hm : I64 most) : Calls Try.prog 31 #[.int .i64 most] W fun e W' => ∃ X, e = .returned (.pointer (some ⟨X, 0, none⟩)) ∧ Two (LV X (max most 0) [] [] 0) B w0 x W' ∧ Kx x W W' :=
  (lnew_any most hm W).mono fun _ _ ⟨X, e, _, hb, hv⟩ => ⟨X, e, h.made hB hb hv, Kx.of_below hb⟩
theorem t_dnew (h : Two Nobody B w0 x W) (hB : Part B) : Calls Try.prog 23 #[] W fun e W' => ∃ X, e = .returned (.pointer (some ⟨X, 0, none⟩)) ∧ Two (DV X [] 0) B w0 x W' ∧ Kx x W W' :=
  (dnew_any W).mono fun _ _ ⟨X, e, _, hb, hv⟩ => ⟨X, e, h.made hB hb hv, Kx.of_below hb⟩
/-- Who is there when one is added. -/
def addP (P Q : List Int) (k : Int) : List Int := if k ∈ P ++ Q then P else P ++ [k]
theorem t_add (h : Two (LV X most P Q N) B w0 x W) (hB : Part B) {k : Int} (hk : I64 k) (hN : N < 80000) : Calls Try.prog 32 #[.pointer (some ⟨X, 0, none⟩), .int .i64 k] W fun e W' => e = .returned (.tuple #[]) ∧ Two (LV X most (addP P Q k) Q (N + 1)) B w0 x W' ∧ Kx x W W' := by
  by_cases hm : k ∈ P ++ Q
  · obtain ⟨s, a, f⟩ := h.left hB
    refine (ladd_has a hk hm).mono ?_
    rintro e W' ⟨rfl, hb⟩
    have e : addP P Q k = P := if_pos hm
    rw [e]
    exact ⟨rfl, f (A' := LV X most P Q (N + 1)) (Trn.of_below hb) ((a.below hb).more (Nat.le_succ N)) (fun k e => .inl e)⟩
  · obtain ⟨s, a, f⟩ := h.left hB
    refine (ladd_new a hk hm hN).mono ?_
    rintro e W' ⟨rfl, t, hv⟩
    have e : addP P Q k = P ++ [k] := if_neg hm
    rw [e]
    exact ⟨rfl, f t hv (fun k e => e)⟩
theorem t_touch_no (h : Two (LV X most P Q N) B w0 x W) (hB : Part B) {k : Int} (hk : I64 k) (hm : k ∉ P ++ Q) : Calls Try.prog 33 #[.pointer (some ⟨X, 0, none⟩), .int .i64 k] W fun e W' => e = .returned (.bool false) ∧ Two (LV X most P Q N) B w0 x W' ∧ Kx x W W' := by
  obtain ⟨s, a, f⟩ := h.left hB
  refine (ltouch_no a hk hm).mono ?_
  rintro e W' ⟨rfl, hb⟩
  exact ⟨rfl, f (A' := LV X most P Q N) (Trn.of_below hb) (a.below hb) (fun k e => .inl e)⟩
/-- Who is where when one is used: the same for the code and for the document's own. -/
def touch (most : Int) (P Q : List Int) (k : Int) : List Int × List Int :=
  if k ∈ Q then (P, Q.erase k ++ [k]) else if k ∈ P then (if ((Q.length + 1 : Nat) : Int) ≤ most then (P.erase k, Q ++ [k]) else (P.erase k ++ (Q ++ [k]).take 1, (Q ++ [k]).drop 1)) else (P, Q)
theorem t_touch (h : Two (LV X most P Q N) B w0 x W) (hB : Part B) {k : Int} (hk : I64 k) (hm : k ∈ P ++ Q) (hN : N < 80000) : Calls Try.prog 33 #[.pointer (some ⟨X, 0, none⟩), .int .i64 k] W fun e W' => e = .returned (.bool true) ∧ Two (LV X most (touch most P Q k).1 (touch most P Q k).2 N) B w0 x W' ∧ Kx x W W' := by
  obtain ⟨s, a, f⟩ := h.left hB
  by_cases h2 : k ∈ Q
  · have e : touch most P Q k = (P, Q.erase k ++ [k]) := if_pos h2
    rw [e]
    refine (ltouch_Q a hk h2 hN).mono ?_
    rintro e W' ⟨rfl, t, hv⟩
    exact ⟨rfl, f t hv (fun k e => e)⟩
  · have h1 : k ∈ P := (List.mem_append.1 hm).resolve_right h2
    by_cases hr : ((Q.length + 1 : Nat) : Int) ≤ most
    · have e : touch most P Q k = (P.erase k, Q ++ [k]) := by unfold touch; rw [if_neg h2, if_pos h1, if_pos hr]
      rw [e]
      refine (ltouch_P a hk h1 hN hr).mono ?_
      rintro e W' ⟨rfl, t, hv⟩
      exact ⟨rfl, f t hv (fun k e => e)⟩
    · have e : touch most P Q k = (P.erase k ++ (Q ++ [k]).take 1, (Q ++ [k]).drop 1) := by unfold touch; rw [if_neg h2, if_pos h1, if_neg hr]
      rw [e]
      obtain ⟨y, Y, hY⟩ : ∃ y Y, Q ++ [k] = y :: Y := by
        cases Q with
        | nil => exact ⟨k, [], rfl⟩
        | cons y Y => exact ⟨y, Y ++ [k], rfl⟩
      refine (ltouch_full a hk h1 hN hY (by omega)).mono ?_
      rintro e W' ⟨rfl, t, hv⟩
      rw [hY]
      exact ⟨rfl, f t hv (fun k e => e)⟩
theorem t_drop_no (h : Two (LV X most P Q N) B w0 x W) (hB : Part B) {k : Int} (hk : I64 k) (hm : k ∉ P ++ Q) : Calls Try.prog 38 #[.pointer (some ⟨X, 0, none⟩), .int .i64 k] W fun e W' => e = .returned (.bool false) ∧ Two (LV X most P Q N) B w0 x W' ∧ Kx x W W' := by
  obtain ⟨s, a, f⟩ := h.left hB
  refine (ldrop_no a hk hm).mono ?_
  rintro e W' ⟨rfl, hb⟩
  exact ⟨rfl, f (A' := LV X most P Q N) (Trn.of_below hb) (a.below hb) (fun k e => .inl e)⟩
theorem t_drop (h : Two (LV X most P Q N) B w0 x W) (hB : Part B) {k : Int} (hk : I64 k) (hm : k ∈ P ++ Q) (hN : N < 80000) : Calls Try.prog 38 #[.pointer (some ⟨X, 0, none⟩), .int .i64 k] W fun e W' => e = .returned (.bool true) ∧ Two (LV X most (P.erase k) (Q.erase k) N) B w0 x W' ∧ Kx x W W' := by
  obtain ⟨s, a, f⟩ := h.left hB
  refine (ldrop_has a hk hm hN).mono ?_
  rintro e W' ⟨rfl, t, hv⟩
  exact ⟨rfl, f t hv (fun k e => e)⟩
theorem t_len (h : Two (LV X most P Q N) B w0 x W) (hB : Part B) (hN : N < 80000) : Calls Try.prog 34 #[.pointer (some ⟨X, 0, none⟩)] W fun e W' => e = .returned (.tuple #[.int .i64 (P.length : Int), .int .i64 (Q.length : Int)]) ∧ Two (LV X most P Q N) B w0 x W' ∧ Kx x W W' := by
  obtain ⟨s, a, f⟩ := h.left hB
  refine (llen_any a hN).mono ?_
  rintro e W' ⟨rfl, n, rfl⟩
  have hb : Below W.heap.size W (W.drewN n) := ⟨rfl, rfl, rfl, Nat.le_refl _, fun _ _ => rfl⟩
  exact ⟨rfl, f (A' := LV X most P Q N) (Trn.of_below hb) (a.below hb) (fun k e => .inl e)⟩
theorem t_order (h : Two (LV X most P Q N) B w0 x W) (hB : Part B) (hN : N < 80000) (mo : Int) : Calls Try.prog 37 #[.pointer (some ⟨X, 0, none⟩), .int .i64 mo] W fun e W' => ∃ v, e = .returned v ∧ RK encZ (fun k => W.heap.size ≤ k ∧ k < W'.heap.size) v (cutAt mo (P ++ Q)) W' ∧ Two (LV X most P Q N) B w0 x W' ∧ Kx x W W' := by
  obtain ⟨s, a, f⟩ := h.left hB
  refine (order_any a hN mo).mono ?_
  rintro e W' ⟨v, s', rfl, ho, hv, t, hs, hd⟩
  exact ⟨v, rfl, RK.own ho (fun b e => ⟨own_low ho e, by obtain ⟨c, hc⟩ := own_blk' ho e; exact hc.lt⟩), f t hv hs⟩
/-- The calls of a Due, each in one line. -/
theorem t_set (h : Two (DV X E N) B w0 x W) (hB : Part B) {k a : Int} (hk : I64 k) (ha : I64 a) (hN : N < 80000) : Calls Try.prog 24 #[.pointer (some ⟨X, 0, none⟩), .int .i64 k, .int .i64 a] W fun e W' => e = .returned (.tuple #[]) ∧ Two (DV X (E.filter (fun e => e.1 != k) ++ [(k, a)]) (N + 1)) B w0 x W' ∧ Kx x W W' := by
  obtain ⟨s, d, f⟩ := h.left hB
  by_cases hm : k ∈ E.map (·.1)
  · refine (dset_old d hk hm hN ha).mono ?_
    rintro e W' ⟨rfl, t, hv⟩
    exact ⟨rfl, f t hv (fun k e => e)⟩
  · refine (dset_new d hk hm hN ha).mono ?_
    rintro e W' ⟨rfl, t, hv⟩
    exact ⟨rfl, f t hv (fun k e => e)⟩
theorem t_at (h : Two (DV X E N) B w0 x W) (hB : Part B) {k : Int} (hk : I64 k) : Calls Try.prog 35 #[.pointer (some ⟨X, 0, none⟩), .int .i64 k] W fun e W' => e = .returned (.tuple #[.int .i64 ((atOf E k).getD 0), .bool (atOf E k).isSome]) ∧ Two (DV X E N) B w0 x W' ∧ Kx x W W' := by
  obtain ⟨s, d, f⟩ := h.left hB
  refine (dat_any d hk).mono ?_
  rintro e W' ⟨rfl, hb⟩
  exact ⟨rfl, f (A' := DV X E N) (Trn.of_below hb) (d.below hb) (fun k e => .inl e)⟩
theorem t_ddrop_no (h : Two (DV X E N) B w0 x W) (hB : Part B) {k : Int} (hk : I64 k) (hm : k ∉ E.map (·.1)) : Calls Try.prog 26 #[.pointer (some ⟨X, 0, none⟩), .int .i64 k] W fun e W' => e = .returned (.bool false) ∧ Two (DV X E N) B w0 x W' ∧ Kx x W W' := by
  obtain ⟨s, d, f⟩ := h.left hB
  refine (ddrop_no d hk hm).mono ?_
  rintro e W' ⟨rfl, hb⟩
  exact ⟨rfl, f (A' := DV X E N) (Trn.of_below hb) (d.below hb) (fun k e => .inl e)⟩
theorem t_ddrop (h : Two (DV X E N) B w0 x W) (hB : Part B) {k : Int} (hk : I64 k) (hm : k ∈ E.map (·.1)) (hN : N < 80000) : Calls Try.prog 26 #[.pointer (some ⟨X, 0, none⟩), .int .i64 k] W fun e W' => e = .returned (.bool true) ∧ Two (DV X (E.filter (fun e => e.1 != k)) (N + 1)) B w0 x W' ∧ Kx x W W' := by
  obtain ⟨s, d, f⟩ := h.left hB
  refine (ddrop_has d hk hm hN).mono ?_
  rintro e W' ⟨rfl, t, hv⟩
  exact ⟨rfl, f t hv (fun k e => e)⟩
theorem t_dlen (h : Two (DV X E N) B w0 x W) : Calls Try.prog 39 #[.pointer (some ⟨X, 0, none⟩)] W fun e W' => e = .returned (.int .i64 (E.length : Int)) ∧ W = W' := by
  obtain ⟨s1, s2, d, _⟩ := h.ex
  exact dlen_any d
theorem t_upto (h : Two (DV X E N) B w0 x W) (hB : Part B) (hN : N < 80000) (at_ mo : Int) (hat : I64 at_) : Calls Try.prog 40 #[.pointer (some ⟨X, 0, none⟩), .int .i64 at_, .int .i64 mo] W fun e W' => ∃ v, e = .returned v ∧ RK encQ (fun k => W.heap.size ≤ k ∧ k < W'.heap.size) v (cutAt mo (Du.uptoE at_ E [])) W' ∧ Two (DV X E N) B w0 x W' ∧ Kx x W W' := by
  obtain ⟨s, a, f⟩ := h.left hB
  refine (upto_any a hN at_ mo hat).mono ?_
  rintro e W' ⟨v, s', rfl, ho, hv, t, hs, hd⟩
  exact ⟨v, rfl, RK.own ho (fun b e => ⟨own_low ho e, by obtain ⟨c, hc⟩ := own_blk' ho e; exact hc.lt⟩), f t hv hs⟩
end
end Go.Proofs.Ytchlemajppnehaa

/- awake: what the document fixes. -/
set_option maxRecDepth 100000
namespace Go.Proofs.Ytchlemajppnehaa
open Go Go.RowKit Go.Shelf Go.Maps
theorem i64_small (k : Int) (h1 : -1000000 ≤ k) (h2 : k ≤ 1000000) : I64 k := i64_of (by omega) (by omega)
theorem qLruE (w : World) (a : Addr) : (binOp .eql 44 (.pointer (some a)) (.pointer none)).run Try.prog w = .ok (.bool false) w := by kernel_rfl
set_option maxHeartbeats 16000000 in
theorem awake9_any (w : World) : Calls Try.prog 22 #[] w fun e w' => e = .returned (.bool true) ∧ Below w.heap.size w w' := by
  have q1 := qLruE
  have q2 := qDue
  go_enter Try.func22, Try.ntmps22
  go_wp2_with fail
  refine (t_lnew (Two.start w) partN 1 (i64_small _ (by decide) (by decide))).mono ?_
  rintro e w1 ⟨X, rfl, h1, _⟩
  go_wp2_with fail
  refine (t_dnew h1.swap partL).mono ?_
  rintro e w2 ⟨Y, rfl, h2, _⟩
  go_wp2_with fail
  have k1 : I64 1 := i64_small _ (by decide) (by decide)
  refine (t_add h2.swap partD k1 (by decide)).mono ?_
  rintro e w3 ⟨rfl, h3, _⟩
  go_wp2_with fail
  refine (t_add h3 partD (k := 2) (i64_small _ (by decide) (by decide)) (by decide)).mono ?_
  rintro e w4 ⟨rfl, h4, _⟩
  go_wp2_with fail
  refine (t_touch h4 partD k1 (by decide) (by decide)).mono ?_
  rintro e w5 ⟨rfl, h5, _⟩
  have h5 : Two (LV X 1 [2] [1] 2) (DV Y [] 0) w (fun _ => False) w5 := h5
  go_wp2_with fail
  refine (t_len h5 partD (by decide)).mono ?_
  rintro e w6 ⟨rfl, h6, _⟩
  go_wp2_with fail
  refine (t_set h6.swap partL (k := 5) (a := 9) (i64_small _ (by decide) (by decide)) (i64_small _ (by decide) (by decide)) (by decide)).mono ?_
  rintro e w7 ⟨rfl, h7, _⟩
  go_wp2_with fail
  refine (t_set h7 partL (k := 6) (a := 3) (i64_small _ (by decide) (by decide)) (i64_small _ (by decide) (by decide)) (by decide)).mono ?_
  rintro e w8 ⟨rfl, h8, _⟩
  have h8 : Two (DV Y [(5, 9), (6, 3)] 2) (LV X 1 [2] [1] 2) w (fun _ => False) w8 := h8
  go_wp2_with fail
  refine (t_at h8 partL (k := 5) (i64_small _ (by decide) (by decide))).mono ?_
  rintro e w9 ⟨rfl, h9, _⟩
  have e9 : (atOf [(5, 9), (6, 3)] 5).getD 0 = (9 : Int) ∧ (atOf [(5, 9), (6, 3)] 5).isSome = true := by decide
  rw [e9.1, e9.2]
  clear e9
  go_wp2_with fail
  refine (ladd_nil _ _).mono ?_
  rintro e w1 ⟨rfl, rfl⟩
  go_wp2_with fail
  refine (dset_nil _ _ _).mono ?_
  rintro e w1 ⟨rfl, rfl⟩
  clear h1 h2 h3 h4 h5 h6 h7 h8
  go_wp2_with fail
  refine (t_order h9.swap partD (by decide) (-1)).mono ?_
  rintro e wA ⟨v, rfl, r, h1, _⟩
  have r : RK encZ _ v [2, 1] wA := r
  have hbA : Below wA.heap.size wA (wA.alloc (.cells #[.int .i64 2, .int .i64 1] 3)) := (Below.refl _ _).alloc (Nat.le_refl _) _
  have r1 := r.below hbA
  have r2 := RK.lit (enc := encZ) [2, 1] 3 wA _ rfl #[.int .i64 2, .int .i64 1] rfl 2 rfl
  have h2 := h1.below partL partD hbA
  go_wp2_with fail
  refine (ints_same r1 r2 (by decide)).mono ?_
  rintro e wB ⟨rfl, n, rfl⟩
  have h3 := h2.drew partL partD n
  clear h1 h2 r r1 r2 hbA
  generalize (wA.alloc (.cells #[.int .i64 2, .int .i64 1] 3)).drewN n = wB at *
  go_wp2_with fail
  refine (t_touch_no h3 partD (k := 9) (i64_small _ (by decide) (by decide)) (by decide)).mono ?_
  rintro e wC ⟨rfl, h4, _⟩
  go_wp2_with fail
  refine (t_drop h4 partD (k := 2) (i64_small _ (by decide) (by decide)) (by decide) (by decide)).mono ?_
  rintro e wD ⟨rfl, h5, _⟩
  have h5 : Two (LV X 1 [] [1] 2) (DV Y [(5, 9), (6, 3)] 2) w (fun _ => False) wD := h5
  go_wp2_with fail
  refine (t_drop_no h5 partD (k := 2) (i64_small _ (by decide) (by decide)) (by decide)).mono ?_
  rintro e wE ⟨rfl, h6, _⟩
  go_wp2_with fail
  refine (t_dlen h6.swap).mono ?_
  rintro e wE ⟨rfl, rfl⟩
  go_wp2_with fail
  refine (t_upto h6.swap partL (by decide) 9 (-1) (i64_small _ (by decide) (by decide))).mono ?_
  rintro e wF ⟨v2, rfl, r, h7, _⟩
  have r : RK encQ _ v2 [(6, 3), (5, 9)] wF := r
  have hbF : Below wF.heap.size wF (wF.alloc (.cells #[.int .i64 6, .int .i64 3, .int .i64 5, .int .i64 9] 38)) := (Below.refl _ _).alloc (Nat.le_refl _) _
  have r1 := r.below hbF
  have r2 := RK.lit (enc := encQ) [(6, 3), (5, 9)] 38 wF _ rfl #[.int .i64 6, .int .i64 3, .int .i64 5, .int .i64 9] rfl 2 rfl
  have h8 := h7.below partD partL hbF
  go_wp2_with fail
  refine (pairs_same r1 r2 (by decide)).mono ?_
  rintro e wG ⟨rfl, n, rfl⟩
  have h9 := (h8.drew partD partL n).bel
  clear h3 h4 h5 h6 h7 h8 r r1 r2 hbF
  generalize (wF.alloc (.cells #[.int .i64 6, .int .i64 3, .int .i64 5, .int .i64 9] 38)).drewN n = wH at *
  go_wp2_with fail
  refine (ltouch_nil _ _).mono ?_
  rintro e wI ⟨rfl, rfl⟩
  go_wp2_with fail
  refine (dlen_nil _).mono ?_
  rintro e wJ ⟨rfl, rfl⟩
  go_wp2
  go_ret
  exact ⟨rfl, h9⟩
end Go.Proofs.Ytchlemajppnehaa
