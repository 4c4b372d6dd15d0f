/- 2 texts put together: Shelf, Ab. -/
import Derived.Shelf.Abstract
import Derived.Test.YtmgnjkjldmjpfaaProg
import Derived.WalkKit
import Derived.Lib.Hide
import Derived.BigQuiet
import Derived.Deep.QuietTactic
import Derived.Below
import Derived.Laws.BitsAllLaws
import Derived.Laws.Bits64
import Derived.RangeFuncBox
import Derived.Laws.IdiomStrings
import Derived.Laws.CopyOwn
import Derived.RegionTactic
import Derived.ChangeAlike
import Derived.BigRegion
import Derived.Lib.BitFns
/- No layings of the shelf are wanted at this translation. -/

/- Blocks of cells that a call owns, and what a call leaves alone: the base of stage 6. -/
namespace Go.Proofs.Ytmgnjkjldmjpfaa
open Go.RowKit Go.Shelf

theorem ret_bool {a b : Bool} (h : a = b) : Ending.returned (.bool a) = .returned (.bool b) := by rw [h]
theorem ret_int {k : IntKind} {a b : Int} (h : a = b) : Ending.returned (.int k a) = .returned (.int k b) := by rw [h]
def encB (c : UInt8) : Value := .int .u8 (c.toNat : Int)
def encI (x : Nat) : Value := .int .i64 (x : Int)

/-- A block of cells, whole. -/
def Blk (W : World) (B : Nat) (l : List Value) (t : TypeId) : Prop := W.heap[B]? = some (.cells l.toArray t (0, 0))
theorem Blk.cell {W : World} {B : Nat} {l : List Value} {t : TypeId} (h : Blk W B l t) {i : Nat} {v : Value} (hv : l[i]? = some v) : W.cell? ⟨B, i, none⟩ = some v := by
  show (match W.heap[B]? with | some (.cells c _ _) => c[i]? | _ => none) = some v
  rw [show W.heap[B]? = _ from h]
  simpa using hv
theorem Blk.frozen {W : World} {B : Nat} {l : List Value} {t : TypeId} (h : Blk W B l t) (i : Nat) : W.frozen? ⟨B, i, none⟩ = false := by
  simp [World.frozen?, show W.heap[B]? = _ from h]
theorem Blk.lt {W : World} {B : Nat} {l : List Value} {t : TypeId} (h : Blk W B l t) : B < W.heap.size := (Array.getElem?_eq_some_iff.1 h).1
theorem Blk.new (W : World) (l : List Value) (t : TypeId) : Blk (W.alloc (.cells l.toArray t)) W.heap.size l t := World.alloc_heap_new W _
theorem Blk.kept {W W' : World} {B : Nat} {l : List Value} {t : TypeId} (h : Blk W B l t) (hb : W'.heap[B]? = W.heap[B]?) : Blk W' B l t := hb.trans h
theorem Blk.alloc {W : World} {B : Nat} {l : List Value} {t : TypeId} (h : Blk W B l t) (o : Obj) : Blk (W.alloc o) B l t := (Below.heap_alloc W o B h.lt).trans h
theorem Blk.drew {W : World} {B : Nat} {l : List Value} {t : TypeId} (h : Blk W B l t) (n : Nat) : Blk (W.drewN n) B l t := h
theorem Blk.other {W : World} {B B' : Nat} {l : List Value} {t : TypeId} (h : Blk W B l t) (hne : B ≠ B') (i : Nat) (u : Value) : Blk (W.setCell ⟨B', i, none⟩ u) B l t :=
  (Below.heap_setCell W ⟨B', i, none⟩ u B hne).trans h
theorem Blk.set {W : World} {B : Nat} {l : List Value} {t : TypeId} (h : Blk W B l t) (i : Nat) (v : Value) : Blk (W.setCell ⟨B, i, none⟩ v) B (l.set i v) t := by
  obtain ⟨hlt, hk⟩ := Array.getElem?_eq_some_iff.1 (show W.heap[B]? = _ from h)
  show (W.heap.modify B _)[B]? = _
  rw [Array.getElem?_eq_getElem (by rw [Array.size_modify]; exact hlt), Array.getElem_modify_self, hk]
  simp
theorem Blk.ne {W : World} {B B' : Nat} {l l' : List Value} {t t' : TypeId} (h : Blk W B l t) (h' : Blk W B' l' t') (ht : t ≠ t') : B ≠ B' := fun e => by
  subst e
  have := (show W.heap[B]? = _ from h).symm.trans h'
  injection this with this
  injection this with _ this
  exact ht this
theorem Blk.cells {W : World} {B : Nat} {l l' : List Value} {t t' : TypeId} (h : Blk W B l t) (h' : Blk W B l' t') : l = l' := by
  have := (show W.heap[B]? = _ from h).symm.trans h'
  injection this with this
  injection this with this _
  simpa using congrArg Array.toList this

theorem cells_new (w : World) (xs : List Value) (t : TypeId) : ∀ j u, xs[j]? = some u → (w.alloc (.cells xs.toArray t)).cell? ((⟨w.heap.size, 0, none⟩ : Addr).add j) = some u := by
  intro j u hj
  have e : (⟨w.heap.size, 0, none⟩ : Addr).add j = ⟨w.heap.size, 0 + j, none⟩ := by unfold Addr.add; split <;> simp_all
  rw [e, Nat.zero_add]
  exact (Blk.new w xs t).cell hj
/-- What the walk keeps book of. -/
def isBook : Obj → Bool
  | .loop _ => true
  | .deferred _ => true
  | _ => false
theorem book_cells {o : Obj} (h : isBook o = true) : o.isCells = false := by cases o <;> simp_all [isBook, Obj.isCells]
/-- A call has changed no block outside of f. -/
structure Trn (f : Nat → Prop) (W W' : World) : Prop where
  os : W'.os = W.os
  tape : W'.tape = W.tape
  output : W'.output = W.output
  size : W.heap.size ≤ W'.heap.size
  block : ∀ k, k < W.heap.size → ¬ f k → W'.heap[k]? = W.heap[k]?
  book : ∀ (k : Nat) (o : Obj), W.heap[k]? = some o → isBook o = true → W'.heap[k]? = some o
def grow (f : Nat → Prop) (W W' : World) : Nat → Prop := fun k => f k ∨ (W.heap.size ≤ k ∧ k < W'.heap.size)
theorem Trn.refl (f : Nat → Prop) (W : World) : Trn f W W := ⟨rfl, rfl, rfl, Nat.le_refl _, fun _ _ _ => rfl, fun _ _ h _ => h⟩
theorem Trn.trans {f : Nat → Prop} {A B C : World} (h : Trn f A B) (k : Trn (grow f A B) B C) : Trn f A C :=
  ⟨k.os.trans h.os, k.tape.trans h.tape, k.output.trans h.output, Nat.le_trans h.size k.size,
    fun i hi hf => (k.block i (Nat.lt_of_lt_of_le hi h.size) (fun e => e.elim hf (fun e => by omega))).trans (h.block i hi hf),
    fun i o ho hb => k.book i o (h.book i o ho hb) hb⟩
theorem Trn.of_below {f : Nat → Prop} {W W' : World} (h : Below W.heap.size W W') : Trn f W W' :=
  ⟨h.os, h.tape, h.output, h.size, fun k hk _ => h.block k hk, fun k _ ho _ => (h.block k (Array.getElem?_eq_some_iff.1 ho).1).trans ho⟩
theorem Trn.mono {f g : Nat → Prop} {W W' : World} (h : Trn f W W') (hfg : ∀ k, k < W.heap.size → f k → g k) : Trn g W W' :=
  ⟨h.os, h.tape, h.output, h.size, fun k hk hg => h.block k hk (fun e => hg (hfg k hk e)), h.book⟩
theorem Trn.below {f : Nat → Prop} {n : Nat} {W W' : World} (h : Trn f W W') (hf : ∀ k, f k → n ≤ k) (hn : n ≤ W.heap.size) : Below n W W' :=
  ⟨h.os, h.tape, h.output, h.size, fun k hk => h.block k (by omega) (fun e => by have := hf k e; omega)⟩
theorem Blk.trn {f : Nat → Prop} {W W' : World} {B : Nat} {l : List Value} {t : TypeId} (h : Blk W B l t) (ht : Trn f W W') (hf : ¬ f B) : Blk W' B l t := (ht.block B h.lt hf).trans h
theorem Trn.set {f : Nat → Prop} {W : World} {B : Nat} {l : List Value} {t : TypeId} (h : Blk W B l t) (hf : f B) (i : Nat) (v : Value) : Trn f W (W.setCell ⟨B, i, none⟩ v) := by
  have hb : ∀ k, k ≠ B → (W.setCell ⟨B, i, none⟩ v).heap[k]? = W.heap[k]? := fun k hk => Below.heap_setCell W ⟨B, i, none⟩ v k hk
  refine ⟨rfl, rfl, rfl, by simp [World.setCell], fun k _ hk => hb k (fun e => hk (e ▸ hf)), fun k o ho hk => (hb k (fun e => ?_)).trans ho⟩
  subst e
  rw [show W.heap[k]? = _ from h] at ho
  cases ho
  cases hk
theorem Trn.set1 {W : World} {B : Nat} {l : List Value} {t : TypeId} (h : Blk W B l t) (i : Nat) (v : Value) : Trn (fun k => k = B) W (W.setCell ⟨B, i, none⟩ v) := Trn.set (f := fun k => k = B) h rfl i v
theorem Trn.to {g : Nat → Prop} {N : Nat} {W W' : World} (h : Trn (fun k => k = N) W W') (hg : g N) : Trn g W W' := h.mono (fun _ _ e => e ▸ hg)
theorem set_same {α : Type} : ∀ {l : List α} {i : Nat} {v : α}, l[i]? = some v → l.set i v = l
  | x :: l, 0, v, h => by simp at h; simp [h]
  | x :: l, i + 1, v, h => by simp at h; simp [set_same h]
theorem Trn.alloc {f : Nat → Prop} (W : World) (o : Obj) : Trn f W (W.alloc o) := Trn.of_below ((Below.refl _ W).alloc (Nat.le_refl _) o)
theorem Trn.drew {f : Nat → Prop} (W : World) (n : Nat) : Trn f W (W.drewN n) := Trn.of_below ⟨rfl, rfl, rfl, Nat.le_refl _, fun _ _ => rfl⟩
theorem grow_trans {f : Nat → Prop} {A B C : World} (h1 : A.heap.size ≤ B.heap.size) (h2 : B.heap.size ≤ C.heap.size) (k : Nat) (h : grow (grow f A B) B C k) : grow f A C k := by
  rcases h with (h | h) | h
  · exact .inl h
  · exact .inr ⟨h.1, by omega⟩
  · exact .inr ⟨by omega, h.2⟩
theorem grow_self {f : Nat → Prop} {W W' : World} (h : W'.heap.size = W.heap.size) (k : Nat) (e : grow f W W' k) : f k := e.elim id (fun e => by omega)
end Go.Proofs.Ytmgnjkjldmjpfaa
