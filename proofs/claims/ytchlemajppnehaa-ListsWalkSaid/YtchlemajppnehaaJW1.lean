/- 4 texts put together: Shelf, Ab, Lmap, Lable. -/
import Derived.Shelf.Abstract
import Derived.Test.YtchlemajppnehaaProg
import Derived.WalkKit
import Derived.Lib.Hide
import Derived.BigQuiet
import Derived.Deep.QuietTactic
import Derived.Below
import Derived.Laws.BitsAllLaws
import Derived.Laws.Bits64
import Derived.RangeFuncBox
import Derived.Laws.IdiomStrings
import Derived.Laws.CopyOwn
import Derived.RegionTactic
import Derived.ChangeAlike
import Derived.BigRegion
import Derived.Lib.BitFns
import Derived.Maps.OwnSet
import Derived.Maps.OwnOps
import Derived.Defers
import Derived.Recover
import Derived.Laws.Pointers
import Derived.Laws.NewBlocks
/- No layings of the shelf are wanted at this translation. -/

/- Blocks of cells that a call owns, and what a call leaves alone: the base of stage 6. -/
namespace Go.Proofs.Ytchlemajppnehaa
open Go.RowKit Go.Shelf

theorem ret_bool {a b : Bool} (h : a = b) : Ending.returned (.bool a) = .returned (.bool b) := by rw [h]
theorem ret_int {k : IntKind} {a b : Int} (h : a = b) : Ending.returned (.int k a) = .returned (.int k b) := by rw [h]
def encB (c : UInt8) : Value := .int .u8 (c.toNat : Int)
def encI (x : Nat) : Value := .int .i64 (x : Int)

/-- A block of cells, whole. -/
def Blk (W : World) (B : Nat) (l : List Value) (t : TypeId) : Prop := W.heap[B]? = some (.cells l.toArray t (0, 0))
theorem Blk.cell {W : World} {B : Nat} {l : List Value} {t : TypeId} (h : Blk W B l t) {i : Nat} {v : Value} (hv : l[i]? = some v) : W.cell? ⟨B, i, none⟩ = some v := by
  show (match W.heap[B]? with | some (.cells c _ _) => c[i]? | _ => none) = some v
  rw [show W.heap[B]? = _ from h]
  simpa using hv
theorem Blk.frozen {W : World} {B : Nat} {l : List Value} {t : TypeId} (h : Blk W B l t) (i : Nat) : W.frozen? ⟨B, i, none⟩ = false := by
  simp [World.frozen?, show W.heap[B]? = _ from h]
theorem Blk.lt {W : World} {B : Nat} {l : List Value} {t : TypeId} (h : Blk W B l t) : B < W.heap.size := (Array.getElem?_eq_some_iff.1 h).1
theorem Blk.new (W : World) (l : List Value) (t : TypeId) : Blk (W.alloc (.cells l.toArray t)) W.heap.size l t := World.alloc_heap_new W _
theorem Blk.kept {W W' : World} {B : Nat} {l : List Value} {t : TypeId} (h : Blk W B l t) (hb : W'.heap[B]? = W.heap[B]?) : Blk W' B l t := hb.trans h
theorem Blk.alloc {W : World} {B : Nat} {l : List Value} {t : TypeId} (h : Blk W B l t) (o : Obj) : Blk (W.alloc o) B l t := (Below.heap_alloc W o B h.lt).trans h
theorem Blk.drew {W : World} {B : Nat} {l : List Value} {t : TypeId} (h : Blk W B l t) (n : Nat) : Blk (W.drewN n) B l t := h
theorem Blk.other {W : World} {B B' : Nat} {l : List Value} {t : TypeId} (h : Blk W B l t) (hne : B ≠ B') (i : Nat) (u : Value) : Blk (W.setCell ⟨B', i, none⟩ u) B l t :=
  (Below.heap_setCell W ⟨B', i, none⟩ u B hne).trans h
theorem Blk.set {W : World} {B : Nat} {l : List Value} {t : TypeId} (h : Blk W B l t) (i : Nat) (v : Value) : Blk (W.setCell ⟨B, i, none⟩ v) B (l.set i v) t := by
  obtain ⟨hlt, hk⟩ := Array.getElem?_eq_some_iff.1 (show W.heap[B]? = _ from h)
  show (W.heap.modify B _)[B]? = _
  rw [Array.getElem?_eq_getElem (by rw [Array.size_modify]; exact hlt), Array.getElem_modify_self, hk]
  simp
theorem Blk.ne {W : World} {B B' : Nat} {l l' : List Value} {t t' : TypeId} (h : Blk W B l t) (h' : Blk W B' l' t') (ht : t ≠ t') : B ≠ B' := fun e => by
  subst e
  have := (show W.heap[B]? = _ from h).symm.trans h'
  injection this with this
  injection this with _ this
  exact ht this
theorem Blk.cells {W : World} {B : Nat} {l l' : List Value} {t t' : TypeId} (h : Blk W B l t) (h' : Blk W B l' t') : l = l' := by
  have := (show W.heap[B]? = _ from h).symm.trans h'
  injection this with this
  injection this with this _
  simpa using congrArg Array.toList this

theorem cells_new (w : World) (xs : List Value) (t : TypeId) : ∀ j u, xs[j]? = some u → (w.alloc (.cells xs.toArray t)).cell? ((⟨w.heap.size, 0, none⟩ : Addr).add j) = some u := by
  intro j u hj
  have e : (⟨w.heap.size, 0, none⟩ : Addr).add j = ⟨w.heap.size, 0 + j, none⟩ := by unfold Addr.add; split <;> simp_all
  rw [e, Nat.zero_add]
  exact (Blk.new w xs t).cell hj
/-- What the walk keeps book of. -/
def isBook : Obj → Bool
  | .loop _ => true
  | .deferred _ => true
  | _ => false
theorem book_cells {o : Obj} (h : isBook o = true) : o.isCells = false := by cases o <;> simp_all [isBook, Obj.isCells]
/-- A call has changed no block outside of f. -/
structure Trn (f : Nat → Prop) (W W' : World) : Prop where
  os : W'.os = W.os
  tape : W'.tape = W.tape
  output : W'.output = W.output
  size : W.heap.size ≤ W'.heap.size
  block : ∀ k, k < W.heap.size → ¬ f k → W'.heap[k]? = W.heap[k]?
  book : ∀ (k : Nat) (o : Obj), W.heap[k]? = some o → isBook o = true → W'.heap[k]? = some o
def grow (f : Nat → Prop) (W W' : World) : Nat → Prop := fun k => f k ∨ (W.heap.size ≤ k ∧ k < W'.heap.size)
theorem Trn.refl (f : Nat → Prop) (W : World) : Trn f W W := ⟨rfl, rfl, rfl, Nat.le_refl _, fun _ _ _ => rfl, fun _ _ h _ => h⟩
theorem Trn.trans {f : Nat → Prop} {A B C : World} (h : Trn f A B) (k : Trn (grow f A B) B C) : Trn f A C :=
  ⟨k.os.trans h.os, k.tape.trans h.tape, k.output.trans h.output, Nat.le_trans h.size k.size,
    fun i hi hf => (k.block i (Nat.lt_of_lt_of_le hi h.size) (fun e => e.elim hf (fun e => by omega))).trans (h.block i hi hf),
    fun i o ho hb => k.book i o (h.book i o ho hb) hb⟩
theorem Trn.of_below {f : Nat → Prop} {W W' : World} (h : Below W.heap.size W W') : Trn f W W' :=
  ⟨h.os, h.tape, h.output, h.size, fun k hk _ => h.block k hk, fun k _ ho _ => (h.block k (Array.getElem?_eq_some_iff.1 ho).1).trans ho⟩
theorem Trn.mono {f g : Nat → Prop} {W W' : World} (h : Trn f W W') (hfg : ∀ k, k < W.heap.size → f k → g k) : Trn g W W' :=
  ⟨h.os, h.tape, h.output, h.size, fun k hk hg => h.block k hk (fun e => hg (hfg k hk e)), h.book⟩
theorem Trn.below {f : Nat → Prop} {n : Nat} {W W' : World} (h : Trn f W W') (hf : ∀ k, f k → n ≤ k) (hn : n ≤ W.heap.size) : Below n W W' :=
  ⟨h.os, h.tape, h.output, h.size, fun k hk => h.block k (by omega) (fun e => by have := hf k e; omega)⟩
theorem Blk.trn {f : Nat → Prop} {W W' : World} {B : Nat} {l : List Value} {t : TypeId} (h : Blk W B l t) (ht : Trn f W W') (hf : ¬ f B) : Blk W' B l t := (ht.block B h.lt hf).trans h
theorem Trn.set {f : Nat → Prop} {W : World} {B : Nat} {l : List Value} {t : TypeId} (h : Blk W B l t) (hf : f B) (i : Nat) (v : Value) : Trn f W (W.setCell ⟨B, i, none⟩ v) := by
  have hb : ∀ k, k ≠ B → (W.setCell ⟨B, i, none⟩ v).heap[k]? = W.heap[k]? := fun k hk => Below.heap_setCell W ⟨B, i, none⟩ v k hk
  refine ⟨rfl, rfl, rfl, by simp [World.setCell], fun k _ hk => hb k (fun e => hk (e ▸ hf)), fun k o ho hk => (hb k (fun e => ?_)).trans ho⟩
  subst e
  rw [show W.heap[k]? = _ from h] at ho
  cases ho
  cases hk
theorem Trn.set1 {W : World} {B : Nat} {l : List Value} {t : TypeId} (h : Blk W B l t) (i : Nat) (v : Value) : Trn (fun k => k = B) W (W.setCell ⟨B, i, none⟩ v) := Trn.set (f := fun k => k = B) h rfl i v
theorem Trn.to {g : Nat → Prop} {N : Nat} {W W' : World} (h : Trn (fun k => k = N) W W') (hg : g N) : Trn g W W' := h.mono (fun _ _ e => e ▸ hg)
theorem set_same {α : Type} : ∀ {l : List α} {i : Nat} {v : α}, l[i]? = some v → l.set i v = l
  | x :: l, 0, v, h => by simp at h; simp [h]
  | x :: l, i + 1, v, h => by simp at h; simp [set_same h]
theorem Trn.alloc {f : Nat → Prop} (W : World) (o : Obj) : Trn f W (W.alloc o) := Trn.of_below ((Below.refl _ W).alloc (Nat.le_refl _) o)
theorem Trn.drew {f : Nat → Prop} (W : World) (n : Nat) : Trn f W (W.drewN n) := Trn.of_below ⟨rfl, rfl, rfl, Nat.le_refl _, fun _ _ => rfl⟩
theorem grow_trans {f : Nat → Prop} {A B C : World} (h1 : A.heap.size ≤ B.heap.size) (h2 : B.heap.size ≤ C.heap.size) (k : Nat) (h : grow (grow f A B) B C k) : grow f A C k := by
  rcases h with (h | h) | h
  · exact .inl h
  · exact .inr ⟨h.1, by omega⟩
  · exact .inr ⟨by omega, h.2⟩
theorem grow_self {f : Nat → Prop} {W W' : World} (h : W'.heap.size = W.heap.size) (k : Nat) (e : grow f W W' k) : f k := e.elim id (fun e => by omega)
end Go.Proofs.Ytchlemajppnehaa

/- A map from ints to places, that the call owns: by a function. -/
set_option maxRecDepth 100000
namespace Go.Proofs.Ytchlemajppnehaa
open Go Go.RowKit Go.Shelf Go.Maps
def klit (k : Int) : Lit := .int .i64 k
def I64 (k : Int) : Prop := (klit k).wf = true
theorem i64_of {k : Int} (h1 : -9223372036854775808 ≤ k) (h2 : k ≤ 9223372036854775807) : I64 k := by
  have hmin : IntKind.i64.min = -9223372036854775808 := rfl
  have hmax : IntKind.i64.max = 9223372036854775807 := rfl
  simp only [I64, klit, Lit.wf, Bool.and_eq_true, decide_eq_true_eq, hmin, hmax]
  exact ⟨h1, h2⟩
theorem I64.bounds {k : Int} (h : I64 k) : -9223372036854775808 ≤ k ∧ k ≤ 9223372036854775807 := by
  have hmin : IntKind.i64.min = -9223372036854775808 := rfl
  have hmax : IntKind.i64.max = 9223372036854775807 := rfl
  simp only [I64, klit, Lit.wf, Bool.and_eq_true, decide_eq_true_eq, hmin, hmax] at h
  exact h
theorem lawI : Keyed Try.prog 3 := int_keyed Try.underlying3
theorem zeroI (w : World) : (zeroValue 3).run Try.prog w = .ok (.int .i64 0) w := by kernel_rfl
theorem hkeyI {k : Int} (h : I64 k) : keyOf Try.prog 3 (.int .i64 k) = some (klit k) := keyOf_int_mk Try.underlying3 h
/-- Block M holds a map of at most n entries, that tells g. -/
structure MapI (M n : Nat) (g : Int → Option Nat) (W : World) : Prop where
  ex : ∃ D : DataW Unit, W.ownsMap Try.prog 3 (plainElem Try.prog 3) M n D ∧ ∀ k, I64 k → Maps.has D (klit k) = (g k).isSome ∧ ∀ i, g k = some i → ∀ z, D.atKey (klit k) z = .lit (.int .i64 (i : Int))
def updO (g : Int → Option Nat) (k : Int) (x : Option Nat) : Int → Option Nat := fun j => if j = k then x else g j
theorem MapI.kept {M n : Nat} {g : Int → Option Nat} {W W' : World} (h : MapI M n g W) (hb : W'.heap[M]? = W.heap[M]?) : MapI M n g W' := by
  obtain ⟨D, ⟨es, clock, h1, h2⟩, h3⟩ := h.ex
  exact ⟨D, ⟨es, clock, hb.trans h1, h2⟩, h3⟩
theorem MapI.lt {M n : Nat} {g : Int → Option Nat} {W : World} (h : MapI M n g W) : M < W.heap.size := by
  obtain ⟨D, h1, _⟩ := h.ex
  exact h1.lt
theorem MapI.below {M n : Nat} {g : Int → Option Nat} {W W' : World} (h : MapI M n g W) (hb : Below W.heap.size W W') : MapI M n g W' := h.kept (hb.block _ h.lt)
theorem MapI.ne {M n B : Nat} {g : Int → Option Nat} {W : World} {l : List Value} {t : TypeId} (h : MapI M n g W) (hb : Blk W B l t) : M ≠ B := fun e => by
  obtain ⟨D, ⟨es, clock, h1, _⟩, _⟩ := h.ex
  subst e
  rw [show W.heap[M]? = _ from hb] at h1
  cases h1
theorem mapI_new (W : World) : MapI W.heap.size 0 (fun _ => none) (W.alloc (.map #[] 0)) :=
  ⟨.map [], World.ownsMap_made _ _ _ _, fun k _ => ⟨rfl, fun i e => by cases e⟩⟩
/-- v, ok := m[k]. -/
theorem MapI.look {M n : Nat} {g : Int → Option Nat} {W : World} (h : MapI M n g W) {k : Int} (hk : I64 k) :
    (Instr.lookup 55 (.map (some M)) (.int .i64 k) true).run Try.prog W = .ok (.tuple #[.int .i64 (((g k).getD 0 : Nat) : Int), .bool (g k).isSome]) W := by
  obtain ⟨D, h1, h2⟩ := h.ex
  obtain ⟨v, ps, hrun, hv⟩ := h1.look_ok lawI Try.underlying55 (zeroI W) (zd := .lit (.int .i64 0)) (zp := []) (plainElem_int Try.underlying3 (by decide)) (hkeyI hk)
  obtain ⟨c, rfl, hc, _⟩ := plainElem_int_inv Try.underlying3 hv
  obtain ⟨a1, a2⟩ := h2 k hk
  rw [hrun, a1]
  have hc := congrArg Prod.fst hc
  have e : c = (((g k).getD 0 : Nat) : Int) := by
    cases hg : g k with
    | none =>
      rw [Maps.atKey_of_not_has (by rw [a1, hg]; rfl)] at hc
      cases hc
      rfl
    | some i =>
      rw [a2 i hg] at hc
      cases hc
      rfl
  rw [e]
theorem isKey_klit (k : Int) : WideAt.IsKeyLit (klit k) := by simp [klit, WideAt.IsKeyLit]
theorem klit_ne {j k : Int} (h : j ≠ k) : klit j ≠ klit k := fun e => h (by injection e)
/-- What a map's entries have become. -/
theorem turned_trn {w w' : World} {b : Nat} (h : w.mapTurned w' b) : Trn (fun k => k = b) w w' := by
  obtain ⟨es, clock, es', clock', hb, rfl⟩ := h
  have hg := World.mapTurned.grown (w := w) (b := b) ⟨es, clock, es', clock', hb, rfl⟩
  refine ⟨hg.os, hg.tape, hg.output, hg.size, fun k hk hne => hg.block k hk (fun e => hne (by simpa using e)), fun k o ho hbk => ?_⟩
  have hne : k ≠ b := fun e => by
    subst e
    rw [hb] at ho
    cases ho
    cases hbk
  have hlt : k < w.heap.size := (Array.getElem?_eq_some_iff.1 ho).1
  exact (hg.block k hlt (fun e => hne (by simpa using e))).trans ho
theorem turned_size {w w' : World} {b : Nat} (h : w.mapTurned w' b) : w'.heap.size = w.heap.size := by
  obtain ⟨es, clock, es', clock', hb, rfl⟩ := h
  exact Array.size_setIfInBounds
/-- m[k] = i. -/
theorem wpList_mapI (w : World) {ops : Array Oper} {rest : List Oper} {o : Oper} {a : Act} {Q : Exit → Act → World → Prop} (hg : o.guard = none) (m x v : Operand) (hop : o.op = Op.mapUpdate 55 m x v)
    (M n : Nat) (g : Int → Option Nat) (k : Int) (i : Nat) (hm : a.eval m = .map (some M)) (h : MapI M n g w) (hn : n < maxLen) (hx : a.eval x = .int .i64 k) (hv : a.eval v = .int .i64 (i : Int)) (hk : I64 k) (hi : I64 (i : Int))
    (hK : ∀ w', MapI M (n + 1) (updO g k (some i)) w' → w.mapTurned w' M → wpList Try.prog ops Q rest (a.put o.dst undef) w') :
    wpList Try.prog ops Q (o :: rest) a w := by
  obtain ⟨D, h1, h2⟩ := h.ex
  refine wpList_mapUpdate_in w hg m x v _ hop 3 3 lawI Try.underlying55 _ M n D hm h1 hn _ _ (klit k) hx hv (hkeyI hk) (.lit (.int .i64 (i : Int))) [] (plainElem_int Try.underlying3 hi) fun w' r1 r2 => hK w' ⟨_, r1, fun j hj => ?_⟩ r2
  obtain ⟨a1, a2⟩ := h2 j hj
  unfold updO
  by_cases e : j = k
  · subst e
    rw [if_pos rfl]
    refine ⟨Maps.has_put_same h1.isMap (isKey_klit _) _, fun i' e z => ?_⟩
    cases e
    exact Maps.atKey_put_same h1.isMap (isKey_klit _) _ _
  · rw [if_neg e]
    refine ⟨(Maps.has_put_other (klit_ne e) _).trans a1, fun i' e' z => ?_⟩
    rw [Maps.atKey_put_other (klit_ne e)]
    exact a2 i' e' z
/-- delete(m, k). -/
theorem run_delI {w : World} {M n : Nat} {g : Int → Option Nat} (h : MapI M n g w) {k : Int} (hk : I64 k) (ty : TypeId) :
    ∃ w', (Builtin.delete_ #[55, 3] ty #[.map (some M), .int .i64 k]).run Try.prog w = .ok (.tuple #[]) w' ∧ MapI M n (updO g k none) w' ∧ w.mapTurned w' M := by
  obtain ⟨D, h1, h2⟩ := h.ex
  obtain ⟨w', hrun, r1, r2⟩ := h1.drop lawI Try.underlying55 (hkeyI hk) ty
  refine ⟨w', hrun, ⟨_, r1, fun j hj => ?_⟩, r2⟩
  obtain ⟨a1, a2⟩ := h2 j hj
  unfold updO
  by_cases e : j = k
  · subst e
    rw [if_pos rfl]
    exact ⟨Maps.has_del_same, fun i' e => by cases e⟩
  · rw [if_neg e]
    refine ⟨(Maps.has_del_other (klit_ne e)).trans a1, fun i' e' z => ?_⟩
    rw [Maps.atKey_del_other (klit_ne e)]
    exact a2 i' e' z
end Go.Proofs.Ytchlemajppnehaa

/- able: what can be a key; it defers, and recovers nothing. -/
set_option maxRecDepth 100000
namespace Go.Proofs.Ytchlemajppnehaa
open Go Go.RowKit Go.Shelf
/-- The deferred closure of able, where nothing panics. -/
theorem ablec_idle (p : Addr) (x : Value) (w : World) (hc : w.cell? p = some x) (hz : w.frozen? p = false) :
    CallsD Try.prog 83 #[.pointer (some p)] .returning w fun e u' w' => e = .returned (.tuple #[]) ∧ u' = .returning ∧ w' = w.setCell p (.bool true) := by
  refine callsD_of_wpS Try.func83 rfl fun c₀ cs hu => ?_
  apply wpS_region
  simp [wpOpsS, go_sem, recoverD, hu, Try.ntmps83, hc, hz, bodyPostS, results, Try.results83]
  cases c₀
  simp_all
theorem able_any (k : Int) (hk : I64 k) (w : World) :
    Calls Try.prog 67 #[.int .i64 k] w fun e w' => e = .returned (.bool true) ∧ Below w.heap.size w w' := by
  have hmf : ∀ (fn : Fn) (first cap : Array Value) (w : World), (Instr.makeFunc fn first cap).run Try.prog w = .ok (.func fn first cap) w := fun _ _ _ _ => rfl
  go_enter_defers Try.func67, Try.ntmps67
  have hlk := fun w : World => Maps.look_nil (P := Try.prog) (w := w) false lawI Try.underlying55 (zeroI w) (hkeyI hk)
  go_wp2
  refine leaves_cons (f := 83) (args := #[.pointer (some ⟨w.heap.size, 0, none⟩)]) (by simp) (by simp [go_sem]) ?_
  refine (ablec_idle ⟨w.heap.size, 0, none⟩ (.bool true) _ ?_ ?_).mono ?_
  · simp [go_sem]
  · simp [go_sem]
  rintro e u' w'' ⟨rfl, rfl, rfl⟩
  simp [Leaves, settle, results, Try.results67, go_sem]
  exact (Below.refl _ _).alloc (Nat.le_refl _) _
end Go.Proofs.Ytchlemajppnehaa
