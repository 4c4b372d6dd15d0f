/- 6 texts put together: Shelf, Ab, Acost, Arm, Arep, And. -/
import Derived.Shelf.Small.Bits
import Derived.Shelf.Spec.TrailingZeros
import Derived.Shelf.Bytes.SlClone
import Derived.Test.YtagjjpmhacknpaaDoorProg
import Derived.WalkKit
import Derived.Lib.Hide
import Derived.BigQuiet
import Derived.Deep.QuietTactic
import Derived.Below
import Derived.Laws.BitsAllLaws
import Derived.Laws.Bits64
import Derived.RangeFuncBox
import Derived.Laws.IdiomStrings
import Derived.Laws.CopyOwn
import Derived.RegionTactic
import Derived.ChangeAlike
import Derived.BigRegion
import Derived.Lib.BitFns
/- The shelf's layings at this translation, in plain words: a table of numbers each, and one theorem, a field a fact of the translation. -/
namespace Go.Proofs.YtagjjpmhacknpaaDoor
open Go.Shelf
def Tryd.lays125_ren : Go.Shelf.Ren := ⟨fun | 125 => 43 | 128 => 57 | 129 => 58 | n => n, fun | 46 => 76 | 3 => 3 | 51 => 90 | 53 => 81 | 4 => 4 | 5 => 5 | 9 => 9 | n => n, fun | n => n⟩
theorem Tryd.lays125 : Go.Proofs.Lays.n125 Tryd.prog Tryd.lays125_ren := {
  mixed := by kernel_rfl
  f125 := Tryd.func43.trans (congrArg some (by kernel_rfl))
  f128 := Tryd.func57.trans (congrArg some (by kernel_rfl))
  f129 := Tryd.func58.trans (congrArg some (by kernel_rfl))
  t3 := Tryd.underlying3
  a3 := Tryd.isAgg3
  z3 := Tryd.sizeOf3
  v3 := Tryd.zeroValue3
  t4 := Tryd.underlying4
  a4 := Tryd.isAgg4
  z4 := Tryd.sizeOf4
  v4 := Tryd.zeroValue4
  t5 := Tryd.underlying5
  a5 := Tryd.isAgg5
  z5 := Tryd.sizeOf5
  v5 := Tryd.zeroValue5
  t9 := Tryd.underlying9
  a9 := Tryd.isAgg9
  z9 := Tryd.sizeOf9
  v9 := Tryd.zeroValue9
  t46 := Tryd.underlying76
  a46 := Tryd.isAgg76
  z46 := Tryd.sizeOf76
  v46 := Tryd.zeroValue76
  t51 := Tryd.underlying90
  a51 := Tryd.isAgg90
  z51 := Tryd.sizeOf90
  v51 := Tryd.zeroValue90
  t53 := Tryd.underlying81
  a53 := Tryd.isAgg81
  z53 := Tryd.sizeOf81
  v53 := Tryd.zeroValue81 }
def Tryd.lays29_ren : Go.Shelf.Ren := ⟨fun | 29 => 49 | n => n, fun | 22 => 81 | 3 => 3 | 4 => 4 | 25 => 76 | 54 => 94 | 0 => 0 | 5 => 5 | n => n, fun | 1 => 0 | n => n⟩
theorem Tryd.lays29 : Go.Proofs.Lays7.n29 Tryd.prog Tryd.lays29_ren := {
  mixed := by kernel_rfl
  f29 := Tryd.func49.trans (congrArg some (by kernel_rfl))
  t0 := Tryd.underlying0
  a0 := Tryd.isAgg0
  z0 := Tryd.sizeOf0
  v0 := Tryd.zeroValue0
  i0 := by kernel_rfl
  t3 := Tryd.underlying3
  a3 := Tryd.isAgg3
  z3 := Tryd.sizeOf3
  v3 := Tryd.zeroValue3
  i3 := by kernel_rfl
  t4 := Tryd.underlying4
  a4 := Tryd.isAgg4
  z4 := Tryd.sizeOf4
  v4 := Tryd.zeroValue4
  i4 := by kernel_rfl
  t5 := Tryd.underlying5
  a5 := Tryd.isAgg5
  z5 := Tryd.sizeOf5
  v5 := Tryd.zeroValue5
  i5 := by kernel_rfl
  t22 := Tryd.underlying81
  a22 := Tryd.isAgg81
  z22 := Tryd.sizeOf81
  v22 := Tryd.zeroValue81
  i22 := by kernel_rfl
  t25 := Tryd.underlying76
  a25 := Tryd.isAgg76
  z25 := Tryd.sizeOf76
  v25 := Tryd.zeroValue76
  i25 := by kernel_rfl
  t54 := Tryd.underlying94
  a54 := Tryd.isAgg94
  z54 := Tryd.sizeOf94
  g1 := by kernel_rfl }
def Tryd.lays4_ren : Go.Shelf.Ren := ⟨fun | 4 => 38 | n => n, fun | 22 => 34 | 4 => 4 | 5 => 5 | n => n, fun | n => n⟩
theorem Tryd.lays4 : Go.Proofs.SlLaysK.n4 Tryd.prog Tryd.lays4_ren := {
  mixed := by kernel_rfl
  f4 := Tryd.func38.trans (congrArg some (by kernel_rfl))
  t4 := Tryd.underlying4
  a4 := Tryd.isAgg4
  z4 := Tryd.sizeOf4
  v4 := Tryd.zeroValue4
  t22 := Tryd.underlying34
  a22 := Tryd.isAgg34
  z22 := Tryd.sizeOf34
  v22 := Tryd.zeroValue34
  t5 := Tryd.underlying5
  i5 := by kernel_rfl }
end Go.Proofs.YtagjjpmhacknpaaDoor

/- Blocks of cells that a call owns, and what a call leaves alone: the base of stage 6. -/
namespace Go.Proofs.YtagjjpmhacknpaaDoor
open Go.RowKit Go.Shelf

theorem ret_bool {a b : Bool} (h : a = b) : Ending.returned (.bool a) = .returned (.bool b) := by rw [h]
theorem ret_int {k : IntKind} {a b : Int} (h : a = b) : Ending.returned (.int k a) = .returned (.int k b) := by rw [h]
def encB (c : UInt8) : Value := .int .u8 (c.toNat : Int)
def encI (x : Nat) : Value := .int .i64 (x : Int)

/-- A block of cells, whole. -/
def Blk (W : World) (B : Nat) (l : List Value) (t : TypeId) : Prop := W.heap[B]? = some (.cells l.toArray t (0, 0))
theorem Blk.cell {W : World} {B : Nat} {l : List Value} {t : TypeId} (h : Blk W B l t) {i : Nat} {v : Value} (hv : l[i]? = some v) : W.cell? ⟨B, i, none⟩ = some v := by
  show (match W.heap[B]? with | some (.cells c _ _) => c[i]? | _ => none) = some v
  rw [show W.heap[B]? = _ from h]
  simpa using hv
theorem Blk.frozen {W : World} {B : Nat} {l : List Value} {t : TypeId} (h : Blk W B l t) (i : Nat) : W.frozen? ⟨B, i, none⟩ = false := by
  simp [World.frozen?, show W.heap[B]? = _ from h]
theorem Blk.lt {W : World} {B : Nat} {l : List Value} {t : TypeId} (h : Blk W B l t) : B < W.heap.size := (Array.getElem?_eq_some_iff.1 h).1
theorem Blk.new (W : World) (l : List Value) (t : TypeId) : Blk (W.alloc (.cells l.toArray t)) W.heap.size l t := World.alloc_heap_new W _
theorem Blk.kept {W W' : World} {B : Nat} {l : List Value} {t : TypeId} (h : Blk W B l t) (hb : W'.heap[B]? = W.heap[B]?) : Blk W' B l t := hb.trans h
theorem Blk.alloc {W : World} {B : Nat} {l : List Value} {t : TypeId} (h : Blk W B l t) (o : Obj) : Blk (W.alloc o) B l t := (Below.heap_alloc W o B h.lt).trans h
theorem Blk.drew {W : World} {B : Nat} {l : List Value} {t : TypeId} (h : Blk W B l t) (n : Nat) : Blk (W.drewN n) B l t := h
theorem Blk.other {W : World} {B B' : Nat} {l : List Value} {t : TypeId} (h : Blk W B l t) (hne : B ≠ B') (i : Nat) (u : Value) : Blk (W.setCell ⟨B', i, none⟩ u) B l t :=
  (Below.heap_setCell W ⟨B', i, none⟩ u B hne).trans h
theorem Blk.set {W : World} {B : Nat} {l : List Value} {t : TypeId} (h : Blk W B l t) (i : Nat) (v : Value) : Blk (W.setCell ⟨B, i, none⟩ v) B (l.set i v) t := by
  obtain ⟨hlt, hk⟩ := Array.getElem?_eq_some_iff.1 (show W.heap[B]? = _ from h)
  show (W.heap.modify B _)[B]? = _
  rw [Array.getElem?_eq_getElem (by rw [Array.size_modify]; exact hlt), Array.getElem_modify_self, hk]
  simp
theorem Blk.ne {W : World} {B B' : Nat} {l l' : List Value} {t t' : TypeId} (h : Blk W B l t) (h' : Blk W B' l' t') (ht : t ≠ t') : B ≠ B' := fun e => by
  subst e
  have := (show W.heap[B]? = _ from h).symm.trans h'
  injection this with this
  injection this with _ this
  exact ht this
theorem Blk.cells {W : World} {B : Nat} {l l' : List Value} {t t' : TypeId} (h : Blk W B l t) (h' : Blk W B l' t') : l = l' := by
  have := (show W.heap[B]? = _ from h).symm.trans h'
  injection this with this
  injection this with this _
  simpa using congrArg Array.toList this

theorem cells_new (w : World) (xs : List Value) (t : TypeId) : ∀ j u, xs[j]? = some u → (w.alloc (.cells xs.toArray t)).cell? ((⟨w.heap.size, 0, none⟩ : Addr).add j) = some u := by
  intro j u hj
  have e : (⟨w.heap.size, 0, none⟩ : Addr).add j = ⟨w.heap.size, 0 + j, none⟩ := by unfold Addr.add; split <;> simp_all
  rw [e, Nat.zero_add]
  exact (Blk.new w xs t).cell hj
/-- What the walk keeps book of. -/
def isBook : Obj → Bool
  | .loop _ => true
  | .deferred _ => true
  | _ => false
theorem book_cells {o : Obj} (h : isBook o = true) : o.isCells = false := by cases o <;> simp_all [isBook, Obj.isCells]
/-- A call has changed no block outside of f. -/
structure Trn (f : Nat → Prop) (W W' : World) : Prop where
  os : W'.os = W.os
  tape : W'.tape = W.tape
  output : W'.output = W.output
  size : W.heap.size ≤ W'.heap.size
  block : ∀ k, k < W.heap.size → ¬ f k → W'.heap[k]? = W.heap[k]?
  book : ∀ (k : Nat) (o : Obj), W.heap[k]? = some o → isBook o = true → W'.heap[k]? = some o
def grow (f : Nat → Prop) (W W' : World) : Nat → Prop := fun k => f k ∨ (W.heap.size ≤ k ∧ k < W'.heap.size)
theorem Trn.refl (f : Nat → Prop) (W : World) : Trn f W W := ⟨rfl, rfl, rfl, Nat.le_refl _, fun _ _ _ => rfl, fun _ _ h _ => h⟩
theorem Trn.trans {f : Nat → Prop} {A B C : World} (h : Trn f A B) (k : Trn (grow f A B) B C) : Trn f A C :=
  ⟨k.os.trans h.os, k.tape.trans h.tape, k.output.trans h.output, Nat.le_trans h.size k.size,
    fun i hi hf => (k.block i (Nat.lt_of_lt_of_le hi h.size) (fun e => e.elim hf (fun e => by omega))).trans (h.block i hi hf),
    fun i o ho hb => k.book i o (h.book i o ho hb) hb⟩
theorem Trn.of_below {f : Nat → Prop} {W W' : World} (h : Below W.heap.size W W') : Trn f W W' :=
  ⟨h.os, h.tape, h.output, h.size, fun k hk _ => h.block k hk, fun k _ ho _ => (h.block k (Array.getElem?_eq_some_iff.1 ho).1).trans ho⟩
theorem Trn.mono {f g : Nat → Prop} {W W' : World} (h : Trn f W W') (hfg : ∀ k, k < W.heap.size → f k → g k) : Trn g W W' :=
  ⟨h.os, h.tape, h.output, h.size, fun k hk hg => h.block k hk (fun e => hg (hfg k hk e)), h.book⟩
theorem Trn.below {f : Nat → Prop} {n : Nat} {W W' : World} (h : Trn f W W') (hf : ∀ k, f k → n ≤ k) (hn : n ≤ W.heap.size) : Below n W W' :=
  ⟨h.os, h.tape, h.output, h.size, fun k hk => h.block k (by omega) (fun e => by have := hf k e; omega)⟩
theorem Blk.trn {f : Nat → Prop} {W W' : World} {B : Nat} {l : List Value} {t : TypeId} (h : Blk W B l t) (ht : Trn f W W') (hf : ¬ f B) : Blk W' B l t := (ht.block B h.lt hf).trans h
theorem Trn.set {f : Nat → Prop} {W : World} {B : Nat} {l : List Value} {t : TypeId} (h : Blk W B l t) (hf : f B) (i : Nat) (v : Value) : Trn f W (W.setCell ⟨B, i, none⟩ v) := by
  have hb : ∀ k, k ≠ B → (W.setCell ⟨B, i, none⟩ v).heap[k]? = W.heap[k]? := fun k hk => Below.heap_setCell W ⟨B, i, none⟩ v k hk
  refine ⟨rfl, rfl, rfl, by simp [World.setCell], fun k _ hk => hb k (fun e => hk (e ▸ hf)), fun k o ho hk => (hb k (fun e => ?_)).trans ho⟩
  subst e
  rw [show W.heap[k]? = _ from h] at ho
  cases ho
  cases hk
theorem Trn.set1 {W : World} {B : Nat} {l : List Value} {t : TypeId} (h : Blk W B l t) (i : Nat) (v : Value) : Trn (fun k => k = B) W (W.setCell ⟨B, i, none⟩ v) := Trn.set (f := fun k => k = B) h rfl i v
theorem Trn.to {g : Nat → Prop} {N : Nat} {W W' : World} (h : Trn (fun k => k = N) W W') (hg : g N) : Trn g W W' := h.mono (fun _ _ e => e ▸ hg)
theorem set_same {α : Type} : ∀ {l : List α} {i : Nat} {v : α}, l[i]? = some v → l.set i v = l
  | x :: l, 0, v, h => by simp at h; simp [h]
  | x :: l, i + 1, v, h => by simp at h; simp [set_same h]
theorem Trn.alloc {f : Nat → Prop} (W : World) (o : Obj) : Trn f W (W.alloc o) := Trn.of_below ((Below.refl _ W).alloc (Nat.le_refl _) o)
theorem Trn.drew {f : Nat → Prop} (W : World) (n : Nat) : Trn f W (W.drewN n) := Trn.of_below ⟨rfl, rfl, rfl, Nat.le_refl _, fun _ _ => rfl⟩
theorem grow_trans {f : Nat → Prop} {A B C : World} (h1 : A.heap.size ≤ B.heap.size) (h2 : B.heap.size ≤ C.heap.size) (k : Nat) (h : grow (grow f A B) B C k) : grow f A C k := by
  rcases h with (h | h) | h
  · exact .inl h
  · exact .inr ⟨h.1, by omega⟩
  · exact .inr ⟨by omega, h.2⟩
theorem grow_self {f : Nat → Prop} {W W' : World} (h : W'.heap.size = W.heap.size) (k : Nat) (e : grow f W W' k) : f k := e.elim id (fun e => by omega)
end Go.Proofs.YtagjjpmhacknpaaDoor

/- Cost, classOf: numbers alone. -/
namespace Go.Proofs.YtagjjpmhacknpaaDoor
open Go.RowKit Go.Shelf
namespace Ar
/-- What a block of n bytes takes. -/
def cost (n : Nat) : Nat := if n ≤ 8 then 16 else if n ≤ 24 then 32 else if n ≤ 56 then 64 else if n ≤ 120 then 128 else if n ≤ 248 then 256 else if n ≤ 504 then 512 else if n ≤ 1016 then 1024 else if n ≤ 2040 then 2048 else if n ≤ 4088 then 4096 else 8192
def costI (n : Int) : Nat := if 0 ≤ n ∧ n ≤ 4096 then cost n.toNat else 0
/-- The class of a piece of so many bytes. -/
def cls (s : Nat) : Nat := Lib.bitLen (s / 16) - 1
end Ar
theorem bitLenAux_le : ∀ (f x : Nat), Lib.bitLenAux f x ≤ f
  | 0, _ => Nat.le_refl _
  | f + 1, x => by
    unfold Lib.bitLenAux
    split
    · omega
    · have := bitLenAux_le f (x / 2); omega
/-- 2^(l-1) ≤ x < 2^l. -/
theorem bitLenAux_lo : ∀ (f x : Nat), x < 2 ^ f → x < 2 ^ Lib.bitLenAux f x
  | 0, x, h => by simpa [Lib.bitLenAux] using h
  | f + 1, x, h => by
    unfold Lib.bitLenAux
    split
    · rename_i h0; subst h0; simp
    · have := bitLenAux_lo f (x / 2) (by omega)
      rw [Nat.pow_add]; omega
theorem bitLenAux_hi : ∀ (f x : Nat), x ≠ 0 → x < 2 ^ f → 2 ^ (Lib.bitLenAux f x - 1) ≤ x
  | 0, x, h0, h => by simp at h; omega
  | f + 1, x, h0, h => by
    unfold Lib.bitLenAux
    rw [if_neg h0]
    by_cases h2 : x / 2 = 0
    · have : Lib.bitLenAux f (x / 2) = 0 := by
        rw [h2]; cases f <;> simp [Lib.bitLenAux]
      rw [this]; simp; omega
    · have := bitLenAux_hi f (x / 2) h2 (by omega)
      have h3 : 1 ≤ Lib.bitLenAux f (x / 2) := by
        cases f with
        | zero => simp at h; omega
        | succ f => unfold Lib.bitLenAux; rw [if_neg h2]; omega
      rw [show 1 + Lib.bitLenAux f (x / 2) - 1 = (Lib.bitLenAux f (x / 2) - 1) + 1 by omega, Nat.pow_succ]
      omega
theorem bitLen_lt {x : Nat} (h : x < 18446744073709551616) : x < 2 ^ Lib.bitLen x := bitLenAux_lo 64 x h
theorem le_bitLen {x : Nat} (h0 : x ≠ 0) (h : x < 18446744073709551616) : 2 ^ (Lib.bitLen x - 1) ≤ x := bitLenAux_hi 64 x h0 h
theorem bitLen_pos {x : Nat} (h0 : x ≠ 0) : 1 ≤ Lib.bitLen x := by unfold Lib.bitLen Lib.bitLenAux; rw [if_neg h0]; omega
theorem bitLen_eq {x k : Nat} (h1 : 2 ^ k ≤ x) (h2 : x < 2 ^ (k + 1)) (h : x < 18446744073709551616) : Lib.bitLen x = k + 1 := by
  have h0 : x ≠ 0 := by have := Nat.two_pow_pos k; omega
  have a := bitLen_lt h
  have b := le_bitLen h0 h
  have c := bitLen_pos h0
  have e1 : k < Lib.bitLen x := (Nat.pow_lt_pow_iff_right (by decide : 1 < 2)).1 (Nat.lt_of_le_of_lt h1 a)
  have e2 : Lib.bitLen x - 1 < k + 1 := (Nat.pow_lt_pow_iff_right (by decide : 1 < 2)).1 (Nat.lt_of_le_of_lt b h2)
  omega
namespace Ar
theorem cost_cases (n : Nat) (h : n ≤ 4096) : ∃ k, 4 ≤ k ∧ k ≤ 13 ∧ cost n = 2 ^ k ∧ n + 8 ≤ 2 ^ k ∧ (k = 4 ∨ 2 ^ k < 2 * (n + 8)) := by
  unfold cost
  split
  · exact ⟨4, by decide, by decide, by decide, by simp; omega, .inl rfl⟩
  split
  · exact ⟨5, by decide, by decide, by decide, by simp; omega, .inr (by simp; omega)⟩
  split
  · exact ⟨6, by decide, by decide, by decide, by simp; omega, .inr (by simp; omega)⟩
  split
  · exact ⟨7, by decide, by decide, by decide, by simp; omega, .inr (by simp; omega)⟩
  split
  · exact ⟨8, by decide, by decide, by decide, by simp; omega, .inr (by simp; omega)⟩
  split
  · exact ⟨9, by decide, by decide, by decide, by simp; omega, .inr (by simp; omega)⟩
  split
  · exact ⟨10, by decide, by decide, by decide, by simp; omega, .inr (by simp; omega)⟩
  split
  · exact ⟨11, by decide, by decide, by decide, by simp; omega, .inr (by simp; omega)⟩
  split
  · exact ⟨12, by decide, by decide, by decide, by simp; omega, .inr (by simp; omega)⟩
  · exact ⟨13, by decide, by decide, by decide, by simp; omega, .inr (by simp; omega)⟩
theorem cost_len (n : Nat) (h : n ≤ 4096) : max 16 (2 ^ Lib.bitLen (n + 7)) = cost n ∧ Lib.bitLen (n + 7) ≤ 13 := by
  obtain ⟨k, h1, h2, e, h3, h4⟩ := cost_cases n h
  rw [e]
  have hb : Lib.bitLen (n + 7) ≤ 13 := by
    have a := le_bitLen (x := n + 7) (by omega) (by omega)
    have : 2 ^ (Lib.bitLen (n + 7) - 1) < 2 ^ 13 := by
      have : (2 : Nat) ^ 13 = 8192 := by decide
      omega
    have := (Nat.pow_lt_pow_iff_right (by decide : 1 < 2)).1 this
    omega
  refine ⟨?_, hb⟩
  by_cases hk : k = 4
  · subst hk
    have : Lib.bitLen (n + 7) ≤ 4 := by
      have a := le_bitLen (x := n + 7) (by omega) (by omega)
      have : 2 ^ (Lib.bitLen (n + 7) - 1) < 2 ^ 4 := by simp at h3 ⊢; omega
      have := (Nat.pow_lt_pow_iff_right (by decide : 1 < 2)).1 this
      omega
    have : 2 ^ Lib.bitLen (n + 7) ≤ 2 ^ 4 := Nat.pow_le_pow_right (by decide) this
    simp at this ⊢; omega
  · have h4 := h4.resolve_left hk
    obtain ⟨j, rfl⟩ : ∃ j, k = j + 1 := ⟨k - 1, by omega⟩
    have := bitLen_eq (x := n + 7) (k := j) (by rw [Nat.pow_succ] at h4; omega) (by omega) (by omega)
    rw [this]
    have : 2 ^ 4 ≤ 2 ^ (j + 1) := Nat.pow_le_pow_right (by decide) h1
    simp at this ⊢; omega
theorem cost_ge (n : Nat) (h : n ≤ 4096) : n + 8 ≤ cost n ∧ 16 ≤ cost n ∧ cost n ≤ 8192 ∧ cost n % 16 = 0 := by
  unfold cost
  repeat' split
  all_goals omega
theorem cls_spec {s : Nat} (h1 : 16 ≤ s) (h2 : s ≤ 1048576) : 2 ^ (cls s) * 16 ≤ s ∧ s < 2 ^ (cls s + 1) * 16 ∧ cls s ≤ 16 := by
  unfold cls
  have h0 : s / 16 ≠ 0 := by omega
  have a := bitLen_lt (x := s / 16) (by omega)
  have b := le_bitLen h0 (by omega)
  have c := bitLen_pos h0
  rw [show Lib.bitLen (s / 16) - 1 + 1 = Lib.bitLen (s / 16) by omega]
  refine ⟨by omega, by omega, ?_⟩
  have : 2 ^ (Lib.bitLen (s / 16) - 1) < 2 ^ 17 := by
    have : (2 : Nat) ^ 17 = 131072 := by decide
    omega
  have := (Nat.pow_lt_pow_iff_right (by decide : 1 < 2)).1 this
  omega
theorem cls_cost {n : Nat} (h : n ≤ 4096) : 2 ^ cls (cost n) * 16 = cost n := by
  obtain ⟨k, h1, h2, e, _, _⟩ := cost_cases n h
  rw [e]
  unfold cls
  obtain ⟨j, rfl⟩ : ∃ j, k = j + 4 := ⟨k - 4, by omega⟩
  have hd : 2 ^ (j + 4) / 16 = 2 ^ j := by rw [Nat.pow_add]; simp
  have h3 : (2 : Nat) ^ j ≤ 2 ^ 9 := Nat.pow_le_pow_right (by decide) (by omega)
  have h4 : (2 : Nat) ^ 9 = 512 := by decide
  rw [hd, bitLen_eq (x := 2 ^ j) (k := j) (Nat.le_refl _) (by rw [Nat.pow_succ]; have := Nat.two_pow_pos j; omega) (by omega), Nat.pow_add]
  simp
/-- A piece of a class at least as high is large enough. -/
theorem cls_fits {n s : Nat} (h : n ≤ 4096) (h1 : 16 ≤ s) (h2 : s ≤ 1048576) (hc : cls (cost n) ≤ cls s) : cost n ≤ s := by
  have a := cls_cost h
  have b := (cls_spec h1 h2).1
  have c : 2 ^ cls (cost n) ≤ 2 ^ cls s := Nat.pow_le_pow_right (by decide) hc
  omega
theorem cls_mono {a b : Nat} (h1 : 16 ≤ a) (h : a ≤ b) (h2 : b ≤ 1048576) : cls a ≤ cls b := by
  have x := (cls_spec h1 (by omega)).1
  have y := (cls_spec (by omega) h2).2.1
  have : 2 ^ cls a < 2 ^ (cls b + 1) := by omega
  have := (Nat.pow_lt_pow_iff_right (by decide : 1 < 2)).1 this
  omega
end Ar
theorem len_any (x : Nat) (y : Int) (w : World) (h : x < 18446744073709551616) (hy : y = (x : Int)) : Calls Tryd.prog 43 #[.int .u64 y] w fun e w' => e = .returned (.int .i64 (Lib.bitLen x : Int)) ∧ w = w' := by
  subst hy
  have := Any.bits_Len Tryd.lays125 (x : Int) w (by omega) (by omega)
  refine Calls.mono this fun e w' ⟨h1, h2⟩ => ⟨by simpa using h1, h2.symm⟩
set_option maxHeartbeats 400000 in
theorem cost_any (n : Int) (w : World) : Calls Tryd.prog 20 #[.int .i64 n] w fun e w' => e = .returned (.int .i64 (Ar.costI n : Int)) ∧ w = w' := by
  unfold Ar.costI
  by_cases h : 0 ≤ n ∧ n ≤ 4096
  · obtain ⟨n, rfl⟩ := Int.eq_ofNat_of_zero_le h.1
    have hn : n ≤ 4096 := by omega
    rw [if_pos h]
    have hc := Ar.cost_len n hn
    have hl := Lib.hid hc.1
    have hb := hc.2
    clear hc h
    go_enter Tryd.func20, Tryd.ntmps20
    go_wp2_with (go_at_call 43; (with_reducible refine (len_any (n + 7) _ _ (by omega) (by omega)).mono ?_); rintro e w' ⟨rfl, rfl⟩)
    go_ret
    refine ⟨ret_int ?_, rfl⟩
    have hc := hl.out
    have h2 : (2 : Int) ^ Lib.bitLen (n + 7) = ((2 ^ Lib.bitLen (n + 7) : Nat) : Int) := by push_cast; rfl
    have h3 : 2 ^ Lib.bitLen (n + 7) ≤ 2 ^ 13 := Nat.pow_le_pow_right (by decide) hb
    rw [h2]
    generalize 2 ^ Lib.bitLen (n + 7) = m at hc h3 ⊢
    have h4 : wrap64 (m : Int) = m := by unfold wrap64; omega
    rw [h4, Int.toNat_natCast]
    omega
  · rw [if_neg h]
    go_enter Tryd.func20, Tryd.ntmps20
    by_cases h1 : n < 0
    · go_wp2
      go_ret
      exact ⟨rfl, rfl⟩
    · have h2 : 4096 < n := by omega
      go_wp2
      go_ret
      exact ⟨rfl, rfl⟩
set_option maxHeartbeats 400000 in
theorem classOf_any (s : Nat) (w : World) (h1 : 16 ≤ s) (h2 : s ≤ 1048576) : Calls Tryd.prog 47 #[.int .i64 (s : Int)] w fun e w' => e = .returned (.int .i64 (Ar.cls s : Int)) ∧ w = w' := by
  have hb : 1 ≤ Lib.bitLen (s / 16) := bitLen_pos (by omega)
  have hb2 : Lib.bitLen (s / 16) ≤ 64 := bitLenAux_le 64 _
  unfold Ar.cls
  go_enter Tryd.func47, Tryd.ntmps47
  go_wp2_with (go_at_call 43; (with_reducible refine (len_any (s / 16) _ _ (by omega) (by omega)).mono ?_); rintro e w' ⟨rfl, rfl⟩)
  go_ret
  exact ⟨ret_int (by omega), rfl⟩
end Go.Proofs.YtagjjpmhacknpaaDoor

/- An arena in numbers alone: heads in bytes, lists of free pieces, handles. -/
namespace Go.Proofs.YtagjjpmhacknpaaDoor
namespace Ar
structure Head where
  free : Bool
  marked : Bool
  owner : Nat
  size : Nat
  ahead : Nat
def Head.fits (p : Head) : Prop := p.owner < 1048576 ∧ p.size < 2097152 ∧ p.ahead < 2097152
def Head.word (p : Head) : Nat := (if p.free then 9223372036854775808 else 0) + (if p.marked then 4611686018427387904 else 0) + p.owner * 4398046511104 + p.size * 2097152 + p.ahead
def headOf (x : Nat) : Head := ⟨decide (x / 9223372036854775808 % 2 = 1), decide (x / 4611686018427387904 % 2 = 1), x / 4398046511104 % 1048576, x / 2097152 % 2097152, x % 2097152⟩
theorem headOf_word {p : Head} (h : p.fits) : headOf p.word = p := by
  obtain ⟨f, mk, o, s, a⟩ := p
  obtain ⟨h1, h2, h3⟩ := h
  simp only at h1 h2 h3
  unfold headOf Head.word
  cases f <;> cases mk <;> simp only [Head.mk.injEq, Bool.false_eq_true, if_false, if_true, decide_eq_true_eq, decide_eq_false_iff_not] <;> refine ⟨by omega, by omega, by omega, by omega, by omega⟩
theorem word_lt {p : Head} (h : p.fits) : p.word < 18446744073709551616 := by
  obtain ⟨h1, h2, h3⟩ := h
  unfold Head.word
  split <;> split <;> omega
/-- Bytes, the highest first. -/
def wordOf : List UInt8 → Nat := List.foldl (fun a b => a * 256 + b.toNat) 0
theorem wordOf_snoc (l : List UInt8) (b : UInt8) : wordOf (l ++ [b]) = wordOf l * 256 + b.toNat := by simp [wordOf]
theorem foldl_lt : ∀ (l : List UInt8) (a : Nat), l.foldl (fun a b => a * 256 + b.toNat) a < (a + 1) * 256 ^ l.length
  | [], a => by simp
  | b :: l, a => by
    have ih := foldl_lt l (a * 256 + b.toNat)
    have hb := UInt8.toNat_lt b
    have : (a * 256 + b.toNat + 1) * 256 ^ l.length ≤ ((a + 1) * 256) * 256 ^ l.length := Nat.mul_le_mul_right _ (by omega)
    rw [List.foldl_cons, List.length_cons, Nat.pow_succ]
    rw [show (a + 1) * (256 ^ l.length * 256) = ((a + 1) * 256) * 256 ^ l.length by rw [Nat.mul_comm (256 ^ l.length), Nat.mul_assoc]]
    omega
theorem wordOf_lt (l : List UInt8) : wordOf l < 256 ^ l.length := by have := foldl_lt l 0; simpa [wordOf] using this
end Ar
end Go.Proofs.YtagjjpmhacknpaaDoor

/- What lies in memory for an arena. -/
namespace Go.Proofs.YtagjjpmhacknpaaDoor
open Go.RowKit Go.Shelf
namespace Ar
structure Node where
  v : Nat
  l : Nat
  n : Nat
  deriving DecidableEq
structure St where
  mem : List UInt8
  used : Nat
  pl : List Nat
  us : List Nat
  low : Nat
  nd : List Node
  spare : Nat
end Ar
def encP (x : Nat) : Value := .int .i32 (x : Int)
def encU (x : Nat) : Value := .int .u64 (x : Int)
def encN (x : Ar.Node) : List Value := [encI x.v, encI x.l, encI x.n]
def encNs (l : List Ar.Node) : List Value := l.flatMap encN
structure Loc where
  M : Nat
  P : Nat
  U : Nat
  N : Nat
  cap : Nat
  rest : List Value
def arBox (L : Loc) (S : Ar.St) : List Value :=
  [.slice (some ⟨L.M, 0, none⟩) S.mem.length S.mem.length, encI S.used, .slice (some ⟨L.P, 0, none⟩) S.pl.length S.pl.length, .slice (some ⟨L.U, 0, none⟩) S.us.length S.us.length, encI S.low, .slice (some ⟨L.N, 0, none⟩) S.nd.length L.cap, encI S.spare]
structure ArE (A : Nat) (L : Loc) (S : Ar.St) (f : Nat → Prop) (w : World) : Prop where
  box : Blk w A (arBox L S) 66
  mem : Blk w L.M (S.mem.map encB) 5
  pl : Blk w L.P (S.pl.map encP) 21
  us : Blk w L.U (S.us.map encU) 81
  nd : Blk w L.N (encNs S.nd ++ L.rest) 93
  cap : L.rest.length + 3 * S.nd.length = 3 * L.cap
  cm : L.cap ≤ maxLen
  fA : f A
  fM : f L.M
  fP : f L.P
  fU : f L.U
  fN : f L.N
  fb : ∀ k, f k → k < w.heap.size
theorem encB_at {l : List UInt8} {i : Nat} (h : i < l.length) : (l.map encB)[i]? = some (.int .u8 (l[i].toNat : Int)) := by simp [h, encB]
theorem ArE.below {A : Nat} {L : Loc} {S : Ar.St} {f : Nat → Prop} {w w' : World} (h : ArE A L S f w) (hb : Below w.heap.size w w') : ArE A L S f w' :=
  ⟨h.box.kept (hb.block _ h.box.lt), h.mem.kept (hb.block _ h.mem.lt), h.pl.kept (hb.block _ h.pl.lt), h.us.kept (hb.block _ h.us.lt), h.nd.kept (hb.block _ h.nd.lt), h.cap, h.cm, h.fA, h.fM, h.fP, h.fU, h.fN, fun k e => Nat.lt_of_lt_of_le (h.fb k e) hb.size⟩
theorem ArE.wide {A : Nat} {L : Loc} {S : Ar.St} {f g : Nat → Prop} {w : World} (h : ArE A L S f w) (hf : ∀ k, f k → g k) (hg : ∀ k, g k → k < w.heap.size) : ArE A L S g w :=
  ⟨h.box, h.mem, h.pl, h.us, h.nd, h.cap, h.cm, hf _ h.fA, hf _ h.fM, hf _ h.fP, hf _ h.fU, hf _ h.fN, hg⟩
theorem ArE.cellM {A : Nat} {L : Loc} {S : Ar.St} {f : Nat → Prop} {w : World} (h : ArE A L S f w) {i : Nat} (hi : i < S.mem.length) : w.cell? ⟨L.M, i, none⟩ = some (.int .u8 (S.mem[i].toNat : Int)) := h.mem.cell (encB_at hi)
/-- The box, cell by cell. -/
theorem ArE.cells {A : Nat} {L : Loc} {S : Ar.St} {f : Nat → Prop} {w : World} (h : ArE A L S f w) :
    w.cell? ⟨A, 0, none⟩ = some (.slice (some ⟨L.M, 0, none⟩) S.mem.length S.mem.length) ∧ w.cell? ⟨A, 1, none⟩ = some (encI S.used) ∧ w.cell? ⟨A, 2, none⟩ = some (.slice (some ⟨L.P, 0, none⟩) S.pl.length S.pl.length) ∧ w.cell? ⟨A, 3, none⟩ = some (.slice (some ⟨L.U, 0, none⟩) S.us.length S.us.length) ∧ w.cell? ⟨A, 4, none⟩ = some (encI S.low) ∧ w.cell? ⟨A, 5, none⟩ = some (.slice (some ⟨L.N, 0, none⟩) S.nd.length L.cap) ∧ w.cell? ⟨A, 6, none⟩ = some (encI S.spare) :=
  ⟨h.box.cell rfl, h.box.cell rfl, h.box.cell rfl, h.box.cell rfl, h.box.cell rfl, h.box.cell rfl, h.box.cell rfl⟩
def encH (p : Ar.Head) : Value := .agg #[.bool p.free, .bool p.marked, encI p.owner, encI p.size, encI p.ahead]
end Go.Proofs.YtagjjpmhacknpaaDoor

/- Nodes of lists in memory. -/
set_option maxRecDepth 100000
namespace Go.Proofs.YtagjjpmhacknpaaDoor
open Go.RowKit Go.Shelf
namespace Ar
def nodeAt (nd : List Node) (i : Nat) : Node := nd.getD i ⟨0, 0, 0⟩
def setV (nd : List Node) (i x : Nat) : List Node := nd.set i ⟨x, (nodeAt nd i).l, (nodeAt nd i).n⟩
def setL (nd : List Node) (i x : Nat) : List Node := nd.set i ⟨(nodeAt nd i).v, x, (nodeAt nd i).n⟩
def setN (nd : List Node) (i x : Nat) : List Node := nd.set i ⟨(nodeAt nd i).v, (nodeAt nd i).l, x⟩
def link (nd : List Node) (one two : Nat) : List Node := setL (setN nd one two) two one
theorem setV_len (nd : List Node) (i x : Nat) : (setV nd i x).length = nd.length := by simp [setV]
theorem setL_len (nd : List Node) (i x : Nat) : (setL nd i x).length = nd.length := by simp [setL]
theorem setN_len (nd : List Node) (i x : Nat) : (setN nd i x).length = nd.length := by simp [setN]
theorem link_len (nd : List Node) (i x : Nat) : (link nd i x).length = nd.length := by simp [link, setL_len, setN_len]
end Ar
theorem encNs_cons (x : Ar.Node) (l : List Ar.Node) : encNs (x :: l) = encI x.v :: encI x.l :: encI x.n :: encNs l := rfl
theorem encNs_len : ∀ l : List Ar.Node, (encNs l).length = 3 * l.length
  | [] => rfl
  | x :: l => by rw [encNs_cons]; simp only [List.length_cons, encNs_len l]; omega
theorem encNs_app (a b : List Ar.Node) : encNs (a ++ b) = encNs a ++ encNs b := by simp [encNs]
theorem encNs_at : ∀ (l : List Ar.Node) (i : Nat) (r : List Value), i < l.length → (encNs l ++ r)[i * 3]? = some (encI (Ar.nodeAt l i).v) ∧ (encNs l ++ r)[i * 3 + 1]? = some (encI (Ar.nodeAt l i).l) ∧ (encNs l ++ r)[i * 3 + 2]? = some (encI (Ar.nodeAt l i).n)
  | x :: l, 0, r, _ => ⟨rfl, rfl, rfl⟩
  | x :: l, i + 1, r, h => by
    have := encNs_at l i r (by simpa using h)
    rw [encNs_cons, show (i + 1) * 3 = i * 3 + 1 + 1 + 1 by omega, show i * 3 + 1 + 1 + 1 + 1 = (i * 3 + 1) + 1 + 1 + 1 by omega, show i * 3 + 1 + 1 + 1 + 2 = (i * 3 + 2) + 1 + 1 + 1 by omega]
    simp only [List.cons_append, List.getElem?_cons_succ]
    exact this
theorem encNs_set : ∀ (l : List Ar.Node) (i : Nat) (r : List Value) (x : Nat), i < l.length → (encNs l ++ r).set (i * 3) (encI x) = encNs (Ar.setV l i x) ++ r ∧ (encNs l ++ r).set (i * 3 + 1) (encI x) = encNs (Ar.setL l i x) ++ r ∧ (encNs l ++ r).set (i * 3 + 2) (encI x) = encNs (Ar.setN l i x) ++ r
  | y :: l, 0, r, x, _ => ⟨rfl, rfl, rfl⟩
  | y :: l, i + 1, r, x, h => by
    have := encNs_set l i r x (by simpa using h)
    rw [encNs_cons, show (i + 1) * 3 = i * 3 + 1 + 1 + 1 by omega, show i * 3 + 1 + 1 + 1 + 1 = (i * 3 + 1) + 1 + 1 + 1 by omega, show i * 3 + 1 + 1 + 1 + 2 = (i * 3 + 2) + 1 + 1 + 1 by omega]
    simp only [List.cons_append, List.set_cons_succ, this]
    exact ⟨rfl, rfl, rfl⟩
/-- A struct of lists, at o in block C. -/
structure ChE (C o : Nat) (tC : TypeId) (bx : List Value) (N cap : Nat) (rest : List Value) (ns : List Ar.Node) (spare : Nat) (w : World) : Prop where
  box : Blk w C bx tC
  c0 : bx[o]? = some (.slice (some ⟨N, 0, none⟩) ns.length cap)
  c1 : bx[o + 1]? = some (encI spare)
  nd : Blk w N (encNs ns ++ rest) 93
  hcap : rest.length + 3 * ns.length = 3 * cap
  ne : C ≠ N
  len : ns.length ≤ 200000
  cm : cap ≤ maxLen
theorem ChE.node {C o : Nat} {tC : TypeId} {bx : List Value} {N cap : Nat} {rest : List Value} {ns : List Ar.Node} {spare : Nat} {w : World} (h : ChE C o tC bx N cap rest ns spare w) {i : Nat} (hi : i < ns.length) :
    w.cell? ⟨N, i * 3, none⟩ = some (encI (Ar.nodeAt ns i).v) ∧ w.cell? ⟨N, i * 3 + 1, none⟩ = some (encI (Ar.nodeAt ns i).l) ∧ w.cell? ⟨N, i * 3 + 2, none⟩ = some (encI (Ar.nodeAt ns i).n) :=
  ⟨h.nd.cell (encNs_at ns i rest hi).1, h.nd.cell (encNs_at ns i rest hi).2.1, h.nd.cell (encNs_at ns i rest hi).2.2⟩
theorem ChE.box0 {C o : Nat} {tC : TypeId} {bx : List Value} {N cap : Nat} {rest : List Value} {ns : List Ar.Node} {spare : Nat} {w : World} (h : ChE C o tC bx N cap rest ns spare w) : w.cell? ⟨C, o, none⟩ = some (.slice (some ⟨N, 0, none⟩) ns.length cap) ∧ w.cell? ⟨C, o + 1, none⟩ = some (encI spare) := ⟨h.box.cell h.c0, h.box.cell h.c1⟩
theorem ChE.setNd {C o : Nat} {tC : TypeId} {bx : List Value} {N cap : Nat} {rest : List Value} {ns ns' : List Ar.Node} {spare : Nat} {w w' : World} (h : ChE C o tC bx N cap rest ns spare w) (hN : Blk w' N (encNs ns' ++ rest) 93) (hl : ns'.length = ns.length) (hC : w'.heap[C]? = w.heap[C]?) : ChE C o tC bx N cap rest ns' spare w' :=
  ⟨h.box.kept hC, by rw [hl]; exact h.c0, h.c1, hN, by rw [hl]; exact h.hcap, h.ne, by rw [hl]; exact h.len, h.cm⟩
set_option maxHeartbeats 1000000 in
theorem link_any (C o : Nat) (tC : TypeId) (bx : List Value) (N cap : Nat) (rest : List Value) (ns : List Ar.Node) (spare one two : Nat) (w : World) (h : ChE C o tC bx N cap rest ns spare w) (h1 : one < ns.length) (h2 : two < ns.length) :
    Calls Tryd.prog 44 #[.pointer (some ⟨C, o, none⟩), .int .i64 (one : Int), .int .i64 (two : Int)] w fun e w' => e = .returned (.tuple #[]) ∧ Trn (fun k => k = N) w w' ∧ ChE C o tC bx N cap rest (Ar.link ns one two) spare w' := by
  have hb := h.box0.1
  have hn := (h.node h1).2.2
  have hl := (h.node h2).2.1
  have hf1 := h.nd.frozen (one * 3 + 2)
  have hf2 := h.nd.frozen (two * 3 + 1)
  have hlen := h.len
  have hCl := h.box.lt
  have hNl := h.nd.lt
  have hne := h.ne
  go_enter Tryd.func44, Tryd.ntmps44
  go_wp2
  go_region
  have e1 := h.nd.set (one * 3 + 2) (encI two)
  rw [(encNs_set ns one rest two h1).2.2] at e1
  have e2 := e1.set (two * 3 + 1) (encI one)
  rw [(encNs_set (Ar.setN ns one two) two rest one (by rw [Ar.setN_len]; exact h2)).2.1] at e2
  have t1 : Trn (fun k => k = N) w (w.setCell ⟨N, one * 3 + 2, none⟩ (encI two)) := Trn.set1 h.nd _ _
  have t2 := t1.trans (Trn.set (f := grow (fun k => k = N) w (w.setCell ⟨N, one * 3 + 2, none⟩ (encI two))) e1 (.inl rfl) (two * 3 + 1) (encI one))
  all_goals
    go_end0
    exact ⟨rfl, t2.trans (Trn.drew _ 1), h.setNd (w' := World.drew _) e2 (Ar.link_len _ _ _) ((t2.block C hCl hne))⟩
set_option maxHeartbeats 1000000 in
theorem first_any (C o : Nat) (tC : TypeId) (bx : List Value) (N cap : Nat) (rest : List Value) (ns : List Ar.Node) (spare i : Nat) (w : World) (h : ChE C o tC bx N cap rest ns spare w) (h1 : i < ns.length) (h2 : (Ar.nodeAt ns i).n < ns.length) :
    Calls Tryd.prog 59 #[.pointer (some ⟨C, o, none⟩), .int .i64 (i : Int)] w fun e w' => e = .returned (.tuple #[encI (Ar.nodeAt ns (Ar.nodeAt ns i).n).v, .bool (decide ((Ar.nodeAt ns i).n ≠ i))]) ∧ w = w' := by
  have hb := h.box0.1
  have hn := (h.node h1).2.2
  have hl := (h.node h2).1
  have hlen := h.len
  generalize hx : (Ar.nodeAt ns i).n = x at *
  generalize (Ar.nodeAt ns x).v = y at *
  clear hx
  unfold encI at *
  have hd : ((x : Int) != (i : Int)) = decide (x ≠ i) := by rw [Bool.eq_iff_iff]; simp only [bne_iff_ne, decide_eq_true_eq, ne_eq, Int.natCast_inj]
  have Hd := Lib.hid hd
  clear hd
  go_enter Tryd.func59, Tryd.ntmps59
  go_wp2
  go_ret2
  exact ⟨by rw [Hd.out]; rfl, rfl⟩
theorem ChE.alloc {C o : Nat} {tC : TypeId} {bx : List Value} {N cap : Nat} {rest : List Value} {ns : List Ar.Node} {spare : Nat} {w : World} (h : ChE C o tC bx N cap rest ns spare w) (ob : Obj) : ChE C o tC bx N cap rest ns spare (w.alloc ob) :=
  ⟨h.box.alloc _, h.c0, h.c1, h.nd.alloc _, h.hcap, h.ne, h.len, h.cm⟩
theorem ChE.drew {C o : Nat} {tC : TypeId} {bx : List Value} {N cap : Nat} {rest : List Value} {ns : List Ar.Node} {spare : Nat} {w : World} (h : ChE C o tC bx N cap rest ns spare w) (n : Nat) : ChE C o tC bx N cap rest ns spare (w.drewN n) :=
  ⟨h.box, h.c0, h.c1, h.nd, h.hcap, h.ne, h.len, h.cm⟩
theorem ChE.setSp {C o : Nat} {tC : TypeId} {bx : List Value} {N cap : Nat} {rest : List Value} {ns : List Ar.Node} {spare : Nat} {w : World} (h : ChE C o tC bx N cap rest ns spare w) (x : Nat) : ChE C o tC (bx.set (o + 1) (encI x)) N cap rest ns x (w.setCell ⟨C, o + 1, none⟩ (encI x)) :=
  ⟨h.box.set _ _, by rw [List.getElem?_set_ne (by omega)]; exact h.c0, by rw [List.getElem?_set_self (by have := (List.getElem?_eq_some_iff.1 h.c1).1; exact this)], h.nd.other (fun e => h.ne e.symm) _ _, h.hcap, h.ne, h.len, h.cm⟩
namespace Ar
def dropN (nd : List Node) (i spare : Nat) : List Node := (link nd (nodeAt nd i).l (nodeAt nd i).n).set i ⟨0, 0, spare⟩
theorem dropN_len (nd : List Node) (i s : Nat) : (dropN nd i s).length = nd.length := by simp [dropN, link_len]
end Ar
theorem Ar.set3 (ns : List Ar.Node) (i a b c : Nat) (h : i < ns.length) : Ar.setN (Ar.setL (Ar.setV ns i a) i b) i c = ns.set i ⟨a, b, c⟩ := by
  have e : ∀ (l : List Ar.Node) (x : Ar.Node), i < l.length → Ar.nodeAt (l.set i x) i = x := fun l x hl => by simp [Ar.nodeAt, hl]
  unfold Ar.setN Ar.setL Ar.setV
  rw [e _ _ h]
  simp only [List.set_set]
  rw [e _ _ h]
theorem Blk.set3 {W : World} {N i a b c : Nat} {ns : List Ar.Node} {rest : List Value} (h : Blk W N (encNs ns ++ rest) 93) (hi : i < ns.length) :
    Blk (((W.setCell ⟨N, i * 3, none⟩ (encI a)).setCell ⟨N, i * 3 + 1, none⟩ (encI b)).setCell ⟨N, i * 3 + 2, none⟩ (encI c)) N (encNs (ns.set i ⟨a, b, c⟩) ++ rest) 93 ∧ Trn (fun k => k = N) W (((W.setCell ⟨N, i * 3, none⟩ (encI a)).setCell ⟨N, i * 3 + 1, none⟩ (encI b)).setCell ⟨N, i * 3 + 2, none⟩ (encI c)) := by
  have e1 := h.set (i * 3) (encI a)
  rw [(encNs_set ns i rest a hi).1] at e1
  have e2 := e1.set (i * 3 + 1) (encI b)
  rw [(encNs_set _ i rest b (by rw [Ar.setV_len]; exact hi)).2.1] at e2
  have e3 := e2.set (i * 3 + 2) (encI c)
  rw [(encNs_set _ i rest c (by rw [Ar.setL_len, Ar.setV_len]; exact hi)).2.2, Ar.set3 _ _ _ _ _ hi] at e3
  exact ⟨e3, ((Trn.set1 h _ _).trans (Trn.set e1 (.inl rfl) _ _)).trans (Trn.set e2 (.inl rfl) _ _)⟩
set_option maxHeartbeats 2000000 in
theorem chDrop_any (C o : Nat) (tC : TypeId) (bx : List Value) (N cap : Nat) (rest : List Value) (ns : List Ar.Node) (spare i : Nat) (w : World) (h : ChE C o tC bx N cap rest ns spare w) (h1 : i < ns.length) (h2 : (Ar.nodeAt ns i).n < ns.length) (h3 : (Ar.nodeAt ns i).l < ns.length) :
    Calls Tryd.prog 60 #[.pointer (some ⟨C, o, none⟩), .int .i64 (i : Int)] w fun e w' => e = .returned (.tuple #[]) ∧ Trn (fun k => k = C ∨ k = N) w w' ∧ ChE C o tC (bx.set (o + 1) (encI i)) N cap rest (Ar.dropN ns i spare) i w' := by
  have hb := h.box0.1
  have hb1 := h.box0.2
  have hn0 := (h.node h1).1
  have hn1 := (h.node h1).2.1
  have hn2 := (h.node h1).2.2
  have hf1 := h.box.frozen (o + 1)
  have hlen := h.len
  have hCl := h.box.lt
  have hNl := h.nd.lt
  have hne := h.ne
  go_enter Tryd.func60, Tryd.ntmps60
  unfold encI at *
  go_wp2_with (go_at_call 44; (with_reducible refine (link_any C o tC bx N cap rest ns spare _ _ _ (h.alloc _) h3 h2).mono ?_); rintro e w1 ⟨rfl, ht, k⟩)
  have hb2 := k.box0.1
  have hb3 := k.box0.2
  have hi : i < (Ar.link ns (Ar.nodeAt ns i).l (Ar.nodeAt ns i).n).length := by rw [Ar.link_len]; exact h1
  have m0 := (k.node hi).1
  have m1 := (k.node hi).2.1
  have m2 := (k.node hi).2.2
  have mf := fun j => k.nd.frozen j
  have hf2 := k.box.frozen (o + 1)
  rw [Ar.link_len] at hb2
  have K := Lib.hid k
  have T := Lib.hid ht
  clear k ht
  unfold encI at m0 m1 m2 hb3
  go_region
  have kk := Blk.set3 (a := 0) (b := 0) (c := spare) K.out.nd hi
  unfold encI at kk
  simp only [Int.natCast_zero] at kk
  generalize World.setCell (World.setCell (World.setCell w1 _ _) _ _) _ _ = w2 at kk ⊢
  have k2 := (K.out).setNd (w' := w2) kk.1 (by simp) (kk.2.block C K.out.box.lt hne)
  have t2 : Trn (fun k => k = C ∨ k = N) w w2 := (Trn.alloc w _).trans ((T.out.mono (fun k _ e => .inl (.inr e))).trans (kk.2.mono (fun k _ e => .inl (.inl (.inr e)))))
  have hb5 := k2.box0.2
  have hf5 := k2.box.frozen (o + 1)
  have t3 := (t2.trans (Trn.set k2.box (.inl (.inl rfl)) (o + 1) (encI i))).trans (Trn.drew _ 1)
  have k3 := (k2.setSp i).drew 1
  have R := Lib.hid (And.intro t3 k3)
  clear t3 k3 k2 t2 kk
  unfold encI at hb5
  go_wp2
  go_end0
  exact ⟨rfl, R.out.1, R.out.2⟩
end Go.Proofs.YtagjjpmhacknpaaDoor
