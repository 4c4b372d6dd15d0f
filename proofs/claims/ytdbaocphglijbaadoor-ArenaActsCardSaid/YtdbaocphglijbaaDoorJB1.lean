/- 5 texts put together: Shelf, Ab, Acost, Arm, Arep. -/
import Derived.Shelf.Small.Bits
import Derived.Shelf.Spec.TrailingZeros
import Derived.Shelf.Bytes.SlClone
import Derived.Shelf.Pu.Clone
import Derived.Test.YtdbaocphglijbaaDoorProg
import Derived.WalkKit
import Derived.Lib.Hide
import Derived.BigQuiet
import Derived.Deep.QuietTactic
import Derived.Below
import Derived.Laws.BitsAllLaws
import Derived.Laws.Bits64
import Derived.RangeFuncBox
import Derived.Laws.IdiomStrings
import Derived.Laws.CopyOwn
import Derived.RegionTactic
import Derived.ChangeAlike
import Derived.BigRegion
import Derived.Lib.BitFns
/- The shelf's layings at this translation, in plain words: a table of numbers each, and one theorem, a field a fact of the translation. -/
namespace Go.Proofs.YtdbaocphglijbaaDoor
open Go.Shelf
def Tryd.lays125_ren : Go.Shelf.Ren := ⟨fun | 125 => 70 | 128 => 95 | 129 => 96 | n => n, fun | 46 => 105 | 3 => 3 | 51 => 135 | 53 => 126 | 4 => 4 | 5 => 5 | 9 => 9 | n => n, fun | n => n⟩
theorem Tryd.lays125 : Go.Proofs.Lays.n125 Tryd.prog Tryd.lays125_ren := {
  mixed := by kernel_rfl
  f125 := Tryd.func70.trans (congrArg some (by kernel_rfl))
  f128 := Tryd.func95.trans (congrArg some (by kernel_rfl))
  f129 := Tryd.func96.trans (congrArg some (by kernel_rfl))
  t3 := Tryd.underlying3
  a3 := Tryd.isAgg3
  z3 := Tryd.sizeOf3
  v3 := Tryd.zeroValue3
  t4 := Tryd.underlying4
  a4 := Tryd.isAgg4
  z4 := Tryd.sizeOf4
  v4 := Tryd.zeroValue4
  t5 := Tryd.underlying5
  a5 := Tryd.isAgg5
  z5 := Tryd.sizeOf5
  v5 := Tryd.zeroValue5
  t9 := Tryd.underlying9
  a9 := Tryd.isAgg9
  z9 := Tryd.sizeOf9
  v9 := Tryd.zeroValue9
  t46 := Tryd.underlying105
  a46 := Tryd.isAgg105
  z46 := Tryd.sizeOf105
  v46 := Tryd.zeroValue105
  t51 := Tryd.underlying135
  a51 := Tryd.isAgg135
  z51 := Tryd.sizeOf135
  v51 := Tryd.zeroValue135
  t53 := Tryd.underlying126
  a53 := Tryd.isAgg126
  z53 := Tryd.sizeOf126
  v53 := Tryd.zeroValue126 }
def Tryd.lays29_ren : Go.Shelf.Ren := ⟨fun | 29 => 87 | n => n, fun | 22 => 126 | 3 => 3 | 4 => 4 | 25 => 105 | 54 => 143 | 0 => 0 | 5 => 5 | n => n, fun | 1 => 0 | n => n⟩
theorem Tryd.lays29 : Go.Proofs.Lays7.n29 Tryd.prog Tryd.lays29_ren := {
  mixed := by kernel_rfl
  f29 := Tryd.func87.trans (congrArg some (by kernel_rfl))
  t0 := Tryd.underlying0
  a0 := Tryd.isAgg0
  z0 := Tryd.sizeOf0
  v0 := Tryd.zeroValue0
  i0 := by kernel_rfl
  t3 := Tryd.underlying3
  a3 := Tryd.isAgg3
  z3 := Tryd.sizeOf3
  v3 := Tryd.zeroValue3
  i3 := by kernel_rfl
  t4 := Tryd.underlying4
  a4 := Tryd.isAgg4
  z4 := Tryd.sizeOf4
  v4 := Tryd.zeroValue4
  i4 := by kernel_rfl
  t5 := Tryd.underlying5
  a5 := Tryd.isAgg5
  z5 := Tryd.sizeOf5
  v5 := Tryd.zeroValue5
  i5 := by kernel_rfl
  t22 := Tryd.underlying126
  a22 := Tryd.isAgg126
  z22 := Tryd.sizeOf126
  v22 := Tryd.zeroValue126
  i22 := by kernel_rfl
  t25 := Tryd.underlying105
  a25 := Tryd.isAgg105
  z25 := Tryd.sizeOf105
  v25 := Tryd.zeroValue105
  i25 := by kernel_rfl
  t54 := Tryd.underlying143
  a54 := Tryd.isAgg143
  z54 := Tryd.sizeOf143
  g1 := by kernel_rfl }
def Tryd.lays4_ren : Go.Shelf.Ren := ⟨fun | 4 => 65 | n => n, fun | 22 => 34 | 4 => 4 | 5 => 5 | n => n, fun | n => n⟩
theorem Tryd.lays4 : Go.Proofs.SlLaysK.n4 Tryd.prog Tryd.lays4_ren := {
  mixed := by kernel_rfl
  f4 := Tryd.func65.trans (congrArg some (by kernel_rfl))
  t4 := Tryd.underlying4
  a4 := Tryd.isAgg4
  z4 := Tryd.sizeOf4
  v4 := Tryd.zeroValue4
  t22 := Tryd.underlying34
  a22 := Tryd.isAgg34
  z22 := Tryd.sizeOf34
  v22 := Tryd.zeroValue34
  t5 := Tryd.underlying5
  i5 := by kernel_rfl }
def Tryd.laysPu25_ren : Go.Shelf.Ren := ⟨fun | 25 => 105 | n => n, fun | 9 => 9 | 3 => 3 | 4 => 4 | 37 => 34 | 0 => 0 | 47 => 146 | 5 => 5 | n => n, fun | n => n⟩
theorem Tryd.laysPu25 : Go.Proofs.LaysPu.n25 Tryd.prog Tryd.laysPu25_ren := {
  mixed := by kernel_rfl
  f25 := Tryd.func105.trans (congrArg some (by kernel_rfl))
  t0 := Tryd.underlying0
  a0 := Tryd.isAgg0
  z0 := Tryd.sizeOf0
  v0 := Tryd.zeroValue0
  i0 := by kernel_rfl
  t3 := Tryd.underlying3
  a3 := Tryd.isAgg3
  z3 := Tryd.sizeOf3
  v3 := Tryd.zeroValue3
  i3 := by kernel_rfl
  t4 := Tryd.underlying4
  a4 := Tryd.isAgg4
  z4 := Tryd.sizeOf4
  v4 := Tryd.zeroValue4
  i4 := by kernel_rfl
  t5 := Tryd.underlying5
  a5 := Tryd.isAgg5
  z5 := Tryd.sizeOf5
  v5 := Tryd.zeroValue5
  i5 := by kernel_rfl
  t9 := Tryd.underlying9
  a9 := Tryd.isAgg9
  z9 := Tryd.sizeOf9
  v9 := Tryd.zeroValue9
  i9 := by kernel_rfl
  t37 := Tryd.underlying34
  a37 := Tryd.isAgg34
  z37 := Tryd.sizeOf34
  v37 := Tryd.zeroValue34
  i37 := by kernel_rfl
  t47 := Tryd.underlying146
  a47 := Tryd.isAgg146
  z47 := Tryd.sizeOf146
  v47 := Tryd.zeroValue146
  i47 := by kernel_rfl }
end Go.Proofs.YtdbaocphglijbaaDoor

/- Blocks of cells that a call owns, and what a call leaves alone: the base of stage 6. -/
namespace Go.Proofs.YtdbaocphglijbaaDoor
open Go.RowKit Go.Shelf

theorem ret_bool {a b : Bool} (h : a = b) : Ending.returned (.bool a) = .returned (.bool b) := by rw [h]
theorem ret_int {k : IntKind} {a b : Int} (h : a = b) : Ending.returned (.int k a) = .returned (.int k b) := by rw [h]
def encB (c : UInt8) : Value := .int .u8 (c.toNat : Int)
def encI (x : Nat) : Value := .int .i64 (x : Int)

/-- A block of cells, whole. -/
def Blk (W : World) (B : Nat) (l : List Value) (t : TypeId) : Prop := W.heap[B]? = some (.cells l.toArray t (0, 0))
theorem Blk.cell {W : World} {B : Nat} {l : List Value} {t : TypeId} (h : Blk W B l t) {i : Nat} {v : Value} (hv : l[i]? = some v) : W.cell? ⟨B, i, none⟩ = some v := by
  show (match W.heap[B]? with | some (.cells c _ _) => c[i]? | _ => none) = some v
  rw [show W.heap[B]? = _ from h]
  simpa using hv
theorem Blk.frozen {W : World} {B : Nat} {l : List Value} {t : TypeId} (h : Blk W B l t) (i : Nat) : W.frozen? ⟨B, i, none⟩ = false := by
  simp [World.frozen?, show W.heap[B]? = _ from h]
theorem Blk.lt {W : World} {B : Nat} {l : List Value} {t : TypeId} (h : Blk W B l t) : B < W.heap.size := (Array.getElem?_eq_some_iff.1 h).1
theorem Blk.new (W : World) (l : List Value) (t : TypeId) : Blk (W.alloc (.cells l.toArray t)) W.heap.size l t := World.alloc_heap_new W _
theorem Blk.kept {W W' : World} {B : Nat} {l : List Value} {t : TypeId} (h : Blk W B l t) (hb : W'.heap[B]? = W.heap[B]?) : Blk W' B l t := hb.trans h
theorem Blk.alloc {W : World} {B : Nat} {l : List Value} {t : TypeId} (h : Blk W B l t) (o : Obj) : Blk (W.alloc o) B l t := (Below.heap_alloc W o B h.lt).trans h
theorem Blk.drew {W : World} {B : Nat} {l : List Value} {t : TypeId} (h : Blk W B l t) (n : Nat) : Blk (W.drewN n) B l t := h
theorem Blk.other {W : World} {B B' : Nat} {l : List Value} {t : TypeId} (h : Blk W B l t) (hne : B ≠ B') (i : Nat) (u : Value) : Blk (W.setCell ⟨B', i, none⟩ u) B l t :=
  (Below.heap_setCell W ⟨B', i, none⟩ u B hne).trans h
theorem Blk.set {W : World} {B : Nat} {l : List Value} {t : TypeId} (h : Blk W B l t) (i : Nat) (v : Value) : Blk (W.setCell ⟨B, i, none⟩ v) B (l.set i v) t := by
  obtain ⟨hlt, hk⟩ := Array.getElem?_eq_some_iff.1 (show W.heap[B]? = _ from h)
  show (W.heap.modify B _)[B]? = _
  rw [Array.getElem?_eq_getElem (by rw [Array.size_modify]; exact hlt), Array.getElem_modify_self, hk]
  simp
theorem Blk.ne {W : World} {B B' : Nat} {l l' : List Value} {t t' : TypeId} (h : Blk W B l t) (h' : Blk W B' l' t') (ht : t ≠ t') : B ≠ B' := fun e => by
  subst e
  have := (show W.heap[B]? = _ from h).symm.trans h'
  injection this with this
  injection this with _ this
  exact ht this
theorem Blk.cells {W : World} {B : Nat} {l l' : List Value} {t t' : TypeId} (h : Blk W B l t) (h' : Blk W B l' t') : l = l' := by
  have := (show W.heap[B]? = _ from h).symm.trans h'
  injection this with this
  injection this with this _
  simpa using congrArg Array.toList this

theorem cells_new (w : World) (xs : List Value) (t : TypeId) : ∀ j u, xs[j]? = some u → (w.alloc (.cells xs.toArray t)).cell? ((⟨w.heap.size, 0, none⟩ : Addr).add j) = some u := by
  intro j u hj
  have e : (⟨w.heap.size, 0, none⟩ : Addr).add j = ⟨w.heap.size, 0 + j, none⟩ := by unfold Addr.add; split <;> simp_all
  rw [e, Nat.zero_add]
  exact (Blk.new w xs t).cell hj
/-- What the walk keeps book of. -/
def isBook : Obj → Bool
  | .loop _ => true
  | .deferred _ => true
  | _ => false
theorem book_cells {o : Obj} (h : isBook o = true) : o.isCells = false := by cases o <;> simp_all [isBook, Obj.isCells]
/-- A call has changed no block outside of f. -/
structure Trn (f : Nat → Prop) (W W' : World) : Prop where
  os : W'.os = W.os
  tape : W'.tape = W.tape
  output : W'.output = W.output
  size : W.heap.size ≤ W'.heap.size
  block : ∀ k, k < W.heap.size → ¬ f k → W'.heap[k]? = W.heap[k]?
  book : ∀ (k : Nat) (o : Obj), W.heap[k]? = some o → isBook o = true → W'.heap[k]? = some o
def grow (f : Nat → Prop) (W W' : World) : Nat → Prop := fun k => f k ∨ (W.heap.size ≤ k ∧ k < W'.heap.size)
theorem Trn.refl (f : Nat → Prop) (W : World) : Trn f W W := ⟨rfl, rfl, rfl, Nat.le_refl _, fun _ _ _ => rfl, fun _ _ h _ => h⟩
theorem Trn.trans {f : Nat → Prop} {A B C : World} (h : Trn f A B) (k : Trn (grow f A B) B C) : Trn f A C :=
  ⟨k.os.trans h.os, k.tape.trans h.tape, k.output.trans h.output, Nat.le_trans h.size k.size,
    fun i hi hf => (k.block i (Nat.lt_of_lt_of_le hi h.size) (fun e => e.elim hf (fun e => by omega))).trans (h.block i hi hf),
    fun i o ho hb => k.book i o (h.book i o ho hb) hb⟩
theorem Trn.of_below {f : Nat → Prop} {W W' : World} (h : Below W.heap.size W W') : Trn f W W' :=
  ⟨h.os, h.tape, h.output, h.size, fun k hk _ => h.block k hk, fun k _ ho _ => (h.block k (Array.getElem?_eq_some_iff.1 ho).1).trans ho⟩
theorem Trn.mono {f g : Nat → Prop} {W W' : World} (h : Trn f W W') (hfg : ∀ k, k < W.heap.size → f k → g k) : Trn g W W' :=
  ⟨h.os, h.tape, h.output, h.size, fun k hk hg => h.block k hk (fun e => hg (hfg k hk e)), h.book⟩
theorem Trn.below {f : Nat → Prop} {n : Nat} {W W' : World} (h : Trn f W W') (hf : ∀ k, f k → n ≤ k) (hn : n ≤ W.heap.size) : Below n W W' :=
  ⟨h.os, h.tape, h.output, h.size, fun k hk => h.block k (by omega) (fun e => by have := hf k e; omega)⟩
theorem Blk.trn {f : Nat → Prop} {W W' : World} {B : Nat} {l : List Value} {t : TypeId} (h : Blk W B l t) (ht : Trn f W W') (hf : ¬ f B) : Blk W' B l t := (ht.block B h.lt hf).trans h
theorem Trn.set {f : Nat → Prop} {W : World} {B : Nat} {l : List Value} {t : TypeId} (h : Blk W B l t) (hf : f B) (i : Nat) (v : Value) : Trn f W (W.setCell ⟨B, i, none⟩ v) := by
  have hb : ∀ k, k ≠ B → (W.setCell ⟨B, i, none⟩ v).heap[k]? = W.heap[k]? := fun k hk => Below.heap_setCell W ⟨B, i, none⟩ v k hk
  refine ⟨rfl, rfl, rfl, by simp [World.setCell], fun k _ hk => hb k (fun e => hk (e ▸ hf)), fun k o ho hk => (hb k (fun e => ?_)).trans ho⟩
  subst e
  rw [show W.heap[k]? = _ from h] at ho
  cases ho
  cases hk
theorem Trn.set1 {W : World} {B : Nat} {l : List Value} {t : TypeId} (h : Blk W B l t) (i : Nat) (v : Value) : Trn (fun k => k = B) W (W.setCell ⟨B, i, none⟩ v) := Trn.set (f := fun k => k = B) h rfl i v
theorem Trn.to {g : Nat → Prop} {N : Nat} {W W' : World} (h : Trn (fun k => k = N) W W') (hg : g N) : Trn g W W' := h.mono (fun _ _ e => e ▸ hg)
theorem set_same {α : Type} : ∀ {l : List α} {i : Nat} {v : α}, l[i]? = some v → l.set i v = l
  | x :: l, 0, v, h => by simp at h; simp [h]
  | x :: l, i + 1, v, h => by simp at h; simp [set_same h]
theorem Trn.alloc {f : Nat → Prop} (W : World) (o : Obj) : Trn f W (W.alloc o) := Trn.of_below ((Below.refl _ W).alloc (Nat.le_refl _) o)
theorem Trn.drew {f : Nat → Prop} (W : World) (n : Nat) : Trn f W (W.drewN n) := Trn.of_below ⟨rfl, rfl, rfl, Nat.le_refl _, fun _ _ => rfl⟩
theorem grow_trans {f : Nat → Prop} {A B C : World} (h1 : A.heap.size ≤ B.heap.size) (h2 : B.heap.size ≤ C.heap.size) (k : Nat) (h : grow (grow f A B) B C k) : grow f A C k := by
  rcases h with (h | h) | h
  · exact .inl h
  · exact .inr ⟨h.1, by omega⟩
  · exact .inr ⟨by omega, h.2⟩
theorem grow_self {f : Nat → Prop} {W W' : World} (h : W'.heap.size = W.heap.size) (k : Nat) (e : grow f W W' k) : f k := e.elim id (fun e => by omega)
end Go.Proofs.YtdbaocphglijbaaDoor

/- Cost, classOf: numbers alone. -/
namespace Go.Proofs.YtdbaocphglijbaaDoor
open Go.RowKit Go.Shelf
namespace Ar
/-- What a block of n bytes takes. -/
def cost (n : Nat) : Nat := if n ≤ 8 then 16 else if n ≤ 24 then 32 else if n ≤ 56 then 64 else if n ≤ 120 then 128 else if n ≤ 248 then 256 else if n ≤ 504 then 512 else if n ≤ 1016 then 1024 else if n ≤ 2040 then 2048 else if n ≤ 4088 then 4096 else 8192
def costI (n : Int) : Nat := if 0 ≤ n ∧ n ≤ 4096 then cost n.toNat else 0
/-- The class of a piece of so many bytes. -/
def cls (s : Nat) : Nat := Lib.bitLen (s / 16) - 1
end Ar
theorem bitLenAux_le : ∀ (f x : Nat), Lib.bitLenAux f x ≤ f
  | 0, _ => Nat.le_refl _
  | f + 1, x => by
    unfold Lib.bitLenAux
    split
    · omega
    · have := bitLenAux_le f (x / 2); omega
/-- 2^(l-1) ≤ x < 2^l. -/
theorem bitLenAux_lo : ∀ (f x : Nat), x < 2 ^ f → x < 2 ^ Lib.bitLenAux f x
  | 0, x, h => by simpa [Lib.bitLenAux] using h
  | f + 1, x, h => by
    unfold Lib.bitLenAux
    split
    · rename_i h0; subst h0; simp
    · have := bitLenAux_lo f (x / 2) (by omega)
      rw [Nat.pow_add]; omega
theorem bitLenAux_hi : ∀ (f x : Nat), x ≠ 0 → x < 2 ^ f → 2 ^ (Lib.bitLenAux f x - 1) ≤ x
  | 0, x, h0, h => by simp at h; omega
  | f + 1, x, h0, h => by
    unfold Lib.bitLenAux
    rw [if_neg h0]
    by_cases h2 : x / 2 = 0
    · have : Lib.bitLenAux f (x / 2) = 0 := by
        rw [h2]; cases f <;> simp [Lib.bitLenAux]
      rw [this]; simp; omega
    · have := bitLenAux_hi f (x / 2) h2 (by omega)
      have h3 : 1 ≤ Lib.bitLenAux f (x / 2) := by
        cases f with
        | zero => simp at h; omega
        | succ f => unfold Lib.bitLenAux; rw [if_neg h2]; omega
      rw [show 1 + Lib.bitLenAux f (x / 2) - 1 = (Lib.bitLenAux f (x / 2) - 1) + 1 by omega, Nat.pow_succ]
      omega
theorem bitLen_lt {x : Nat} (h : x < 18446744073709551616) : x < 2 ^ Lib.bitLen x := bitLenAux_lo 64 x h
theorem le_bitLen {x : Nat} (h0 : x ≠ 0) (h : x < 18446744073709551616) : 2 ^ (Lib.bitLen x - 1) ≤ x := bitLenAux_hi 64 x h0 h
theorem bitLen_pos {x : Nat} (h0 : x ≠ 0) : 1 ≤ Lib.bitLen x := by unfold Lib.bitLen Lib.bitLenAux; rw [if_neg h0]; omega
theorem bitLen_eq {x k : Nat} (h1 : 2 ^ k ≤ x) (h2 : x < 2 ^ (k + 1)) (h : x < 18446744073709551616) : Lib.bitLen x = k + 1 := by
  have h0 : x ≠ 0 := by have := Nat.two_pow_pos k; omega
  have a := bitLen_lt h
  have b := le_bitLen h0 h
  have c := bitLen_pos h0
  have e1 : k < Lib.bitLen x := (Nat.pow_lt_pow_iff_right (by decide : 1 < 2)).1 (Nat.lt_of_le_of_lt h1 a)
  have e2 : Lib.bitLen x - 1 < k + 1 := (Nat.pow_lt_pow_iff_right (by decide : 1 < 2)).1 (Nat.lt_of_le_of_lt b h2)
  omega
namespace Ar
theorem cost_cases (n : Nat) (h : n ≤ 4096) : ∃ k, 4 ≤ k ∧ k ≤ 13 ∧ cost n = 2 ^ k ∧ n + 8 ≤ 2 ^ k ∧ (k = 4 ∨ 2 ^ k < 2 * (n + 8)) := by
  unfold cost
  split
  · exact ⟨4, by decide, by decide, by decide, by simp; omega, .inl rfl⟩
  split
  · exact ⟨5, by decide, by decide, by decide, by simp; omega, .inr (by simp; omega)⟩
  split
  · exact ⟨6, by decide, by decide, by decide, by simp; omega, .inr (by simp; omega)⟩
  split
  · exact ⟨7, by decide, by decide, by decide, by simp; omega, .inr (by simp; omega)⟩
  split
  · exact ⟨8, by decide, by decide, by decide, by simp; omega, .inr (by simp; omega)⟩
  split
  · exact ⟨9, by decide, by decide, by decide, by simp; omega, .inr (by simp; omega)⟩
  split
  · exact ⟨10, by decide, by decide, by decide, by simp; omega, .inr (by simp; omega)⟩
  split
  · exact ⟨11, by decide, by decide, by decide, by simp; omega, .inr (by simp; omega)⟩
  split
  · exact ⟨12, by decide, by decide, by decide, by simp; omega, .inr (by simp; omega)⟩
  · exact ⟨13, by decide, by decide, by decide, by simp; omega, .inr (by simp; omega)⟩
theorem cost_len (n : Nat) (h : n ≤ 4096) : max 16 (2 ^ Lib.bitLen (n + 7)) = cost n ∧ Lib.bitLen (n + 7) ≤ 13 := by
  obtain ⟨k, h1, h2, e, h3, h4⟩ := cost_cases n h
  rw [e]
  have hb : Lib.bitLen (n + 7) ≤ 13 := by
    have a := le_bitLen (x := n + 7) (by omega) (by omega)
    have : 2 ^ (Lib.bitLen (n + 7) - 1) < 2 ^ 13 := by
      have : (2 : Nat) ^ 13 = 8192 := by decide
      omega
    have := (Nat.pow_lt_pow_iff_right (by decide : 1 < 2)).1 this
    omega
  refine ⟨?_, hb⟩
  by_cases hk : k = 4
  · subst hk
    have : Lib.bitLen (n + 7) ≤ 4 := by
      have a := le_bitLen (x := n + 7) (by omega) (by omega)
      have : 2 ^ (Lib.bitLen (n + 7) - 1) < 2 ^ 4 := by simp at h3 ⊢; omega
      have := (Nat.pow_lt_pow_iff_right (by decide : 1 < 2)).1 this
      omega
    have : 2 ^ Lib.bitLen (n + 7) ≤ 2 ^ 4 := Nat.pow_le_pow_right (by decide) this
    simp at this ⊢; omega
  · have h4 := h4.resolve_left hk
    obtain ⟨j, rfl⟩ : ∃ j, k = j + 1 := ⟨k - 1, by omega⟩
    have := bitLen_eq (x := n + 7) (k := j) (by rw [Nat.pow_succ] at h4; omega) (by omega) (by omega)
    rw [this]
    have : 2 ^ 4 ≤ 2 ^ (j + 1) := Nat.pow_le_pow_right (by decide) h1
    simp at this ⊢; omega
theorem cost_ge (n : Nat) (h : n ≤ 4096) : n + 8 ≤ cost n ∧ 16 ≤ cost n ∧ cost n ≤ 8192 ∧ cost n % 16 = 0 := by
  unfold cost
  repeat' split
  all_goals omega
theorem cls_spec {s : Nat} (h1 : 16 ≤ s) (h2 : s ≤ 1048576) : 2 ^ (cls s) * 16 ≤ s ∧ s < 2 ^ (cls s + 1) * 16 ∧ cls s ≤ 16 := by
  unfold cls
  have h0 : s / 16 ≠ 0 := by omega
  have a := bitLen_lt (x := s / 16) (by omega)
  have b := le_bitLen h0 (by omega)
  have c := bitLen_pos h0
  rw [show Lib.bitLen (s / 16) - 1 + 1 = Lib.bitLen (s / 16) by omega]
  refine ⟨by omega, by omega, ?_⟩
  have : 2 ^ (Lib.bitLen (s / 16) - 1) < 2 ^ 17 := by
    have : (2 : Nat) ^ 17 = 131072 := by decide
    omega
  have := (Nat.pow_lt_pow_iff_right (by decide : 1 < 2)).1 this
  omega
theorem cls_cost {n : Nat} (h : n ≤ 4096) : 2 ^ cls (cost n) * 16 = cost n := by
  obtain ⟨k, h1, h2, e, _, _⟩ := cost_cases n h
  rw [e]
  unfold cls
  obtain ⟨j, rfl⟩ : ∃ j, k = j + 4 := ⟨k - 4, by omega⟩
  have hd : 2 ^ (j + 4) / 16 = 2 ^ j := by rw [Nat.pow_add]; simp
  have h3 : (2 : Nat) ^ j ≤ 2 ^ 9 := Nat.pow_le_pow_right (by decide) (by omega)
  have h4 : (2 : Nat) ^ 9 = 512 := by decide
  rw [hd, bitLen_eq (x := 2 ^ j) (k := j) (Nat.le_refl _) (by rw [Nat.pow_succ]; have := Nat.two_pow_pos j; omega) (by omega), Nat.pow_add]
  simp
/-- A piece of a class at least as high is large enough. -/
theorem cls_fits {n s : Nat} (h : n ≤ 4096) (h1 : 16 ≤ s) (h2 : s ≤ 1048576) (hc : cls (cost n) ≤ cls s) : cost n ≤ s := by
  have a := cls_cost h
  have b := (cls_spec h1 h2).1
  have c : 2 ^ cls (cost n) ≤ 2 ^ cls s := Nat.pow_le_pow_right (by decide) hc
  omega
theorem cls_mono {a b : Nat} (h1 : 16 ≤ a) (h : a ≤ b) (h2 : b ≤ 1048576) : cls a ≤ cls b := by
  have x := (cls_spec h1 (by omega)).1
  have y := (cls_spec (by omega) h2).2.1
  have : 2 ^ cls a < 2 ^ (cls b + 1) := by omega
  have := (Nat.pow_lt_pow_iff_right (by decide : 1 < 2)).1 this
  omega
end Ar
theorem len_any (x : Nat) (y : Int) (w : World) (h : x < 18446744073709551616) (hy : y = (x : Int)) : Calls Tryd.prog 70 #[.int .u64 y] w fun e w' => e = .returned (.int .i64 (Lib.bitLen x : Int)) ∧ w = w' := by
  subst hy
  have := Any.bits_Len Tryd.lays125 (x : Int) w (by omega) (by omega)
  refine Calls.mono this fun e w' ⟨h1, h2⟩ => ⟨by simpa using h1, h2.symm⟩
set_option maxHeartbeats 400000 in
theorem cost_any (n : Int) (w : World) : Calls Tryd.prog 30 #[.int .i64 n] w fun e w' => e = .returned (.int .i64 (Ar.costI n : Int)) ∧ w = w' := by
  unfold Ar.costI
  by_cases h : 0 ≤ n ∧ n ≤ 4096
  · obtain ⟨n, rfl⟩ := Int.eq_ofNat_of_zero_le h.1
    have hn : n ≤ 4096 := by omega
    rw [if_pos h]
    have hc := Ar.cost_len n hn
    have hl := Lib.hid hc.1
    have hb := hc.2
    clear hc h
    go_enter Tryd.func30, Tryd.ntmps30
    go_wp2_with (go_at_call 70; (with_reducible refine (len_any (n + 7) _ _ (by omega) (by omega)).mono ?_); rintro e w' ⟨rfl, rfl⟩)
    go_ret
    refine ⟨ret_int ?_, rfl⟩
    have hc := hl.out
    have h2 : (2 : Int) ^ Lib.bitLen (n + 7) = ((2 ^ Lib.bitLen (n + 7) : Nat) : Int) := by push_cast; rfl
    have h3 : 2 ^ Lib.bitLen (n + 7) ≤ 2 ^ 13 := Nat.pow_le_pow_right (by decide) hb
    rw [h2]
    generalize 2 ^ Lib.bitLen (n + 7) = m at hc h3 ⊢
    have h4 : wrap64 (m : Int) = m := by unfold wrap64; omega
    rw [h4, Int.toNat_natCast]
    omega
  · rw [if_neg h]
    go_enter Tryd.func30, Tryd.ntmps30
    by_cases h1 : n < 0
    · go_wp2
      go_ret
      exact ⟨rfl, rfl⟩
    · have h2 : 4096 < n := by omega
      go_wp2
      go_ret
      exact ⟨rfl, rfl⟩
set_option maxHeartbeats 400000 in
theorem classOf_any (s : Nat) (w : World) (h1 : 16 ≤ s) (h2 : s ≤ 1048576) : Calls Tryd.prog 85 #[.int .i64 (s : Int)] w fun e w' => e = .returned (.int .i64 (Ar.cls s : Int)) ∧ w = w' := by
  have hb : 1 ≤ Lib.bitLen (s / 16) := bitLen_pos (by omega)
  have hb2 : Lib.bitLen (s / 16) ≤ 64 := bitLenAux_le 64 _
  unfold Ar.cls
  go_enter Tryd.func85, Tryd.ntmps85
  go_wp2_with (go_at_call 70; (with_reducible refine (len_any (s / 16) _ _ (by omega) (by omega)).mono ?_); rintro e w' ⟨rfl, rfl⟩)
  go_ret
  exact ⟨ret_int (by omega), rfl⟩
end Go.Proofs.YtdbaocphglijbaaDoor

/- An arena in numbers alone: heads in bytes, lists of free pieces, handles. -/
namespace Go.Proofs.YtdbaocphglijbaaDoor
namespace Ar
structure Head where
  free : Bool
  marked : Bool
  owner : Nat
  size : Nat
  ahead : Nat
def Head.fits (p : Head) : Prop := p.owner < 1048576 ∧ p.size < 2097152 ∧ p.ahead < 2097152
def Head.word (p : Head) : Nat := (if p.free then 9223372036854775808 else 0) + (if p.marked then 4611686018427387904 else 0) + p.owner * 4398046511104 + p.size * 2097152 + p.ahead
def headOf (x : Nat) : Head := ⟨decide (x / 9223372036854775808 % 2 = 1), decide (x / 4611686018427387904 % 2 = 1), x / 4398046511104 % 1048576, x / 2097152 % 2097152, x % 2097152⟩
theorem headOf_word {p : Head} (h : p.fits) : headOf p.word = p := by
  obtain ⟨f, mk, o, s, a⟩ := p
  obtain ⟨h1, h2, h3⟩ := h
  simp only at h1 h2 h3
  unfold headOf Head.word
  cases f <;> cases mk <;> simp only [Head.mk.injEq, Bool.false_eq_true, if_false, if_true, decide_eq_true_eq, decide_eq_false_iff_not] <;> refine ⟨by omega, by omega, by omega, by omega, by omega⟩
theorem word_lt {p : Head} (h : p.fits) : p.word < 18446744073709551616 := by
  obtain ⟨h1, h2, h3⟩ := h
  unfold Head.word
  split <;> split <;> omega
/-- Bytes, the highest first. -/
def wordOf : List UInt8 → Nat := List.foldl (fun a b => a * 256 + b.toNat) 0
theorem wordOf_snoc (l : List UInt8) (b : UInt8) : wordOf (l ++ [b]) = wordOf l * 256 + b.toNat := by simp [wordOf]
theorem foldl_lt : ∀ (l : List UInt8) (a : Nat), l.foldl (fun a b => a * 256 + b.toNat) a < (a + 1) * 256 ^ l.length
  | [], a => by simp
  | b :: l, a => by
    have ih := foldl_lt l (a * 256 + b.toNat)
    have hb := UInt8.toNat_lt b
    have : (a * 256 + b.toNat + 1) * 256 ^ l.length ≤ ((a + 1) * 256) * 256 ^ l.length := Nat.mul_le_mul_right _ (by omega)
    rw [List.foldl_cons, List.length_cons, Nat.pow_succ]
    rw [show (a + 1) * (256 ^ l.length * 256) = ((a + 1) * 256) * 256 ^ l.length by rw [Nat.mul_comm (256 ^ l.length), Nat.mul_assoc]]
    omega
theorem wordOf_lt (l : List UInt8) : wordOf l < 256 ^ l.length := by have := foldl_lt l 0; simpa [wordOf] using this
end Ar
end Go.Proofs.YtdbaocphglijbaaDoor

/- What lies in memory for an arena. -/
namespace Go.Proofs.YtdbaocphglijbaaDoor
open Go.RowKit Go.Shelf
namespace Ar
structure Node where
  v : Nat
  l : Nat
  n : Nat
  deriving DecidableEq
structure St where
  mem : List UInt8
  used : Nat
  pl : List Nat
  us : List Nat
  low : Nat
  nd : List Node
  spare : Nat
end Ar
def encP (x : Nat) : Value := .int .i32 (x : Int)
def encU (x : Nat) : Value := .int .u64 (x : Int)
def encN (x : Ar.Node) : List Value := [encI x.v, encI x.l, encI x.n]
def encNs (l : List Ar.Node) : List Value := l.flatMap encN
structure Loc where
  M : Nat
  P : Nat
  U : Nat
  N : Nat
  cap : Nat
  rest : List Value
def arBox (L : Loc) (S : Ar.St) : List Value :=
  [.slice (some ⟨L.M, 0, none⟩) S.mem.length S.mem.length, encI S.used, .slice (some ⟨L.P, 0, none⟩) S.pl.length S.pl.length, .slice (some ⟨L.U, 0, none⟩) S.us.length S.us.length, encI S.low, .slice (some ⟨L.N, 0, none⟩) S.nd.length L.cap, encI S.spare]
structure ArE (A : Nat) (L : Loc) (S : Ar.St) (f : Nat → Prop) (w : World) : Prop where
  box : Blk w A (arBox L S) 95
  mem : Blk w L.M (S.mem.map encB) 5
  pl : Blk w L.P (S.pl.map encP) 21
  us : Blk w L.U (S.us.map encU) 126
  nd : Blk w L.N (encNs S.nd ++ L.rest) 142
  cap : L.rest.length + 3 * S.nd.length = 3 * L.cap
  cm : L.cap ≤ maxLen
  fA : f A
  fM : f L.M
  fP : f L.P
  fU : f L.U
  fN : f L.N
  fb : ∀ k, f k → k < w.heap.size
theorem encB_at {l : List UInt8} {i : Nat} (h : i < l.length) : (l.map encB)[i]? = some (.int .u8 (l[i].toNat : Int)) := by simp [h, encB]
theorem ArE.below {A : Nat} {L : Loc} {S : Ar.St} {f : Nat → Prop} {w w' : World} (h : ArE A L S f w) (hb : Below w.heap.size w w') : ArE A L S f w' :=
  ⟨h.box.kept (hb.block _ h.box.lt), h.mem.kept (hb.block _ h.mem.lt), h.pl.kept (hb.block _ h.pl.lt), h.us.kept (hb.block _ h.us.lt), h.nd.kept (hb.block _ h.nd.lt), h.cap, h.cm, h.fA, h.fM, h.fP, h.fU, h.fN, fun k e => Nat.lt_of_lt_of_le (h.fb k e) hb.size⟩
theorem ArE.wide {A : Nat} {L : Loc} {S : Ar.St} {f g : Nat → Prop} {w : World} (h : ArE A L S f w) (hf : ∀ k, f k → g k) (hg : ∀ k, g k → k < w.heap.size) : ArE A L S g w :=
  ⟨h.box, h.mem, h.pl, h.us, h.nd, h.cap, h.cm, hf _ h.fA, hf _ h.fM, hf _ h.fP, hf _ h.fU, hf _ h.fN, hg⟩
theorem ArE.cellM {A : Nat} {L : Loc} {S : Ar.St} {f : Nat → Prop} {w : World} (h : ArE A L S f w) {i : Nat} (hi : i < S.mem.length) : w.cell? ⟨L.M, i, none⟩ = some (.int .u8 (S.mem[i].toNat : Int)) := h.mem.cell (encB_at hi)
/-- The box, cell by cell. -/
theorem ArE.cells {A : Nat} {L : Loc} {S : Ar.St} {f : Nat → Prop} {w : World} (h : ArE A L S f w) :
    w.cell? ⟨A, 0, none⟩ = some (.slice (some ⟨L.M, 0, none⟩) S.mem.length S.mem.length) ∧ w.cell? ⟨A, 1, none⟩ = some (encI S.used) ∧ w.cell? ⟨A, 2, none⟩ = some (.slice (some ⟨L.P, 0, none⟩) S.pl.length S.pl.length) ∧ w.cell? ⟨A, 3, none⟩ = some (.slice (some ⟨L.U, 0, none⟩) S.us.length S.us.length) ∧ w.cell? ⟨A, 4, none⟩ = some (encI S.low) ∧ w.cell? ⟨A, 5, none⟩ = some (.slice (some ⟨L.N, 0, none⟩) S.nd.length L.cap) ∧ w.cell? ⟨A, 6, none⟩ = some (encI S.spare) :=
  ⟨h.box.cell rfl, h.box.cell rfl, h.box.cell rfl, h.box.cell rfl, h.box.cell rfl, h.box.cell rfl, h.box.cell rfl⟩
def encH (p : Ar.Head) : Value := .agg #[.bool p.free, .bool p.marked, encI p.owner, encI p.size, encI p.ahead]
end Go.Proofs.YtdbaocphglijbaaDoor
