/- 4 texts put together: Rk, Mda, Mdb, Mal. -/
import Derived.BigQuiet
import Derived.Deep.RegionHeld3
import Derived.BigRegion
import Derived.Test.YtagjjpmhacknpaaDoorJB5
import Derived.Test.YtagjjpmhacknpaaDoorJB15
import Derived.Test.YtagjjpmhacknpaaDoorJB16
/- A slice of any elements that is read, in blocks that lie within x. -/
set_option maxRecDepth 100000
namespace Go.Proofs.YtagjjpmhacknpaaDoor
open Go Go.RowKit Go.Shelf
structure RK {α : Type} (enc : α → List Value) (x : Nat → Prop) (v : Value) (l : List α) (W : World) : Prop where
  form : ∃ ao cap, v = .slice ao l.length cap ∧ l.length ≤ cap ∧ ∀ j u, (l.flatMap enc)[j]? = some u → ∃ b off, ao = some ⟨b, off, none⟩ ∧ x b ∧ W.cell? ⟨b, off + j, none⟩ = some u
theorem cell_same {W W' : World} {b : Nat} (h : W'.heap[b]? = W.heap[b]?) (i : Nat) : W'.cell? ⟨b, i, none⟩ = W.cell? ⟨b, i, none⟩ := by
  show (match W'.heap[b]? with | some (.cells c _ _) => c[i]? | _ => none) = (match W.heap[b]? with | some (.cells c _ _) => c[i]? | _ => none)
  rw [h]
section
variable {α : Type} {enc : α → List Value} {x y : Nat → Prop} {v : Value} {l : List α} {W W' : World}
theorem RK.same (h : RK enc x v l W) (hk : ∀ b, x b → W'.heap[b]? = W.heap[b]?) : RK enc x v l W' := by
  obtain ⟨ao, cap, e, hc, hf⟩ := h.form
  exact ⟨ao, cap, e, hc, fun j u hu => by
    obtain ⟨b, off, e, hx, c⟩ := hf j u hu
    exact ⟨b, off, e, hx, (cell_same (hk b hx) _).trans c⟩⟩
theorem RK.below (h : RK enc x v l W) (hb : Below W.heap.size W W') : RK enc x v l W' := by
  obtain ⟨ao, cap, e, hc, hf⟩ := h.form
  exact ⟨ao, cap, e, hc, fun j u hu => by
    obtain ⟨b, off, e, hx, c⟩ := hf j u hu
    exact ⟨b, off, e, hx, (hb.cell (cell_lt c)).trans c⟩⟩
theorem RK.mono (h : RK enc x v l W) (hxy : ∀ b, x b → y b) : RK enc y v l W := by
  obtain ⟨ao, cap, e, hc, hf⟩ := h.form
  exact ⟨ao, cap, e, hc, fun j u hu => by
    obtain ⟨b, off, e, hx, c⟩ := hf j u hu
    exact ⟨b, off, e, hxy b hx, c⟩⟩
theorem RK.nil (enc : α → List Value) (x : Nat → Prop) (W : World) : RK enc x (.slice none 0 0) [] W := ⟨none, 0, rfl, Nat.le_refl _, fun j u hu => by simp at hu⟩
theorem RK.own {k : Nat} {e : TypeId} {base : Nat} (h : OwnK enc k e base v l W) (hx : ∀ b, v.ownBlock = some b → x b) : RK enc x v l W := by
  rcases h.2 with ⟨rfl, hn⟩ | ⟨g, cap, cur, rfl, _, _, hle, _⟩
  · rw [List.length_eq_zero_iff] at hn
    subst hn
    exact RK.nil enc x W
  · refine ⟨some ⟨g, 0, none⟩, cap, rfl, hle, fun j u hu => ⟨g, 0, rfl, hx g rfl, ?_⟩⟩
    have := World.ownsRow.cells h (g := g) rfl j u hu
    have e : (⟨g, 0, none⟩ : Addr).add j = ⟨g, 0 + j, none⟩ := by unfold Addr.add; split <;> simp_all
    rwa [e] at this
/-- A field of an element. -/
theorem RK.at_ {k : Nat} (hk : ∀ a, (enc a).length = k) {ao : Option Addr} {n cap : Nat} (h : RK enc x (.slice ao n cap) l W) {i f : Nat} (hi : i < l.length) (hf : f < k) : ∃ b off, ao = some ⟨b, off, none⟩ ∧ x b ∧ W.cell? ⟨b, off + (i * k + f), none⟩ = (enc l[i])[f]? := by
  obtain ⟨ao', cap', e, hc, hfm⟩ := h.form
  cases e
  have h1 := flat_get enc k hk l i f hi hf
  obtain ⟨u, hu⟩ : ∃ u, (enc l[i])[f]? = some u := ⟨(enc l[i])[f]'(by rw [hk]; exact hf), List.getElem?_eq_getElem _⟩
  obtain ⟨b, off, e, hx, c⟩ := hfm (i * k + f) u (by rw [h1, hu])
  exact ⟨b, off, e, hx, by rw [c, hu]⟩
theorem RK.len {ao : Option Addr} {n cap : Nat} (h : RK enc x (.slice ao n cap) l W) : n = l.length ∧ l.length ≤ cap := by
  obtain ⟨ao', cap', e, hc, hfm⟩ := h.form
  cases e
  exact ⟨rfl, hc⟩
theorem flat_drop {k : Nat} (hk : ∀ a, (enc a).length = k) : ∀ (m : Nat) (l : List α) (j : Nat), ((l.drop m).flatMap enc)[j]? = (l.flatMap enc)[m * k + j]?
  | 0, l, j => by simp
  | m + 1, [], j => by simp
  | m + 1, a :: l, j => by
    rw [List.drop_succ_cons, flat_drop hk m l j, List.flatMap_cons, List.getElem?_append_right (by rw [hk, Nat.succ_mul]; omega), hk]
    congr 1
    rw [Nat.succ_mul]; omega
theorem flat_take {k : Nat} (hk : ∀ a, (enc a).length = k) : ∀ (m : Nat) (l : List α) (j : Nat) (u : Value), ((l.take m).flatMap enc)[j]? = some u → (l.flatMap enc)[j]? = some u
  | 0, l, j, u, h => by simp at h
  | m + 1, [], j, u, h => by simp at h
  | m + 1, a :: l, j, u, h => by
    rw [List.take_succ_cons, List.flatMap_cons] at h
    rw [List.flatMap_cons]
    by_cases hj : j < k
    · rw [List.getElem?_append_left (by rw [hk]; exact hj)] at h ⊢
      exact h
    · rw [List.getElem?_append_right (by rw [hk]; omega)] at h ⊢
      exact flat_take hk m l _ u h
/-- s[m:] and s[:m]. -/
theorem run_dropK {P : Program} {k : Nat} (hk : ∀ a, (enc a).length = k) {t e : TypeId} {z : Value} {bytes : Nat} (h1 : P.underlying t = some (.slice e)) (h2 : (P.info? e).map (fun i => (i.zero, i.size, i.bytes)) = some (some z, k, bytes)) {ao : Option Addr} {n cap : Nat} (h : RK enc x (.slice ao n cap) l W) {m : Nat} (hm : m ≤ l.length) :
    ∃ v, (∀ W' : World, (Instr.slice t (.slice ao n cap) (some (.int .i64 (m : Int))) none none).run P W' = .ok v W') ∧ RK enc x v (l.drop m) W := by
  obtain ⟨rfl, hcap⟩ := h.len
  have hs : ∀ W', (sizeOf e).run P W' = .ok k W' := fun W' => by
    obtain ⟨i, hi, _, h1, _⟩ := info_parts h2
    simp [sizeOf, typeInfo, hi, h1]
  have he : P.elem t = e := by simp [Program.elem, h1]
  subst he
  refine ⟨sliced ao m l.length cap k, fun W' => by rw [run_slice_l (w := W') t ao l.length cap h1 .i64 (m : Int) (by omega) (by omega), hs W']; rfl, ?_⟩
  obtain ⟨ao', cap', e', hc, hfm⟩ := h.form
  cases e'
  unfold sliced
  refine ⟨_, _, by rw [List.length_drop], by rw [List.length_drop]; omega, fun j u hu => ?_⟩
  rw [flat_drop hk] at hu
  obtain ⟨b, off, rfl, hx, c⟩ := hfm _ u hu
  have hne : ¬ cap = m := fun e => by
    have h3 : l.length = m := by omega
    have h4 := (List.getElem?_eq_some_iff.1 hu).1
    rw [flat_len enc k hk, h3] at h4
    omega
  exact ⟨b, off + m * k, by rw [if_neg hne]; simp [Addr.add], hx, by rw [Nat.add_assoc]; exact c⟩
theorem run_takeK {P : Program} {k : Nat} (hk : ∀ a, (enc a).length = k) {t e : TypeId} {z : Value} {bytes : Nat} (h1 : P.underlying t = some (.slice e)) (h2 : (P.info? e).map (fun i => (i.zero, i.size, i.bytes)) = some (some z, k, bytes)) {ao : Option Addr} {n cap : Nat} (h : RK enc x (.slice ao n cap) l W) {m : Nat} (hm : m ≤ l.length) :
    ∃ v, (∀ W' : World, (Instr.slice t (.slice ao n cap) none (some (.int .i64 (m : Int))) none).run P W' = .ok v W') ∧ RK enc x v (l.take m) W := by
  obtain ⟨rfl, hcap⟩ := h.len
  have hs : ∀ W', (sizeOf e).run P W' = .ok k W' := fun W' => by
    obtain ⟨i, hi, _, h1, _⟩ := info_parts h2
    simp [sizeOf, typeInfo, hi, h1]
  have he : P.elem t = e := by simp [Program.elem, h1]
  subst he
  refine ⟨sliced ao 0 m cap k, fun W' => by rw [run_slice_h (w := W') t ao l.length cap h1 .i64 (m : Int) (by omega) (by omega), hs W']; rfl, ?_⟩
  obtain ⟨ao', cap', e', hc, hfm⟩ := h.form
  cases e'
  unfold sliced
  refine ⟨_, _, by rw [List.length_take, Nat.min_eq_left hm]; rfl, by rw [List.length_take]; omega, fun j u hu => ?_⟩
  obtain ⟨b, off, rfl, hx, c⟩ := hfm _ u (flat_take hk m l j u hu)
  refine ⟨b, off, ?_, hx, c⟩
  split
  · rfl
  · simp [Addr.add]
/-- append(v, y...): v is the call's own, y is read. -/
theorem run_apRK {P : Program} {k : Nat} (hk : ∀ a, (enc a).length = k) (h0 : 0 < k) (henc : ∀ a, ∀ u ∈ enc a, u.oneCell' = true) (w : World) (base : Nat) (t ty e : TypeId) (z : Value) (bytes : Nat) (h1 : P.underlying t = some (.slice e))
    (h2 : (P.info? e).map (fun i => (i.zero, i.size, i.bytes)) = some (some z, k, bytes)) (hz : z.cells.size = k) (v : Value) (l : List α) (hown : OwnK enc k e base v l w) (yv : Value) (news : List α) (hy : RK enc x yv news w) (b1 : l.length + news.length ≤ 1000000) (b2 : bytes ≤ 1000) (hb : base ≤ w.heap.size) :
    ∃ v' w', (Builtin.append_ #[t, t] ty #[v, yv]).run P w = .ok v' w' ∧ OwnK enc k e base v' (l ++ news) w' ∧ w.grownBy w' v.ownBlock ∧ (v'.ownBlock = v.ownBlock ∨ v'.ownBlock = some w.heap.size) := by
  obtain ⟨ao, cap, rfl, hcap, hc⟩ := hy.form
  by_cases hn : news = []
  · subst hn
    obtain ⟨i, hi, hz0, hz1, hz2⟩ := info_parts h2
    have hform : ∃ ao n c, v = .slice ao n c ∧ n ≤ c := by
      rcases hown.2 with ⟨rfl, hn⟩ | ⟨g, cap', cur, rfl, _, _, hle, _⟩
      · exact ⟨none, 0, 0, rfl, Nat.le_refl _⟩
      · exact ⟨_, _, _, rfl, hle⟩
    obtain ⟨a2, n, c, rfl, hle⟩ := hform
    refine ⟨_, _, ?_, by rw [List.append_nil]; exact hown, ⟨rfl, rfl, rfl, Nat.le_refl _, fun _ _ _ => rfl⟩, .inl rfl⟩
    cases ao with
    | none => exact run_append_nothing (P := P) w t t ty e i h1 hi a2 n c hle _ (Src.ofNil w h1 cap)
    | some ad => exact run_append_nothing (P := P) w t t ty e i h1 hi a2 n c hle _ (Src.ofSlice _ h1 ad 0 cap [] (by simp) (fun j v hj => by simp at hj) (by simp))
  · have hpos : 0 < news.length := List.length_pos_iff.2 hn
    obtain ⟨b, off, rfl, _, _⟩ := hc 0 ((news.flatMap enc)[0]'(by rw [flat_len enc k hk]; exact Nat.mul_pos hpos h0)) (List.getElem?_eq_getElem _)
    refine run_apk (P := P) enc k hk h0 henc w base t ty e z bytes h1 h2 hz v l hown ⟨b, off, none⟩ news.length cap news rfl (fun j u hu => ?_) b1 b2 hb
    obtain ⟨b', off', e', _, c⟩ := hc j u hu
    cases e'
    have e2 : (⟨b, off, none⟩ : Addr).add j = ⟨b, off + j, none⟩ := by unfold Addr.add; split <;> simp_all
    rw [e2]; exact c
theorem step_apRK {P : Program} {k : Nat} (hk : ∀ a, (enc a).length = k) (h0 : 0 < k) (henc : ∀ a, ∀ u ∈ enc a, u.oneCell' = true) {w : World} {t e : TypeId} {z : Value} {bytes : Nat} (h1 : P.underlying t = some (.slice e))
    (h2 : (P.info? e).map (fun i => (i.zero, i.size, i.bytes)) = some (some z, k, bytes)) (hz : z.cells.size = k) (b2 : bytes ≤ 1000) {ops : Array Oper} {o : Oper} {a : Act} {K : Act → World → Prop} {Q : Exit → Act → World → Prop} {E : Prop}
    (hg : o.guard = none) (s y : Operand) (hop : o.op = Op.call { callee := Callee.builtin Builtin.append, args := #[s, y], argTypes := #[t, t] })
    (base : Nat) (v : Value) (l : List α) (hs : a.eval s = v) (hown : OwnK enc k e base v l w) (yv : Value) (news : List α) (hy : a.eval y = yv) (hr : RK enc x yv news w) (b1 : l.length + news.length ≤ 1000000) (hb : base ≤ w.heap.size)
    (hK : ∀ v' w', OwnK enc k e base v' (l ++ news) w' → w.grownBy w' v.ownBlock → (v'.ownBlock = v.ownBlock ∨ v'.ownBlock = some w.heap.size) → K (a.put o.dst v') w') :
    if Region.wanted o (yielded ops a.tmps) = true then Oper.wp P o a w K Q else E := by
  have hw : Region.wanted o (yielded ops a.tmps) = true := by simp [Region.wanted, hg]
  rw [if_pos hw]
  obtain ⟨v', w', hrun, r1, r2, r3⟩ := run_apRK (P := P) hk h0 henc w base t o.type e z bytes h1 h2 hz v l hown yv news hr b1 b2 hb
  unfold Oper.wp
  simp [execOp, hop, resolve, invoke, builtin, hs, hy, hrun, Result.andThen]
  exact hK v' w' r1 r2 r3
end
/-- A literal of one element. -/
theorem RK.one {α : Type} {enc : α → List Value} (a : α) (t : TypeId) (W : World) : RK enc (fun _ => True) (.slice (some ⟨W.heap.size, 0, none⟩) 1 1) [a] (W.alloc (.cells (enc a).toArray t)) :=
  ⟨some ⟨W.heap.size, 0, none⟩, 1, rfl, Nat.le_refl _, fun j u hu => ⟨W.heap.size, 0, rfl, trivial, by
    rw [List.flatMap_cons, List.flatMap_nil, List.append_nil] at hu
    rw [Nat.zero_add]
    exact (Blk.new W (enc a) t).cell hu⟩⟩
end Go.Proofs.YtagjjpmhacknpaaDoor

/- The document's own arena, in memory: rows of (handle, bytes); Cost, Used, Left, at, MayArena. -/
set_option maxRecDepth 100000
namespace Go.Proofs.YtagjjpmhacknpaaDoor
open Go Go.RowKit Go.Shelf
attribute [local go_sem] Oper.semAt_some
/-- A row: a handle, and a slice of bytes. -/
structure Rw where
  h : Nat
  ao : Option Addr
  n : Nat
  c : Nat
def Rw.v (r : Rw) : Value := .slice r.ao r.n r.c
def encRw (r : Rw) : List Value := [.int .i64 (r.h : Int), r.v]
theorem encRw_len (r : Rw) : (encRw r).length = 2 := rfl
theorem encRw_one (r : Rw) : ∀ u ∈ encRw r, u.oneCell' = true := fun u hu => by
  simp only [encRw, List.mem_cons, List.not_mem_nil, or_false] at hu
  rcases hu with rfl | rfl <;> rfl
theorem infoRw : (Tryd.prog.info? 52).map (fun i => (i.zero, i.size, i.bytes)) = some (some (.agg #[.int .i64 0, .slice none 0 0]), 2, 32) := by kernel_rfl
def encC (c : UInt8) : List Value := [encB c]
theorem encC_len (c : UInt8) : (encC c).length = 1 := rfl
theorem encC_one (c : UInt8) : ∀ u ∈ encC c, u.oneCell' = true := fun u hu => by
  simp only [encC, List.mem_cons, List.not_mem_nil, or_false] at hu
  rw [hu]; rfl
theorem flatC (l : List UInt8) : l.flatMap encC = l.map encB := by induction l with
  | nil => rfl
  | cons c l ih => rw [List.flatMap_cons, ih]; rfl
abbrev Rp := Rw × Bl
structure MA (x : Nat → Prop) (m B : Nat) (P : List Rp) (W : World) : Prop where
  ex : ∃ v, Blk W m [.int .i64 (B : Int), v] 33 ∧ RK encRw x v (P.map Prod.fst) W
  mine : x m
  each : ∀ p ∈ P, p.1.h = p.2.1 ∧ RK encC x p.1.v p.2.2 W
theorem MA.same {x : Nat → Prop} {m B : Nat} {P : List Rp} {W W' : World} (h : MA x m B P W) (hk : ∀ b, x b → W'.heap[b]? = W.heap[b]?) : MA x m B P W' := by
  obtain ⟨v, h1, h2⟩ := h.ex
  exact ⟨⟨v, h1.kept (hk m h.mine), h2.same hk⟩, h.mine, fun p hp => ⟨(h.each p hp).1, (h.each p hp).2.same hk⟩⟩
theorem MA.below {x : Nat → Prop} {m B : Nat} {P : List Rp} {W W' : World} (h : MA x m B P W) (hb : Below W.heap.size W W') : MA x m B P W' := by
  obtain ⟨v, h1, h2⟩ := h.ex
  exact ⟨⟨v, h1.kept (hb.block m h1.lt), h2.below hb⟩, h.mine, fun p hp => ⟨(h.each p hp).1, (h.each p hp).2.below hb⟩⟩
/-- What is read of it. -/
theorem MA.box {x : Nat → Prop} {m B : Nat} {P : List Rp} {W : World} (h : MA x m B P W) : ∃ ao cap, W.cell? ⟨m, 0, none⟩ = some (.int .i64 (B : Int)) ∧ W.cell? ⟨m, 1, none⟩ = some (.slice ao P.length cap) ∧ P.length ≤ cap ∧ RK encRw x (.slice ao P.length cap) (P.map Prod.fst) W ∧
    ∀ i (hi : i < P.length), ∃ b off, ao = some ⟨b, off, none⟩ ∧ x b ∧ W.cell? ⟨b, off + i * 2, none⟩ = some (.int .i64 (P[i].2.1 : Int)) ∧ W.cell? ⟨b, off + i * 2 + 1, none⟩ = some P[i].1.v := by
  obtain ⟨v, h1, h2⟩ := h.ex
  obtain ⟨ao, cap, rfl, hc, hf⟩ := h2.form
  rw [List.length_map] at hc h1
  have h3 : RK encRw x (.slice ao P.length cap) (P.map Prod.fst) W := by rw [List.length_map] at h2; exact h2
  refine ⟨ao, cap, h1.cell rfl, h1.cell rfl, hc, h3, fun i hi => ?_⟩
  obtain ⟨b, off, e, hx, c0⟩ := h3.at_ encRw_len (i := i) (f := 0) (by rw [List.length_map]; exact hi) (by omega)
  obtain ⟨b', off', e', _, c1⟩ := h3.at_ encRw_len (i := i) (f := 1) (by rw [List.length_map]; exact hi) (by omega)
  rw [e] at e'
  cases e'
  refine ⟨b, off, e, hx, ?_, ?_⟩
  · rw [Nat.add_zero] at c0
    rw [c0, List.getElem_map]
    show some (Value.int .i64 ((P[i].1.h : Nat) : Int)) = _
    rw [(h.each P[i] (List.getElem_mem hi)).1]
  · rw [Nat.add_assoc, c1, List.getElem_map]
    rfl
/-- c is the least power of two from 16 on that is at least as much, or a lesser one. -/
def DblOk (n c : Nat) : Prop := ∃ j, j ≤ 9 ∧ c = 16 * 2 ^ j ∧ (j = 0 ∨ 8 * 2 ^ j < n + 8)
theorem dbl_more {c n : Nat} (hn : n ≤ 4096) (h : DblOk n c) (hl : c < n + 8) : DblOk n (c * 2) := by
  obtain ⟨j, hj, hc, h⟩ := h
  have hj9 : j ≠ 9 := fun e => by subst e; simp only [Nat.reducePow] at hc; omega
  refine ⟨j + 1, by omega, by rw [Nat.pow_succ, hc, Nat.mul_assoc], .inr ?_⟩
  rw [Nat.pow_succ]
  clear h
  generalize 2 ^ j = p at hc ⊢
  omega
set_option maxHeartbeats 4000000 in
theorem dbl_end {c n : Nat} (hn : n ≤ 4096) (h : DblOk n c) (hl : ¬ c < n + 8) : c = Ar.cost n := by
  obtain ⟨j, hj, hc, h⟩ := h
  have h10 : j = 0 ∨ j = 1 ∨ j = 2 ∨ j = 3 ∨ j = 4 ∨ j = 5 ∨ j = 6 ∨ j = 7 ∨ j = 8 ∨ j = 9 := by omega
  unfold Ar.cost
  rcases h10 with rfl | rfl | rfl | rfl | rfl | rfl | rfl | rfl | rfl | rfl
  all_goals
    simp only [Nat.reducePow] at hc h
    (repeat' split) <;> omega
set_option maxHeartbeats 2000000 in
theorem rcost_any (n : Int) (w : World) (hn : -9223372036854775808 ≤ n ∧ n ≤ 9223372036854775807) :
    Calls Tryd.prog 30 #[.int .i64 n] w fun e w' => e = .returned (.int .i64 (Ar.costI n : Int)) ∧ w = w' := by
  by_cases h : 0 ≤ n ∧ n ≤ 4096
  · obtain ⟨k, rfl⟩ : ∃ k : Nat, n = (k : Int) := ⟨n.toNat, by omega⟩
    have hk : k ≤ 4096 := by omega
    have HE : Hid (Ar.costI (k : Int) = Ar.cost k) := Lib.hid (by unfold Ar.costI; rw [if_pos h, Int.toNat_natCast])
    clear h hn
    go_enter Tryd.func30, Tryd.ntmps30
    go_wp2
    go_loop [3] (fun c => ∃ c0 : Nat, c = .int .i64 (c0 : Int) ∧ c0 ≤ 8206 ∧ 1 ≤ c0 ∧ Hid (DblOk k c0)) (fun c => 8300 - (intOf c).toNat)
    case atStart => exact ⟨16, rfl, by omega, by omega, Lib.hid ⟨0, by omega, rfl, .inl rfl⟩⟩
    case round =>
      obtain ⟨c0, rfl, hc, hc1, HJ⟩ := hrel
      by_cases hlt : c0 < k + 8
      · have HS := Lib.hid (dbl_more hk HJ.out hlt)
        have hc2 : c0 * 2 ≤ 8206 := by omega
        clear HJ
        go_wp2
        go_round
        case rel => exact ⟨c0 * 2, by go_num, hc2, by omega, HS⟩
        case measure => simp [intOf]; omega
      · have HS := Lib.hid (dbl_end hk HJ.out hlt)
        clear HJ
        go_wp2
        go_ret
        exact ⟨by rw [HE.out, ← HS.out]; rfl, rfl⟩
  · have HE : Hid (Ar.costI n = 0) := Lib.hid (by unfold Ar.costI; rw [if_neg h])
    by_cases h0 : n < 0
    · clear h
      go_enter Tryd.func30, Tryd.ntmps30
      go_wp2
      go_ret
      exact ⟨by rw [HE.out]; rfl, rfl⟩
    · have h1 : 4096 < n := by omega
      clear h
      go_enter Tryd.func30, Tryd.ntmps30
      go_wp2
      go_ret
      exact ⟨by rw [HE.out]; rfl, rfl⟩
set_option maxHeartbeats 1000000 in
theorem mayArena_any (n : Int) (w : World) :
    Calls Tryd.prog 7 #[.int .i64 n] w fun e w' => e = .returned (.bool (decide (1024 ≤ n) && decide (n ≤ 1048576))) ∧ w = w' := by
  by_cases h : 1024 ≤ n
  · go_enter Tryd.func7, Tryd.ntmps7
    go_wp2
    go_ret
    exact ⟨by simp [h], rfl⟩
  · go_enter Tryd.func7, Tryd.ntmps7
    go_wp2
    go_ret
    refine ⟨?_, rfl⟩
    rw [decide_eq_false (show ¬ 1024 ≤ n by omega)]
    rfl
end Go.Proofs.YtagjjpmhacknpaaDoor

/- The document's own arena: Used, Left, at. -/
set_option maxRecDepth 100000
namespace Go.Proofs.YtagjjpmhacknpaaDoor
open Go Go.RowKit Go.Shelf
attribute [local go_sem] Oper.semAt_some
def lsP (P : List Rp) : List Bl := P.map Prod.snd
theorem sumC_take {L : List Bl} {k : Nat} (h : k < L.length) : sumC (L.take (k + 1)) = sumC (L.take k) + Ar.cost L[k].2.length := by
  rw [List.take_succ_eq_append_getElem h, sumC_app, sumC_cons, sumC_nil]; rfl
theorem sumC_take_le (L : List Bl) (k : Nat) : sumC (L.take k) ≤ sumC L := by
  have h := congrArg sumC (List.take_append_drop k L)
  rw [sumC_app] at h
  omega
theorem Rp.form {x : Nat → Prop} {r : Rw} {l : List UInt8} {w : World} (h : RK encC x r.v l w) : ∃ ao c, r.v = .slice ao l.length c := by
  obtain ⟨ao, cap, e, _⟩ := h.form
  exact ⟨ao, cap, e⟩
set_option maxHeartbeats 4000000 in
theorem mused_any (x : Nat → Prop) (m B : Nat) (P : List Rp) (w : World) (h : MA x m B P w) (hs : sumC (lsP P) ≤ 1048576) (hl : P.length ≤ 1000000) (he : ∀ b ∈ lsP P, b.2.length ≤ 4096) :
    Calls Tryd.prog 40 #[.pointer (some ⟨m, 0, none⟩)] w fun e w' => e = .returned (.int .i64 (sumC (lsP P) : Int)) ∧ w = w' := by
  obtain ⟨ao, cap, c0, c1, hcap, _, hrow⟩ := h.box
  have HR := Lib.hid hrow
  have HE := Lib.hid h.each
  have HL := Lib.hid he
  have HS := Lib.hid hs
  clear hrow he hs h
  go_enter Tryd.func40, Tryd.ntmps40
  go_wp2
  go_loop [3, 4] (fun n i => ∃ k nn : Nat, i = .int .i64 (k : Int) ∧ n = .int .i64 (nn : Int) ∧ k ≤ P.length ∧ nn ≤ 1048576 ∧ Hid (nn = sumC ((lsP P).take k))) (fun _ i => P.length + 1 - (intOf i).toNat)
  case atStart => exact ⟨0, 0, rfl, rfl, Nat.zero_le _, Nat.zero_le _, Lib.hid rfl⟩
  case round =>
    obtain ⟨k, nn, rfl, rfl, hk, hnn, HN⟩ := hrel
    by_cases hlt : k < P.length
    · obtain ⟨b, off, rfl, hx, d0, d1⟩ := HR.out k hlt
      have hm := HE.out P[k] (List.getElem_mem hlt)
      obtain ⟨ao2, c2, hv⟩ := Rp.form hm.2
      have hk2 : k < (lsP P).length := by simp [lsP]; exact hlt
      have hst := sumC_take hk2
      have hle := sumC_take_le (lsP P) (k + 1)
      have hge : (lsP P)[k].2 = P[k].2.2 := by simp [lsP]
      have hbl := HL.out (lsP P)[k] (List.getElem_mem hk2)
      rw [hge] at hst hbl
      obtain ⟨q, hq⟩ : ∃ q, P[k].2.2.length = q := ⟨_, rfl⟩
      rw [hv, hq] at d1
      rw [hq] at hst hbl
      have hc := rcost_any (q : Int) w (by omega)
      rw [show Ar.costI (q : Int) = Ar.cost q from Ar.costI_nat hbl] at hc
      obtain ⟨cc, hcc⟩ : ∃ cc, Ar.cost q = cc := ⟨_, rfl⟩
      rw [hcc] at hc hst
      have HC := Lib.hid hc
      have HN2 : Hid (nn + cc = sumC ((lsP P).take (k + 1))) := Lib.hid (by rw [hst, HN.out])
      have hb2 : nn + cc ≤ 1048576 := by have := HS.out; have := HN2.out; omega
      clear hc hst hle hge hbl hm hv hq hcc HN
      go_wp2_with (go_at_call 30; refine HC.out.mono ?_; rintro e w' ⟨rfl, rfl⟩)
      go_round
      case rel => exact ⟨k + 1, nn + cc, by go_num, by go_num, by omega, hb2, HN2⟩
      case measure => simp [intOf]; omega
    · obtain rfl : k = P.length := by omega
      have HN2 : Hid (nn = sumC (lsP P)) := Lib.hid (by rw [HN.out, List.take_of_length_le (by simp [lsP])])
      clear HN
      go_wp2
      go_ret
      exact ⟨by rw [← HN2.out]; rfl, rfl⟩
set_option maxHeartbeats 2000000 in
theorem mleft_any (x : Nat → Prop) (m B : Nat) (P : List Rp) (w : World) (h : MA x m B P w) (hB : B ≤ 1048576) (hs : sumC (lsP P) ≤ B) (hl : P.length ≤ 1000000) (he : ∀ b ∈ lsP P, b.2.length ≤ 4096) :
    Calls Tryd.prog 17 #[.pointer (some ⟨m, 0, none⟩)] w fun e w' => e = .returned (.int .i64 ((B - sumC (lsP P) : Nat) : Int)) ∧ ∃ n, w' = w.drewN n := by
  obtain ⟨ao, cap, c0, c1, hcap, _, hrow⟩ := h.box
  have HU := Lib.hid (fun n => mused_any x m B P (w.drewN n) (h.same fun _ _ => rfl) (by omega) hl he)
  obtain ⟨s, hs2⟩ : ∃ s, sumC (lsP P) = s := ⟨_, rfl⟩
  rw [hs2] at hs
  rw [hs2] at HU
  have hw : IntKind.i64.wrap ((B : Int) - (s : Int)) = ((B - s : Nat) : Int) := by rw [IntKind.wrap_i64]; omega
  rw [hs2]
  have HW := Lib.hid hw
  clear hrow he h hs2
  go_enter Tryd.func17, Tryd.ntmps17
  go_wp2
  go_quiet ((go_at_call 40; exact Calls.quiet_of_same ((HU.out _).mono fun _ _ h => ⟨h.1, h.2.symm⟩)))
  go_wp2
  go_ret
  exact ⟨by rw [← HW.out]; rfl, _, rfl⟩
def MatRet (P : List Rp) (z : Int) (w : World) (e : Ending) (w' : World) : Prop := ((∃ (i : Nat) (hi : i < P.length), e = .returned (.int .i64 (i : Int)) ∧ (P[i].2.1 : Int) = z) ∨ (e = .returned (.int .i64 (-1)) ∧ ∀ p ∈ P, (p.2.1 : Int) ≠ z)) ∧ w = w'
set_option maxHeartbeats 4000000 in
theorem mat_any (x : Nat → Prop) (m B : Nat) (P : List Rp) (z : Int) (w : World) (h : MA x m B P w) (hl : P.length ≤ 1000000) :
    Calls Tryd.prog 36 #[.pointer (some ⟨m, 0, none⟩), .int .i64 z] w (MatRet P z w) := by
  obtain ⟨ao, cap, c0, c1, hcap, _, hrow⟩ := h.box
  have HR := Lib.hid hrow
  clear hrow h
  go_enter Tryd.func36, Tryd.ntmps36
  go_wp2
  go_loop [5] (fun i => ∃ k : Nat, i = .int .i64 (k : Int) ∧ k ≤ P.length ∧ Hid (∀ i (h : i < P.length), i < k → (P[i].2.1 : Int) ≠ z)) (fun i => P.length + 1 - (intOf i).toNat)
  case atStart => exact ⟨0, rfl, Nat.zero_le _, Lib.hid fun i h h2 => by omega⟩
  case round =>
    obtain ⟨k, rfl, hk, HN⟩ := hrel
    by_cases hlt : k < P.length
    · obtain ⟨b, off, rfl, hx, d0, d1⟩ := HR.out k hlt
      obtain ⟨q, hq⟩ : ∃ q, P[k].2.1 = q := ⟨_, rfl⟩
      rw [hq] at d0
      by_cases hz : (q : Int) = z
      · have HQ : Hid ((P[k].2.1 : Int) = z) := Lib.hid (by rw [hq]; exact hz)
        have hb : ((q : Int) == z) = true := by rw [hz]; exact beq_self_eq_true z
        clear hq hz HN
        go_wp2
        go_ret
        exact ⟨.inl ⟨k, hlt, rfl, HQ.out⟩, rfl⟩
      · have HQ : Hid (∀ i (h : i < P.length), i < k + 1 → (P[i].2.1 : Int) ≠ z) := Lib.hid fun i h h2 => by
          by_cases e : i = k
          · subst e; rw [hq]; exact hz
          · exact HN.out i h (by omega)
        have hb : ((q : Int) == z) = false := by rw [beq_eq_false_iff_ne]; exact hz
        clear hq hz HN
        go_wp2
        go_round
        case rel => exact ⟨k + 1, by go_num, by omega, HQ⟩
        case measure => simp [intOf]; omega
    · obtain rfl : k = P.length := by omega
      go_wp2
      go_ret
      exact ⟨.inr ⟨rfl, fun p hp => by obtain ⟨i, hi, rfl⟩ := List.mem_iff_getElem.1 hp; exact HN.out i hi hi⟩, rfl⟩
end Go.Proofs.YtagjjpmhacknpaaDoor

/- The document's own arena: Free (a row goes). -/
set_option maxRecDepth 100000
namespace Go.Proofs.YtagjjpmhacknpaaDoor
open Go Go.RowKit Go.Shelf
attribute [local go_sem] Oper.semAt_some
/-- The blocks that a call has made, beside x. -/
def plus (x : Nat → Prop) (w w' : World) : Nat → Prop := fun k => x k ∨ (w.heap.size ≤ k ∧ k < w'.heap.size)
/-- What an act of the document's own arena leaves: other rows, nothing else changed but its own box. -/
def MRet (x : Nat → Prop) (m B : Nat) (P' : List Rp) (w w' : World) : Prop := MA (plus x w w') m B P' w' ∧ Trn (fun k => k = m) w w'
theorem ownBlock_in {α : Type} {enc : α → List Value} {k : Nat} {e : TypeId} {base : Nat} {v : Value} {l : List α} {W : World} (h : OwnK enc k e base v l W) : ∀ b, v.ownBlock = some b → base ≤ b ∧ b < W.heap.size := fun b hb => World.ownsRow.lt h b hb
/-- New rows are laid into the box. -/
theorem MA.put {x : Nat → Prop} {m B : Nat} {P P' : List Rp} {w w1 : World} {v : Value} (h : MA x m B P w) (hb : Below w.heap.size w w1) (hv : OwnK encRw 2 52 w.heap.size v (P'.map Prod.fst) w1) (he : ∀ p ∈ P', p.1.h = p.2.1 ∧ RK encC (plus x w w1) p.1.v p.2.2 w1) :
    MRet x m B P' w (w1.setCell ⟨m, 1, none⟩ v) := by
  obtain ⟨v0, h1, h2⟩ := h.ex
  have hs : (w1.setCell ⟨m, 1, none⟩ v).heap.size = w1.heap.size := by simp [World.setCell]
  have hm1 : Blk w1 m [.int .i64 (B : Int), v0] 33 := h1.kept (hb.block m h1.lt)
  have hT : Trn (fun k => k = m) w (w1.setCell ⟨m, 1, none⟩ v) := (Trn.of_below hb).trans (Trn.set hm1 (.inl rfl) 1 v)
  refine ⟨⟨⟨v, hm1.set 1 v, ?_⟩, .inl h.mine, fun p hp => ⟨(he p hp).1, ?_⟩⟩, hT⟩
  · have hr : RK encRw (fun k => w.heap.size ≤ k ∧ k < w1.heap.size) v (P'.map Prod.fst) w1 := RK.own hv (ownBlock_in hv)
    refine (hr.same (W' := w1.setCell ⟨m, 1, none⟩ v) fun b hb2 => Below.heap_setCell w1 ⟨m, 1, none⟩ v b (fun e => by
      have h3 : b = m := e
      have := h1.lt
      have := hb2.1
      omega)).mono fun b hb2 => .inr ⟨hb2.1, by rw [hs]; exact hb2.2⟩
  · obtain ⟨ao, cap, e, hc, hf⟩ := (he p hp).2.form
    refine ⟨ao, cap, e, hc, fun j u hu => ?_⟩
    obtain ⟨b, off, e, hx, c⟩ := hf j u hu
    refine ⟨b, off, e, by unfold plus at hx ⊢; rw [hs]; exact hx, ?_⟩
    have hbm : b ≠ m := fun e2 => by
      subst e2
      have hu2 : ∃ c, u = encB c := by
        rw [flatC] at hu
        obtain ⟨c, _, hc⟩ := List.mem_map.1 (List.mem_of_getElem? hu)
        exact ⟨c, hc.symm⟩
      obtain ⟨c', rfl⟩ := hu2
      have h3 : w1.cell? ⟨b, off + j, none⟩ = [Value.int .i64 (B : Int), v0].toArray[off + j]? := by
        show (match w1.heap[b]? with | some (.cells c _ _) => c[off + j]? | _ => none) = _
        rw [show w1.heap[b]? = _ from hm1]
      rw [c] at h3
      exact absurd (hm1.symm.trans hm1) (fun _ => by
        match hq : off + j, h3 with
        | 0, h3 => simp [encB] at h3
        | 1, h3 =>
          simp only [List.getElem?_toArray, List.getElem?_cons_succ, List.getElem?_cons_zero, Option.some.injEq] at h3
          obtain ⟨ao', cap', e', _⟩ := h2.form
          rw [e'] at h3
          cases h3
        | n + 2, h3 => simp at h3)
    rw [cell_same (Below.heap_setCell w1 ⟨m, 1, none⟩ v b hbm)]
    exact c
theorem each_mid {P1 P2 : List Rp} {p : Rp} {F : Rp → Prop} (h : ∀ q ∈ P1 ++ p :: P2, F q) : ∀ q ∈ P1 ++ P2, F q := fun q hq => h q (by rcases List.mem_append.1 hq with h | h <;> simp [h])
end Go.Proofs.YtagjjpmhacknpaaDoor
