/- Slices of any elements, owned and read: what they hold, appends, stores, cuts. -/
import Derived.RangeFuncBox
import Derived.Deep.AppendSrc
import Derived.Deep.Upon
import Derived.Maps.AppendAt
import Derived.OwnWalkIn
import Derived.Test.YtmgnjkjldmjpfaaJB1
/- Slices of any elements, owned and read: what they hold, appends, stores, cuts. -/
set_option maxRecDepth 100000
namespace Go.Proofs.Ytmgnjkjldmjpfaa
open Go Go.RowKit Go.Shelf
theorem cell_lt {W : World} {a : Addr} {v : Value} (h : W.cell? a = some v) : a.block < W.heap.size := by
  rcases Nat.lt_or_ge a.block W.heap.size with h' | h'
  · exact h'
  · simp [World.cell?, Array.getElem?_eq_none h'] at h
theorem bcell {W w1 : World} (hb : Below W.heap.size W w1) : (∀ b o, b < W.heap.size → w1.cell? ⟨b, o, none⟩ = W.cell? ⟨b, o, none⟩) ∧ (∀ b o, b < W.heap.size → w1.frozen? ⟨b, o, none⟩ = W.frozen? ⟨b, o, none⟩) :=
  ⟨fun b o h => hb.cell (p := ⟨b, o, none⟩) h, fun b o h => hb.frozen (p := ⟨b, o, none⟩) h⟩
theorem below_trans {W A C : World} (h : Below W.heap.size W A) (k : Below A.heap.size A C) : Below W.heap.size W C := h.trans (k.mono h.size)
theorem infoInt : (Try.prog.info? 3).map (fun i => (i.zero, i.size, i.bytes)) = some (some (.int .i64 0), 1, 8) := by kernel_rfl
theorem flat_get {α : Type} (enc : α → List Value) (k : Nat) (hk : ∀ x, (enc x).length = k) : ∀ (l : List α) (j i : Nat) (hj : j < l.length), i < k → (l.flatMap enc)[j * k + i]? = (enc l[j])[i]?
  | [], j, i, hj, _ => by simp at hj
  | x :: l, 0, i, _, hi => by
    rw [List.flatMap_cons, List.getElem?_append_left (by rw [hk]; omega), Nat.zero_mul, Nat.zero_add]
    rfl
  | x :: l, j + 1, i, hj, hi => by
    have e : (j + 1) * k + i = k + (j * k + i) := by rw [Nat.add_mul]; omega
    rw [List.flatMap_cons, List.getElem?_append_right (by rw [hk]; omega), hk, e, Nat.add_sub_cancel_left]
    exact flat_get enc k hk l j i (by simpa using hj) hi
theorem flat_len {α : Type} (enc : α → List Value) (k : Nat) (hk : ∀ x, (enc x).length = k) (l : List α) : (l.flatMap enc).length = l.length * k := by
  induction l with
  | nil => simp
  | cons x l ih => rw [List.flatMap_cons, List.length_append, hk, ih, List.length_cons, Nat.add_mul]; omega

/-- A slice of elements of k cells that the call owns, from block base on. -/
def OwnK {α : Type} (enc : α → List Value) (k : Nat) (e : TypeId) (base : Nat) (v : Value) (l : List α) (W : World) : Prop := W.ownsRow base e k v l.length (l.flatMap enc)
theorem ownK_nil {α : Type} (enc : α → List Value) (k : Nat) (e : TypeId) (base : Nat) (W : World) : OwnK enc k e base (.slice none 0 0) [] W := World.ownsRow_nil W base e k
theorem ownK_grown {α : Type} {enc : α → List Value} {k : Nat} {e : TypeId} {base : Nat} {v : Value} {l : List α} {W W' : World} {row : Option Nat} (h : OwnK enc k e base v l W) (hg : W.grownBy W' row) (hr : ∀ g, v.ownBlock = some g → row ≠ some g) : OwnK enc k e base v l W' :=
  World.ownsRow.kept h hg (by
    cases hv : v.ownBlock with
    | none => exact .inl rfl
    | some g => exact .inr (fun e => hr g hv e.symm))
theorem ownK_below {α : Type} {enc : α → List Value} {k : Nat} {e : TypeId} {base : Nat} {v : Value} {l : List α} {W W' : World} (h : OwnK enc k e base v l W) (hb : Below W.heap.size W W') : OwnK enc k e base v l W' :=
  ownK_grown (row := none) h ⟨hb.os, hb.tape, hb.output, hb.size, fun k hk _ => hb.block k hk⟩ (fun _ _ e => by cases e)
theorem ownK_alloc {α : Type} {enc : α → List Value} {k : Nat} {e : TypeId} {base : Nat} {v : Value} {l : List α} {W : World} (h : OwnK enc k e base v l W) (o : Obj) : OwnK enc k e base v l (W.alloc o) := World.ownsRow.alloc h o
/-- What lies in a row of the type e, and what lies in a box of another. -/
theorem ownK_box {α : Type} {enc : α → List Value} {k : Nat} {e : TypeId} {base : Nat} {v : Value} {l : List α} {W : World} (h : OwnK enc k e base v l W) {B : Nat} {t : TypeId} {u : Value} (hb : Boxed W B t u) (hte : t ≠ e) : v.ownBlock ≠ some B := by
  rcases h.2 with ⟨rfl, _⟩ | ⟨g, cap, cur, rfl, _, hh, _⟩
  · simp [Value.ownBlock]
  · intro e1
    simp only [Value.ownBlock, Option.some.injEq] at e1
    subst e1
    have hx : W.heap[g]? = some (.cells #[u] t (0, 0)) := hb
    rw [hh] at hx
    injection hx with hx
    injection hx with _ h2
    exact hte h2.symm
theorem ownK_form {α : Type} {enc : α → List Value} {k : Nat} {e : TypeId} {base : Nat} {v : Value} {l : List α} {W : World} (h : OwnK enc k e base v l W) : ∃ ao cap, v = .slice ao l.length cap ∧ (l ≠ [] → ∃ g, ao = some ⟨g, 0, none⟩) := by
  rcases h.2 with ⟨rfl, hn⟩ | ⟨g, cap, cur, rfl, _⟩
  · exact ⟨none, 0, by rw [List.length_eq_zero_iff.1 hn]; rfl, fun hl => absurd (List.length_eq_zero_iff.1 hn) hl⟩
  · exact ⟨some ⟨g, 0, none⟩, cap, rfl, fun _ => ⟨g, rfl⟩⟩
theorem ownK_cell {α : Type} {enc : α → List Value} {k : Nat} (hk : ∀ x, (enc x).length = k) {e : TypeId} {base g cap n : Nat} {l : List α} {W : World} (h : OwnK enc k e base (.slice (some ⟨g, 0, none⟩) n cap) l W) {j i : Nat} (hj : j < l.length) (hi : i < k) :
    W.cell? ⟨g, 0 + j * k + i, none⟩ = (enc l[j])[i]? := by
  have hx := flat_get enc k hk l j i hj hi
  obtain ⟨u, hu⟩ : ∃ u, (enc l[j])[i]? = some u := ⟨_, List.getElem?_eq_getElem (by rw [hk l[j]]; exact hi)⟩
  have := World.ownsRow.cells h (g := g) rfl (j * k + i) u (by rw [hx, hu])
  have e1 : (⟨g, 0, none⟩ : Addr).add (j * k + i) = ⟨g, 0 + (j * k + i), none⟩ := by unfold Addr.add; split <;> simp_all
  rw [e1] at this
  rw [hu, ← this, Nat.add_assoc]

theorem run_apk {α : Type} {P : Program} (enc : α → List Value) (k : Nat) (hk : ∀ x, (enc x).length = k) (h0 : 0 < k) (henc : ∀ x, ∀ u ∈ enc x, u.oneCell' = true) (w : World) (base : Nat) (t ty e : TypeId) (z : Value) (bytes : Nat) (h1 : P.underlying t = some (.slice e))
    (h2 : (P.info? e).map (fun i => (i.zero, i.size, i.bytes)) = some (some z, k, bytes)) (hz : z.cells.size = k) (v : Value) (l : List α) (hown : OwnK enc k e base v l w) (ad : Addr) (m c : Nat) (news : List α) (hm : news.length = m)
    (hc : ∀ j u, (news.flatMap enc)[j]? = some u → w.cell? (ad.add j) = some u) (b1 : l.length + m ≤ 1000000) (b2 : bytes ≤ 1000) (hb : base ≤ w.heap.size) :
    ∃ v' w', (Builtin.append_ #[t, t] ty #[v, .slice (some ad) m c]).run P w = .ok v' w' ∧ OwnK enc k e base v' (l ++ news) w' ∧ w.grownBy w' v.ownBlock ∧ (v'.ownBlock = v.ownBlock ∨ v'.ownBlock = some w.heap.size) := by
  obtain ⟨i, hi, hz0, hz1, hz2⟩ := info_parts h2
  have hlim : (l.length + m) * bytes ≤ 140737488355328 := Nat.le_trans (Nat.mul_le_mul b1 b2) (by decide)
  have hmax : l.length + m ≤ maxLen := Nat.le_trans b1 (by unfold maxLen; decide)
  have h1c : ∀ u ∈ news.flatMap enc, u.oneCell' = true := fun u hu => by obtain ⟨x, _, hx⟩ := List.mem_flatMap.1 hu; exact henc x u hx
  obtain ⟨v', w', hr, ho, hg, _, hat⟩ := run_append_own_at (P := P) w base t ty e i z k bytes h1 hi hz0 hz1 hz2 hz h0 v l.length (l.flatMap enc) hown ad m c (news.flatMap enc) (by rw [flat_len enc k hk, hm]) hc h1c hmax hlim hb
  exact ⟨v', w', hr, by unfold OwnK; rw [List.flatMap_append, List.length_append, hm]; exact ho, hg, hat⟩

/-- At the operation. -/
theorem wpListIn_apk {α : Type} {P : Program} {F : Fence} {n : Nat} (w : World) {ops : Array Oper} {rest : List Oper} {o : Oper} {a : Act} {Q : Exit → Act → World → Prop} (hg : o.guard = none) (s x : Operand) (t : TypeId)
    (hop : o.op = Op.call { callee := Callee.builtin Builtin.append, args := #[s, x], argTypes := #[t, t] })
    (enc : α → List Value) (k : Nat) (hk : ∀ x, (enc x).length = k) (h0 : 0 < k) (henc : ∀ x, ∀ u ∈ enc x, u.oneCell' = true) (base : Nat) (e : TypeId) (z : Value) (bytes : Nat) (h1 : P.underlying t = some (.slice e))
    (h2 : (P.info? e).map (fun i => (i.zero, i.size, i.bytes)) = some (some z, k, bytes)) (hz : z.cells.size = k) (v : Value) (l : List α) (hs : a.eval s = v) (hown : OwnK enc k e base v l w) (ad : Addr) (m c : Nat) (news : List α) (hx : a.eval x = .slice (some ad) m c) (hm : news.length = m)
    (hc : ∀ j u, (news.flatMap enc)[j]? = some u → w.cell? (ad.add j) = some u) (b1 : l.length + m ≤ 1000000) (b2 : bytes ≤ 1000) (hb : base ≤ w.heap.size)
    (hK : ∀ v' w', OwnK enc k e base v' (l ++ news) w' → w.grownBy w' v.ownBlock → (v'.ownBlock = v.ownBlock ∨ v'.ownBlock = some w.heap.size) → wpListIn F n P ops Q rest (a.put o.dst v') w') :
    wpListIn F n P ops Q (o :: rest) a w := by
  refine wpListIn_plain hg fun K hK' => ?_
  obtain ⟨v', w', hrun, r1, r2, r3⟩ := run_apk (P := P) enc k hk h0 henc w base t o.type e z bytes h1 h2 hz v l hown ad m c news hm hc b1 b2 hb
  unfold Oper.wpIn
  refine ⟨?_, ?_⟩
  · simp [Oper.about, hop, resolve, Target.leads, Sem.run_pure]
  · rw [Oper.semAt_plain F _ _ (by rw [hop]; intro c hc'; cases hc')]
    simp [execOp, hop, resolve, invoke, builtin, hs, hx, hrun, Result.andThen]
    exact hK' _ _ (hK v' w' r1 r2 r3)
theorem below_ownK {α : Type} {enc : α → List Value} {k : Nat} {e : TypeId} {base : Nat} {v : Value} {l : List α} {w w' : World} (h : OwnK enc k e base v l w) (hg : w.grownBy w' v.ownBlock) (hb : base ≤ w.heap.size) : Below base w w' :=
  (Below.refl base w).grown hg hb (fun k e => (World.ownsRow.lt h k e).1)

theorem flat_at {α : Type} (enc : α → List Value) (k : Nat) (hk : ∀ x, (enc x).length = k) (h0 : 0 < k) (l : List α) (j : Nat) (u : Value) (h : (l.flatMap enc)[j]? = some u) : ∃ (hj : j / k < l.length), (enc l[j / k])[j % k]? = some u := by
  have hlt : j < l.length * k := by
    rw [← flat_len enc k hk l]
    exact (List.getElem?_eq_some_iff.1 h).1
  have hj : j / k < l.length := Nat.div_lt_of_lt_mul (by rw [Nat.mul_comm]; exact hlt)
  refine ⟨hj, ?_⟩
  have e := flat_get enc k hk l (j / k) (j % k) hj (Nat.mod_lt _ h0)
  rw [Nat.mul_comm, Nat.div_add_mod] at e
  rw [← e]; exact h
structure RK {α : Type} (enc : α → List Value) (x : Nat → Prop) (v : Value) (l : List α) (W : World) : Prop where
  form : ∃ ao cap, v = .slice ao l.length cap ∧ l.length ≤ cap ∧ ∀ j u, (l.flatMap enc)[j]? = some u → ∃ b off, ao = some ⟨b, off, none⟩ ∧ x b ∧ W.cell? ⟨b, off + j, none⟩ = some u
theorem cell_same {W W' : World} {b : Nat} (h : W'.heap[b]? = W.heap[b]?) (i : Nat) : W'.cell? ⟨b, i, none⟩ = W.cell? ⟨b, i, none⟩ := by
  show (match W'.heap[b]? with | some (.cells c _ _) => c[i]? | _ => none) = (match W.heap[b]? with | some (.cells c _ _) => c[i]? | _ => none)
  rw [h]
section
variable {α : Type} {enc : α → List Value} {x y : Nat → Prop} {v : Value} {l : List α} {W W' : World}
theorem RK.same (h : RK enc x v l W) (hk : ∀ b, x b → W'.heap[b]? = W.heap[b]?) : RK enc x v l W' := by
  obtain ⟨ao, cap, e, hc, hf⟩ := h.form
  exact ⟨ao, cap, e, hc, fun j u hu => by
    obtain ⟨b, off, e, hx, c⟩ := hf j u hu
    exact ⟨b, off, e, hx, (cell_same (hk b hx) _).trans c⟩⟩
theorem RK.below (h : RK enc x v l W) (hb : Below W.heap.size W W') : RK enc x v l W' := by
  obtain ⟨ao, cap, e, hc, hf⟩ := h.form
  exact ⟨ao, cap, e, hc, fun j u hu => by
    obtain ⟨b, off, e, hx, c⟩ := hf j u hu
    exact ⟨b, off, e, hx, (hb.cell (cell_lt c)).trans c⟩⟩
theorem RK.mono (h : RK enc x v l W) (hxy : ∀ b, x b → y b) : RK enc y v l W := by
  obtain ⟨ao, cap, e, hc, hf⟩ := h.form
  exact ⟨ao, cap, e, hc, fun j u hu => by
    obtain ⟨b, off, e, hx, c⟩ := hf j u hu
    exact ⟨b, off, e, hxy b hx, c⟩⟩
theorem RK.nil (enc : α → List Value) (x : Nat → Prop) (W : World) : RK enc x (.slice none 0 0) [] W := ⟨none, 0, rfl, Nat.le_refl _, fun j u hu => by simp at hu⟩
theorem RK.own {k : Nat} {e : TypeId} {base : Nat} (h : OwnK enc k e base v l W) (hx : ∀ b, v.ownBlock = some b → x b) : RK enc x v l W := by
  rcases h.2 with ⟨rfl, hn⟩ | ⟨g, cap, cur, rfl, _, _, hle, _⟩
  · rw [List.length_eq_zero_iff] at hn
    subst hn
    exact RK.nil enc x W
  · refine ⟨some ⟨g, 0, none⟩, cap, rfl, hle, fun j u hu => ⟨g, 0, rfl, hx g rfl, ?_⟩⟩
    have := World.ownsRow.cells h (g := g) rfl j u hu
    have e : (⟨g, 0, none⟩ : Addr).add j = ⟨g, 0 + j, none⟩ := by unfold Addr.add; split <;> simp_all
    rwa [e] at this
/-- A field of an element. -/
theorem RK.at_ {k : Nat} (hk : ∀ a, (enc a).length = k) {ao : Option Addr} {n cap : Nat} (h : RK enc x (.slice ao n cap) l W) {i f : Nat} (hi : i < l.length) (hf : f < k) : ∃ b off, ao = some ⟨b, off, none⟩ ∧ x b ∧ W.cell? ⟨b, off + (i * k + f), none⟩ = (enc l[i])[f]? := by
  obtain ⟨ao', cap', e, hc, hfm⟩ := h.form
  cases e
  have h1 := flat_get enc k hk l i f hi hf
  obtain ⟨u, hu⟩ : ∃ u, (enc l[i])[f]? = some u := ⟨(enc l[i])[f]'(by rw [hk]; exact hf), List.getElem?_eq_getElem _⟩
  obtain ⟨b, off, e, hx, c⟩ := hfm (i * k + f) u (by rw [h1, hu])
  exact ⟨b, off, e, hx, by rw [c, hu]⟩
theorem RK.len {ao : Option Addr} {n cap : Nat} (h : RK enc x (.slice ao n cap) l W) : n = l.length ∧ l.length ≤ cap := by
  obtain ⟨ao', cap', e, hc, hfm⟩ := h.form
  cases e
  exact ⟨rfl, hc⟩
theorem flat_drop {k : Nat} (hk : ∀ a, (enc a).length = k) : ∀ (m : Nat) (l : List α) (j : Nat), ((l.drop m).flatMap enc)[j]? = (l.flatMap enc)[m * k + j]?
  | 0, l, j => by simp
  | m + 1, [], j => by simp
  | m + 1, a :: l, j => by
    rw [List.drop_succ_cons, flat_drop hk m l j, List.flatMap_cons, List.getElem?_append_right (by rw [hk, Nat.succ_mul]; omega), hk]
    congr 1
    rw [Nat.succ_mul]; omega
theorem flat_take {k : Nat} (hk : ∀ a, (enc a).length = k) : ∀ (m : Nat) (l : List α) (j : Nat) (u : Value), ((l.take m).flatMap enc)[j]? = some u → (l.flatMap enc)[j]? = some u
  | 0, l, j, u, h => by simp at h
  | m + 1, [], j, u, h => by simp at h
  | m + 1, a :: l, j, u, h => by
    rw [List.take_succ_cons, List.flatMap_cons] at h
    rw [List.flatMap_cons]
    by_cases hj : j < k
    · rw [List.getElem?_append_left (by rw [hk]; exact hj)] at h ⊢
      exact h
    · rw [List.getElem?_append_right (by rw [hk]; omega)] at h ⊢
      exact flat_take hk m l _ u h
/-- s[m:] and s[:m]. -/
theorem run_dropK {P : Program} {k : Nat} (hk : ∀ a, (enc a).length = k) {t e : TypeId} {z : Value} {bytes : Nat} (h1 : P.underlying t = some (.slice e)) (h2 : (P.info? e).map (fun i => (i.zero, i.size, i.bytes)) = some (some z, k, bytes)) {ao : Option Addr} {n cap : Nat} (h : RK enc x (.slice ao n cap) l W) {m : Nat} (hm : m ≤ l.length) :
    ∃ v, (∀ W' : World, (Instr.slice t (.slice ao n cap) (some (.int .i64 (m : Int))) none none).run P W' = .ok v W') ∧ RK enc x v (l.drop m) W := by
  obtain ⟨rfl, hcap⟩ := h.len
  have hs : ∀ W', (sizeOf e).run P W' = .ok k W' := fun W' => by
    obtain ⟨i, hi, _, h1, _⟩ := info_parts h2
    simp [sizeOf, typeInfo, hi, h1]
  have he : P.elem t = e := by simp [Program.elem, h1]
  subst he
  refine ⟨sliced ao m l.length cap k, fun W' => by rw [run_slice_l (w := W') t ao l.length cap h1 .i64 (m : Int) (by omega) (by omega), hs W']; rfl, ?_⟩
  obtain ⟨ao', cap', e', hc, hfm⟩ := h.form
  cases e'
  unfold sliced
  refine ⟨_, _, by rw [List.length_drop], by rw [List.length_drop]; omega, fun j u hu => ?_⟩
  rw [flat_drop hk] at hu
  obtain ⟨b, off, rfl, hx, c⟩ := hfm _ u hu
  have hne : ¬ cap = m := fun e => by
    have h3 : l.length = m := by omega
    have h4 := (List.getElem?_eq_some_iff.1 hu).1
    rw [flat_len enc k hk, h3] at h4
    omega
  exact ⟨b, off + m * k, by rw [if_neg hne]; simp [Addr.add], hx, by rw [Nat.add_assoc]; exact c⟩
theorem run_takeK {P : Program} {k : Nat} (hk : ∀ a, (enc a).length = k) {t e : TypeId} {z : Value} {bytes : Nat} (h1 : P.underlying t = some (.slice e)) (h2 : (P.info? e).map (fun i => (i.zero, i.size, i.bytes)) = some (some z, k, bytes)) {ao : Option Addr} {n cap : Nat} (h : RK enc x (.slice ao n cap) l W) {m : Nat} (hm : m ≤ l.length) :
    ∃ v, (∀ W' : World, (Instr.slice t (.slice ao n cap) none (some (.int .i64 (m : Int))) none).run P W' = .ok v W') ∧ RK enc x v (l.take m) W := by
  obtain ⟨rfl, hcap⟩ := h.len
  have hs : ∀ W', (sizeOf e).run P W' = .ok k W' := fun W' => by
    obtain ⟨i, hi, _, h1, _⟩ := info_parts h2
    simp [sizeOf, typeInfo, hi, h1]
  have he : P.elem t = e := by simp [Program.elem, h1]
  subst he
  refine ⟨sliced ao 0 m cap k, fun W' => by rw [run_slice_h (w := W') t ao l.length cap h1 .i64 (m : Int) (by omega) (by omega), hs W']; rfl, ?_⟩
  obtain ⟨ao', cap', e', hc, hfm⟩ := h.form
  cases e'
  unfold sliced
  refine ⟨_, _, by rw [List.length_take, Nat.min_eq_left hm]; rfl, by rw [List.length_take]; omega, fun j u hu => ?_⟩
  obtain ⟨b, off, rfl, hx, c⟩ := hfm _ u (flat_take hk m l j u hu)
  refine ⟨b, off, ?_, hx, c⟩
  split
  · rfl
  · simp [Addr.add]
/-- append(v, y...): v is the call's own, y is read. -/
theorem run_apRK {P : Program} {k : Nat} (hk : ∀ a, (enc a).length = k) (h0 : 0 < k) (henc : ∀ a, ∀ u ∈ enc a, u.oneCell' = true) (w : World) (base : Nat) (t ty e : TypeId) (z : Value) (bytes : Nat) (h1 : P.underlying t = some (.slice e))
    (h2 : (P.info? e).map (fun i => (i.zero, i.size, i.bytes)) = some (some z, k, bytes)) (hz : z.cells.size = k) (v : Value) (l : List α) (hown : OwnK enc k e base v l w) (yv : Value) (news : List α) (hy : RK enc x yv news w) (b1 : l.length + news.length ≤ 1000000) (b2 : bytes ≤ 1000) (hb : base ≤ w.heap.size) :
    ∃ v' w', (Builtin.append_ #[t, t] ty #[v, yv]).run P w = .ok v' w' ∧ OwnK enc k e base v' (l ++ news) w' ∧ w.grownBy w' v.ownBlock ∧ (v'.ownBlock = v.ownBlock ∨ v'.ownBlock = some w.heap.size) := by
  obtain ⟨ao, cap, rfl, hcap, hc⟩ := hy.form
  by_cases hn : news = []
  · subst hn
    obtain ⟨i, hi, hz0, hz1, hz2⟩ := info_parts h2
    have hform : ∃ ao n c, v = .slice ao n c ∧ n ≤ c := by
      rcases hown.2 with ⟨rfl, hn⟩ | ⟨g, cap', cur, rfl, _, _, hle, _⟩
      · exact ⟨none, 0, 0, rfl, Nat.le_refl _⟩
      · exact ⟨_, _, _, rfl, hle⟩
    obtain ⟨a2, n, c, rfl, hle⟩ := hform
    refine ⟨_, _, ?_, by rw [List.append_nil]; exact hown, ⟨rfl, rfl, rfl, Nat.le_refl _, fun _ _ _ => rfl⟩, .inl rfl⟩
    cases ao with
    | none => exact run_append_nothing (P := P) w t t ty e i h1 hi a2 n c hle _ (Src.ofNil w h1 cap)
    | some ad => exact run_append_nothing (P := P) w t t ty e i h1 hi a2 n c hle _ (Src.ofSlice _ h1 ad 0 cap [] (by simp) (fun j v hj => by simp at hj) (by simp))
  · have hpos : 0 < news.length := List.length_pos_iff.2 hn
    obtain ⟨b, off, rfl, _, _⟩ := hc 0 ((news.flatMap enc)[0]'(by rw [flat_len enc k hk]; exact Nat.mul_pos hpos h0)) (List.getElem?_eq_getElem _)
    refine run_apk (P := P) enc k hk h0 henc w base t ty e z bytes h1 h2 hz v l hown ⟨b, off, none⟩ news.length cap news rfl (fun j u hu => ?_) b1 b2 hb
    obtain ⟨b', off', e', _, c⟩ := hc j u hu
    cases e'
    have e2 : (⟨b, off, none⟩ : Addr).add j = ⟨b, off + j, none⟩ := by unfold Addr.add; split <;> simp_all
    rw [e2]; exact c
theorem step_apRK {P : Program} {k : Nat} (hk : ∀ a, (enc a).length = k) (h0 : 0 < k) (henc : ∀ a, ∀ u ∈ enc a, u.oneCell' = true) {w : World} {t e : TypeId} {z : Value} {bytes : Nat} (h1 : P.underlying t = some (.slice e))
    (h2 : (P.info? e).map (fun i => (i.zero, i.size, i.bytes)) = some (some z, k, bytes)) (hz : z.cells.size = k) (b2 : bytes ≤ 1000) {ops : Array Oper} {o : Oper} {a : Act} {K : Act → World → Prop} {Q : Exit → Act → World → Prop} {E : Prop}
    (hg : o.guard = none) (s y : Operand) (hop : o.op = Op.call { callee := Callee.builtin Builtin.append, args := #[s, y], argTypes := #[t, t] })
    (base : Nat) (v : Value) (l : List α) (hs : a.eval s = v) (hown : OwnK enc k e base v l w) (yv : Value) (news : List α) (hy : a.eval y = yv) (hr : RK enc x yv news w) (b1 : l.length + news.length ≤ 1000000) (hb : base ≤ w.heap.size)
    (hK : ∀ v' w', OwnK enc k e base v' (l ++ news) w' → w.grownBy w' v.ownBlock → (v'.ownBlock = v.ownBlock ∨ v'.ownBlock = some w.heap.size) → K (a.put o.dst v') w') :
    if Region.wanted o (yielded ops a.tmps) = true then Oper.wp P o a w K Q else E := by
  have hw : Region.wanted o (yielded ops a.tmps) = true := by simp [Region.wanted, hg]
  rw [if_pos hw]
  obtain ⟨v', w', hrun, r1, r2, r3⟩ := run_apRK (P := P) hk h0 henc w base t o.type e z bytes h1 h2 hz v l hown yv news hr b1 b2 hb
  unfold Oper.wp
  simp [execOp, hop, resolve, invoke, builtin, hs, hy, hrun, Result.andThen]
  exact hK v' w' r1 r2 r3
end
/-- A literal of one element. -/
theorem RK.one {α : Type} {enc : α → List Value} (a : α) (t : TypeId) (W : World) : RK enc (fun _ => True) (.slice (some ⟨W.heap.size, 0, none⟩) 1 1) [a] (W.alloc (.cells (enc a).toArray t)) :=
  ⟨some ⟨W.heap.size, 0, none⟩, 1, rfl, Nat.le_refl _, fun j u hu => ⟨W.heap.size, 0, rfl, trivial, by
    rw [List.flatMap_cons, List.flatMap_nil, List.append_nil] at hu
    rw [Nat.zero_add]
    exact (Blk.new W (enc a) t).cell hu⟩⟩
section
variable {α : Type} {enc : α → List Value} {k : Nat}
theorem flatK_set (hk : ∀ a, (enc a).length = k) : ∀ (L : List α) (i : Nat) (h : i < L.length) (f : Nat) (u : Value) (a : α), f < k → enc a = (enc L[i]).set f u → (L.flatMap enc).set (i * k + f) u = (L.set i a).flatMap enc
  | [], i, h, f, u, a, _, _ => by simp at h
  | y :: L, 0, h, f, u, a, hf, ha => by
    rw [Nat.zero_mul, Nat.zero_add, List.flatMap_cons, List.set_append_left _ _ (by rw [hk]; exact hf), List.set_cons_zero, List.flatMap_cons, ha]
    rfl
  | y :: L, i + 1, h, f, u, a, hf, ha => by
    have ih := flatK_set hk L i (by simpa using h) f u a hf ha
    have e1 : (i + 1) * k + f = (enc y).length + (i * k + f) := by rw [hk, Nat.succ_mul]; omega
    rw [List.flatMap_cons, e1, List.set_append_right _ _ (by omega), Nat.add_sub_cancel_left, ih, List.set_cons_succ, List.flatMap_cons]
theorem ownK_set (hk : ∀ a, (enc a).length = k) {e : TypeId} {base g n c : Nat} {L : List α} {W : World} (h : OwnK enc k e base (.slice (some ⟨g, 0, none⟩) n c) L W) {i f : Nat} (hi : i < L.length) (hf : f < k) {u : Value} {a : α} (ha : enc a = (enc L[i]).set f u) {q : Nat} (hq : q = i * k + f) :
    OwnK enc k e base (.slice (some ⟨g, 0, none⟩) n c) (L.set i a) (W.setCell ⟨g, q, none⟩ u) := by
  subst hq
  have hl := h.1
  rcases h.2 with ⟨e1, _⟩ | ⟨g', cap, cur, e1, hb, hg, hn, hc, hs, ht⟩
  · cases e1
  · injection e1 with e1 e2 e3
    injection e1 with e1
    injection e1 with e1
    subst e1 e2 e3
    have hblk : Blk W g cur.toList e := by show W.heap[g]? = some (.cells cur.toList.toArray e (0, 0)); rw [hg]
    have hset := hblk.set (i * k + f) u
    refine ⟨?_, .inr ⟨g, c, _, by rw [List.length_set], hb, hset, by rw [List.length_set]; exact hn, hc, ?_, ?_⟩⟩
    · rw [← flatK_set hk L i hi f u a hf ha, List.length_set, List.length_set]; exact hl
    · rw [List.size_toArray, List.length_set, Array.length_toList]; exact hs
    · rw [List.toList_toArray, List.length_set, List.take_set, ht, flatK_set hk L i hi f u a hf ha]
end

theorem RK.oneN {α : Type} {enc : α → List Value} (a : α) (t : TypeId) (W : World) (n : Nat) (hn : n = W.heap.size) (cs : Array Value) (hc : cs = (enc a).toArray) : RK enc (fun _ => True) (.slice (some ⟨n, 0, none⟩) 1 1) [a] (W.alloc (.cells cs t)) := by
  subst hn hc
  exact RK.one a t W
/-- append(v, y...) at the operation, in plain mode; something is appended. -/
theorem wpList_apK {α : Type} {enc : α → List Value} {P : Program} {k : Nat} (hk : ∀ a, (enc a).length = k) (h0 : 0 < k) (henc : ∀ a, ∀ u ∈ enc a, u.oneCell' = true) {x : Nat → Prop} {w : World} {t e : TypeId} {z : Value} {bytes : Nat} (h1 : P.underlying t = some (.slice e))
    (h2 : (P.info? e).map (fun i => (i.zero, i.size, i.bytes)) = some (some z, k, bytes)) (hz : z.cells.size = k) (b2 : bytes ≤ 1000) {ops : Array Oper} {rest : List Oper} {o : Oper} {a : Act} {Q : Exit → Act → World → Prop} (hg : o.guard = none)
    (s y : Operand) (hop : o.op = Op.call { callee := Callee.builtin Builtin.append, args := #[s, y], argTypes := #[t, t] })
    (base : Nat) (v : Value) (l : List α) (hs : a.eval s = v) (hown : OwnK enc k e base v l w) (yv : Value) (news : List α) (hne : news ≠ []) (hy : a.eval y = yv) (hr : RK enc x yv news w) (b1 : l.length + news.length ≤ 1000000) (hb : base ≤ w.heap.size)
    (hK : ∀ g cap w', OwnK enc k e base (.slice (some ⟨g, 0, none⟩) (l ++ news).length cap) (l ++ news) w' → w.grownBy w' v.ownBlock → (v.ownBlock = some g ∨ g = w.heap.size) → wpList P ops Q rest (a.put o.dst (.slice (some ⟨g, 0, none⟩) (l ++ news).length cap)) w') :
    wpList P ops Q (o :: rest) a w := by
  refine wpList_plain hg fun K' hK' => ?_
  obtain ⟨v', w', hrun, r1, r2, r3⟩ := run_apRK (P := P) hk h0 henc w base t o.type e z bytes h1 h2 hz v l hown yv news hr b1 b2 hb
  obtain ⟨ao, cap, rfl, hf⟩ := ownK_form r1
  obtain ⟨g, rfl⟩ := hf (by simp [hne])
  unfold Oper.wp
  simp [execOp, hop, resolve, invoke, builtin, hs, hy, hrun, Result.andThen]
  have := hK g cap w' r1 r2 (r3.imp (fun e => e.symm) (fun e => by simpa [Value.ownBlock] using e))
  simp only [List.length_append] at this
  exact hK' _ _ this
theorem wpListIn_apK {F : Fence} {nF : Nat} {α : Type} {enc : α → List Value} {P : Program} {k : Nat} (hk : ∀ a, (enc a).length = k) (h0 : 0 < k) (henc : ∀ a, ∀ u ∈ enc a, u.oneCell' = true) {x : Nat → Prop} {w : World} {t t' e : TypeId} {z : Value} {bytes : Nat} (h1 : P.underlying t = some (.slice e))
    (h2 : (P.info? e).map (fun i => (i.zero, i.size, i.bytes)) = some (some z, k, bytes)) (hz : z.cells.size = k) (b2 : bytes ≤ 1000) {ops : Array Oper} {rest : List Oper} {o : Oper} {a : Act} {Q : Exit → Act → World → Prop} (hg : o.guard = none)
    (s y : Operand) (hop : o.op = Op.call { callee := Callee.builtin Builtin.append, args := #[s, y], argTypes := #[t, t'] }) (ht : t' = t)
    (base : Nat) (v : Value) (l : List α) (hs : a.eval s = v) (hown : OwnK enc k e base v l w) (yv : Value) (news : List α) (hne : news ≠ []) (hy : a.eval y = yv) (hr : RK enc x yv news w) (b1 : l.length + news.length ≤ 1000000) (hb : base ≤ w.heap.size)
    (hK : ∀ g cap w', OwnK enc k e base (.slice (some ⟨g, 0, none⟩) (l ++ news).length cap) (l ++ news) w' → w.grownBy w' v.ownBlock → (v.ownBlock = some g ∨ g = w.heap.size) → wpListIn F nF P ops Q rest (a.put o.dst (.slice (some ⟨g, 0, none⟩) (l ++ news).length cap)) w') :
    wpListIn F nF P ops Q (o :: rest) a w := by
  subst ht
  refine wpListIn_plain hg fun K' hK' => ?_
  obtain ⟨v', w', hrun, r1, r2, r3⟩ := run_apRK (P := P) hk h0 henc w base t' o.type e z bytes h1 h2 hz v l hown yv news hr b1 b2 hb
  obtain ⟨ao, cap, rfl, hf⟩ := ownK_form r1
  obtain ⟨g, rfl⟩ := hf (by simp [hne])
  unfold Oper.wpIn
  refine ⟨?_, ?_⟩
  · simp [Oper.about, hop, resolve, Target.leads, Sem.run_pure]
  · rw [Oper.semAt_plain F _ _ (by rw [hop]; intro c hc'; cases hc')]
    simp [execOp, hop, resolve, invoke, builtin, hs, hy, hrun, Result.andThen]
    have := hK g cap w' r1 r2 (r3.imp (fun e => e.symm) (fun e => by simpa [Value.ownBlock] using e))
    simp only [List.length_append] at this
    exact hK' _ _ this
/-- s[:m] of what the call owns. -/
theorem ownK_take {α : Type} {enc : α → List Value} {k : Nat} (hk : ∀ a, (enc a).length = k) {e : TypeId} {base g n c : Nat} {L : List α} {W : World} (h : OwnK enc k e base (.slice (some ⟨g, 0, none⟩) n c) L W) (m : Nat) (hm : m ≤ L.length) :
    OwnK enc k e base (.slice (some ⟨g, 0, none⟩) m c) (L.take m) W := by
  have hml : (L.take m).length = m := by rw [List.length_take]; omega
  have hl := h.1
  rcases h.2 with ⟨e1, _⟩ | ⟨g', cap, cur, e1, hb, hg, hn, hc, hs, ht⟩
  · cases e1
  · injection e1 with e1 e2 e3
    injection e1 with e1
    injection e1 with e1
    subst e1 e2 e3
    refine ⟨by rw [flat_len enc k hk], .inr ⟨g, c, cur, by rw [hml], hb, hg, by omega, hc, hs, ?_⟩⟩
    rw [hml]
    have e2 : (L.take m).flatMap enc = (L.flatMap enc).take (m * k) := by
      have h1 : L.flatMap enc = (L.take m).flatMap enc ++ (L.drop m).flatMap enc := by rw [← List.flatMap_append, List.take_append_drop]
      have h2 : ((L.take m).flatMap enc ++ (L.drop m).flatMap enc).take (m * k) = (L.take m).flatMap enc := List.take_left' (by rw [flat_len enc k hk, hml])
      rw [← h1] at h2
      exact h2.symm
    rw [e2, ← ht, List.take_take]
    congr 1
    exact (Nat.min_eq_left (Nat.mul_le_mul_right k (by omega))).symm
end Go.Proofs.Ytmgnjkjldmjpfaa
