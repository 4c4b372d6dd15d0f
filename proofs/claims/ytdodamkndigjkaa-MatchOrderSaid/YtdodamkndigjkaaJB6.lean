/- append onto a slice of structs that the call owns; slices of names' places and of records, read. -/
import Derived.RangeFuncBox
import Derived.Test.YtdodamkndigjkaaJB2
import Derived.Test.YtdodamkndigjkaaJB4
/- append onto a slice of structs that the call owns; slices of names' places and of records, read. -/
namespace Go.Proofs.Ytdodamkndigjkaa
open Go Go.RowKit

theorem flat_get {α : Type} (enc : α → List Value) (k : Nat) (hk : ∀ x, (enc x).length = k) : ∀ (l : List α) (j i : Nat) (hj : j < l.length), i < k → (l.flatMap enc)[j * k + i]? = (enc l[j])[i]?
  | [], j, i, hj, _ => by simp at hj
  | x :: l, 0, i, _, hi => by
    rw [List.flatMap_cons, List.getElem?_append_left (by rw [hk]; omega), Nat.zero_mul, Nat.zero_add]
    rfl
  | x :: l, j + 1, i, hj, hi => by
    have e : (j + 1) * k + i = k + (j * k + i) := by rw [Nat.add_mul]; omega
    rw [List.flatMap_cons, List.getElem?_append_right (by rw [hk]; omega), hk, e, Nat.add_sub_cancel_left]
    exact flat_get enc k hk l j i (by simpa using hj) hi
theorem flat_len {α : Type} (enc : α → List Value) (k : Nat) (hk : ∀ x, (enc x).length = k) (l : List α) : (l.flatMap enc).length = l.length * k := by
  induction l with
  | nil => simp
  | cons x l ih => rw [List.flatMap_cons, List.length_append, hk, ih, List.length_cons, Nat.add_mul]; omega

/-- A slice of elements of k cells that the call owns, from block base on. -/
def OwnK {α : Type} (enc : α → List Value) (k : Nat) (e : TypeId) (base : Nat) (v : Value) (l : List α) (W : World) : Prop := W.ownsRow base e k v l.length (l.flatMap enc)
theorem ownK_nil {α : Type} (enc : α → List Value) (k : Nat) (e : TypeId) (base : Nat) (W : World) : OwnK enc k e base (.slice none 0 0) [] W := World.ownsRow_nil W base e k
theorem ownK_grown {α : Type} {enc : α → List Value} {k : Nat} {e : TypeId} {base : Nat} {v : Value} {l : List α} {W W' : World} {row : Option Nat} (h : OwnK enc k e base v l W) (hg : W.grownBy W' row) (hr : ∀ g, v.ownBlock = some g → row ≠ some g) : OwnK enc k e base v l W' :=
  World.ownsRow.kept h hg (by
    cases hv : v.ownBlock with
    | none => exact .inl rfl
    | some g => exact .inr (fun e => hr g hv e.symm))
theorem ownK_below {α : Type} {enc : α → List Value} {k : Nat} {e : TypeId} {base : Nat} {v : Value} {l : List α} {W W' : World} (h : OwnK enc k e base v l W) (hb : Below W.heap.size W W') : OwnK enc k e base v l W' :=
  ownK_grown (row := none) h ⟨hb.os, hb.tape, hb.output, hb.size, fun k hk _ => hb.block k hk⟩ (fun _ _ e => by cases e)
theorem ownK_alloc {α : Type} {enc : α → List Value} {k : Nat} {e : TypeId} {base : Nat} {v : Value} {l : List α} {W : World} (h : OwnK enc k e base v l W) (o : Obj) : OwnK enc k e base v l (W.alloc o) := World.ownsRow.alloc h o
/-- What lies in a row of the type e, and what lies in a box of another. -/
theorem ownK_box {α : Type} {enc : α → List Value} {k : Nat} {e : TypeId} {base : Nat} {v : Value} {l : List α} {W : World} (h : OwnK enc k e base v l W) {B : Nat} {t : TypeId} {u : Value} (hb : Boxed W B t u) (hte : t ≠ e) : v.ownBlock ≠ some B := by
  rcases h.2 with ⟨rfl, _⟩ | ⟨g, cap, cur, rfl, _, hh, _⟩
  · simp [Value.ownBlock]
  · intro e1
    simp only [Value.ownBlock, Option.some.injEq] at e1
    subst e1
    have hx : W.heap[g]? = some (.cells #[u] t (0, 0)) := hb
    rw [hh] at hx
    injection hx with hx
    injection hx with _ h2
    exact hte h2.symm
theorem ownK_form {α : Type} {enc : α → List Value} {k : Nat} {e : TypeId} {base : Nat} {v : Value} {l : List α} {W : World} (h : OwnK enc k e base v l W) : ∃ ao cap, v = .slice ao l.length cap ∧ (l ≠ [] → ∃ g, ao = some ⟨g, 0, none⟩) := by
  rcases h.2 with ⟨rfl, hn⟩ | ⟨g, cap, cur, rfl, _⟩
  · exact ⟨none, 0, by rw [List.length_eq_zero_iff.1 hn]; rfl, fun hl => absurd (List.length_eq_zero_iff.1 hn) hl⟩
  · exact ⟨some ⟨g, 0, none⟩, cap, rfl, fun _ => ⟨g, rfl⟩⟩
theorem ownK_cell {α : Type} {enc : α → List Value} {k : Nat} (hk : ∀ x, (enc x).length = k) {e : TypeId} {base g cap n : Nat} {l : List α} {W : World} (h : OwnK enc k e base (.slice (some ⟨g, 0, none⟩) n cap) l W) {j i : Nat} (hj : j < l.length) (hi : i < k) :
    W.cell? ⟨g, 0 + j * k + i, none⟩ = (enc l[j])[i]? := by
  have hx := flat_get enc k hk l j i hj hi
  obtain ⟨u, hu⟩ : ∃ u, (enc l[j])[i]? = some u := ⟨_, List.getElem?_eq_getElem (by rw [hk l[j]]; exact hi)⟩
  have := World.ownsRow.cells h (g := g) rfl (j * k + i) u (by rw [hx, hu])
  have e1 : (⟨g, 0, none⟩ : Addr).add (j * k + i) = ⟨g, 0 + (j * k + i), none⟩ := by unfold Addr.add; split <;> simp_all
  rw [e1] at this
  rw [hu, ← this, Nat.add_assoc]

theorem run_apk {α : Type} {P : Program} (enc : α → List Value) (k : Nat) (hk : ∀ x, (enc x).length = k) (h0 : 0 < k) (henc : ∀ x, ∀ u ∈ enc x, u.oneCell' = true) (w : World) (base : Nat) (t ty e : TypeId) (z : Value) (bytes : Nat) (h1 : P.underlying t = some (.slice e))
    (h2 : (P.info? e).map (fun i => (i.zero, i.size, i.bytes)) = some (some z, k, bytes)) (hz : z.cells.size = k) (v : Value) (l : List α) (hown : OwnK enc k e base v l w) (ad : Addr) (m c : Nat) (news : List α) (hm : news.length = m)
    (hc : ∀ j u, (news.flatMap enc)[j]? = some u → w.cell? (ad.add j) = some u) (b1 : l.length + m ≤ 1000000) (b2 : bytes ≤ 1000) (hb : base ≤ w.heap.size) :
    ∃ v' w', (Builtin.append_ #[t, t] ty #[v, .slice (some ad) m c]).run P w = .ok v' w' ∧ OwnK enc k e base v' (l ++ news) w' ∧ w.grownBy w' v.ownBlock ∧ (v'.ownBlock = v.ownBlock ∨ v'.ownBlock = some w.heap.size) := by
  obtain ⟨i, hi, hz0, hz1, hz2⟩ := info_parts h2
  have hlim : (l.length + m) * bytes ≤ 140737488355328 := Nat.le_trans (Nat.mul_le_mul b1 b2) (by decide)
  have hmax : l.length + m ≤ maxLen := Nat.le_trans b1 (by unfold maxLen; decide)
  have h1c : ∀ u ∈ news.flatMap enc, u.oneCell' = true := fun u hu => by obtain ⟨x, _, hx⟩ := List.mem_flatMap.1 hu; exact henc x u hx
  obtain ⟨v', w', hr, ho, hg, _, hat⟩ := run_append_own_at (P := P) w base t ty e i z k bytes h1 hi hz0 hz1 hz2 hz h0 v l.length (l.flatMap enc) hown ad m c (news.flatMap enc) (by rw [flat_len enc k hk, hm]) hc h1c hmax hlim hb
  exact ⟨v', w', hr, by unfold OwnK; rw [List.flatMap_append, List.length_append, hm]; exact ho, hg, hat⟩

/-- At the operation. -/
theorem wpListIn_apk {α : Type} {P : Program} {F : Fence} {n : Nat} (w : World) {ops : Array Oper} {rest : List Oper} {o : Oper} {a : Act} {Q : Exit → Act → World → Prop} (hg : o.guard = none) (s x : Operand) (t : TypeId)
    (hop : o.op = Op.call { callee := Callee.builtin Builtin.append, args := #[s, x], argTypes := #[t, t] })
    (enc : α → List Value) (k : Nat) (hk : ∀ x, (enc x).length = k) (h0 : 0 < k) (henc : ∀ x, ∀ u ∈ enc x, u.oneCell' = true) (base : Nat) (e : TypeId) (z : Value) (bytes : Nat) (h1 : P.underlying t = some (.slice e))
    (h2 : (P.info? e).map (fun i => (i.zero, i.size, i.bytes)) = some (some z, k, bytes)) (hz : z.cells.size = k) (v : Value) (l : List α) (hs : a.eval s = v) (hown : OwnK enc k e base v l w) (ad : Addr) (m c : Nat) (news : List α) (hx : a.eval x = .slice (some ad) m c) (hm : news.length = m)
    (hc : ∀ j u, (news.flatMap enc)[j]? = some u → w.cell? (ad.add j) = some u) (b1 : l.length + m ≤ 1000000) (b2 : bytes ≤ 1000) (hb : base ≤ w.heap.size)
    (hK : ∀ v' w', OwnK enc k e base v' (l ++ news) w' → w.grownBy w' v.ownBlock → (v'.ownBlock = v.ownBlock ∨ v'.ownBlock = some w.heap.size) → wpListIn F n P ops Q rest (a.put o.dst v') w') :
    wpListIn F n P ops Q (o :: rest) a w := by
  refine wpListIn_plain hg fun K hK' => ?_
  obtain ⟨v', w', hrun, r1, r2, r3⟩ := run_apk (P := P) enc k hk h0 henc w base t o.type e z bytes h1 h2 hz v l hown ad m c news hm hc b1 b2 hb
  unfold Oper.wpIn
  refine ⟨?_, ?_⟩
  · simp [Oper.about, hop, resolve, Target.leads, Sem.run_pure]
  · rw [Oper.semAt_plain F _ _ (by rw [hop]; intro c hc'; cases hc')]
    simp [execOp, hop, resolve, invoke, builtin, hs, hx, hrun, Result.andThen]
    exact hK' _ _ (hK v' w' r1 r2 r3)
theorem below_ownK {α : Type} {enc : α → List Value} {k : Nat} {e : TypeId} {base : Nat} {v : Value} {l : List α} {w w' : World} (h : OwnK enc k e base v l w) (hg : w.grownBy w' v.ownBlock) (hb : base ≤ w.heap.size) : Below base w w' :=
  (Below.refl base w).grown hg hb (fun k e => (World.ownsRow.lt h k e).1)

/-! Names' places. -/
def encP (p : Nat × Nat) : List Value := [.int .i64 (p.1 : Int), .int .i64 (p.2 : Int)]
theorem encP_len (p : Nat × Nat) : (encP p).length = 2 := rfl
theorem encP_one (p : Nat × Nat) : ∀ u ∈ encP p, u.oneCell' = true := fun u hu => by
  simp only [encP, List.mem_cons, List.not_mem_nil, or_false] at hu
  rcases hu with rfl | rfl <;> rfl
theorem infoP : (Try.prog.info? 135).map (fun i => (i.zero, i.size, i.bytes)) = some (some (.agg #[.int .i64 0, .int .i64 0]), 2, 16) := by kernel_rfl
structure ReadP (v : Value) (ps : List (Nat × Nat)) (W : World) : Prop where
  form : ∃ ao cap, v = .slice ao ps.length cap ∧ ∀ (j : Nat) (h : j < ps.length), ∃ g off, ao = some ⟨g, off, none⟩ ∧ W.cell? ⟨g, off + j * 2, none⟩ = some (.int .i64 (ps[j].1 : Int)) ∧ W.cell? ⟨g, off + j * 2 + 1, none⟩ = some (.int .i64 (ps[j].2 : Int))
theorem readP_nil (W : World) : ReadP (.slice none 0 0) [] W := ⟨none, 0, rfl, fun j hj => by simp at hj⟩
theorem readP_own {base : Nat} {v : Value} {ps : List (Nat × Nat)} {W : World} (h : OwnK encP 2 135 base v ps W) : ReadP v ps W := by
  obtain ⟨ao, cap, rfl, hao⟩ := ownK_form h
  refine ⟨ao, cap, rfl, fun j hj => ?_⟩
  obtain ⟨g, rfl⟩ := hao (fun e => by rw [e] at hj; simp at hj)
  exact ⟨g, 0, rfl, ownK_cell encP_len h hj (i := 0) (by omega), ownK_cell encP_len h hj (i := 1) (by omega)⟩
theorem readP_below {v : Value} {ps : List (Nat × Nat)} {W W' : World} (h : ReadP v ps W) (hb : Below W.heap.size W W') : ReadP v ps W' := by
  obtain ⟨ao, cap, rfl, hc⟩ := h.form
  exact ⟨ao, cap, rfl, fun j hj => by
    obtain ⟨g, off, e, c1, c2⟩ := hc j hj
    exact ⟨g, off, e, (hb.cell (cell_lt c1)).trans c1, (hb.cell (cell_lt c2)).trans c2⟩⟩

/-! Records. -/
def rrV (r : Rd.RR) : Value := .agg #[.string ⟨r.name.toArray⟩, .int .i64 r.typ, .int .i64 r.cls, .int .i64 r.ttl, .string ⟨r.data.toArray⟩]
def encRR (r : Rd.RR) : List Value := [.string ⟨r.name.toArray⟩, .int .i64 r.typ, .int .i64 r.cls, .int .i64 r.ttl, .string ⟨r.data.toArray⟩]
theorem encRR_len (r : Rd.RR) : (encRR r).length = 5 := rfl
theorem encRR_one (r : Rd.RR) : ∀ u ∈ encRR r, u.oneCell' = true := fun u hu => by
  simp only [encRR, List.mem_cons, List.not_mem_nil, or_false] at hu
  rcases hu with rfl | rfl | rfl | rfl | rfl <;> rfl
theorem infoRR : (Try.prog.info? 51).map (fun i => (i.zero, i.size, i.bytes)) = some (some (.agg #[.string ⟨#[]⟩, .int .i64 0, .int .i64 0, .int .i64 0, .string ⟨#[]⟩]), 5, 56) := by kernel_rfl
structure ReadR (v : Value) (l : List Rd.RR) (W : World) : Prop where
  form : ∃ ao cap, v = .slice ao l.length cap ∧ ∀ (j : Nat) (h : j < l.length), ∃ g off, ao = some ⟨g, off, none⟩ ∧ W.cell? ⟨g, off + j * 5, none⟩ = some (.string ⟨l[j].name.toArray⟩) ∧ W.cell? ⟨g, off + j * 5 + 1, none⟩ = some (.int .i64 l[j].typ) ∧
    W.cell? ⟨g, off + j * 5 + 2, none⟩ = some (.int .i64 l[j].cls) ∧ W.cell? ⟨g, off + j * 5 + 3, none⟩ = some (.int .i64 l[j].ttl) ∧ W.cell? ⟨g, off + j * 5 + 4, none⟩ = some (.string ⟨l[j].data.toArray⟩)
theorem readR_nil (W : World) : ReadR (.slice none 0 0) [] W := ⟨none, 0, rfl, fun j hj => by simp at hj⟩
theorem readR_own {base : Nat} {v : Value} {l : List Rd.RR} {W : World} (h : OwnK encRR 5 51 base v l W) : ReadR v l W := by
  obtain ⟨ao, cap, rfl, hao⟩ := ownK_form h
  refine ⟨ao, cap, rfl, fun j hj => ?_⟩
  obtain ⟨g, rfl⟩ := hao (fun e => by rw [e] at hj; simp at hj)
  exact ⟨g, 0, rfl, ownK_cell encRR_len h hj (i := 0) (by omega), ownK_cell encRR_len h hj (i := 1) (by omega), ownK_cell encRR_len h hj (i := 2) (by omega), ownK_cell encRR_len h hj (i := 3) (by omega), ownK_cell encRR_len h hj (i := 4) (by omega)⟩
theorem readR_below {v : Value} {l : List Rd.RR} {W W' : World} (h : ReadR v l W) (hb : Below W.heap.size W W') : ReadR v l W' := by
  obtain ⟨ao, cap, rfl, hc⟩ := h.form
  exact ⟨ao, cap, rfl, fun j hj => by
    obtain ⟨g, off, e, c0, c1, c2, c3, c4⟩ := hc j hj
    exact ⟨g, off, e, (hb.cell (cell_lt c0)).trans c0, (hb.cell (cell_lt c1)).trans c1, (hb.cell (cell_lt c2)).trans c2, (hb.cell (cell_lt c3)).trans c3, (hb.cell (cell_lt c4)).trans c4⟩⟩
end Go.Proofs.Ytdodamkndigjkaa
