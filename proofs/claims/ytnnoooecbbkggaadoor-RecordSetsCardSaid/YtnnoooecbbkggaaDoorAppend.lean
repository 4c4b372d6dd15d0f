/- append onto a slice that the call owns: what it leaves alone. -/
import Derived.Maps.AppendAt
import Derived.Lib.AppendStr
import Derived.Lib.Hide
import Derived.OwnWalkIn
import Derived.Laws.IdiomStrings
import Derived.RangeFuncBox
import Derived.Below
namespace Go.Proofs.YtnnoooecbbkggaaDoor
open Go Go.RowKit

variable {P : Program}

/-- A slice of one-cell elements that the call owns, from block base on. -/
def OwnE {α : Type} (enc : α → Value) (e : TypeId) (base : Nat) (v : Value) (l : List α) (W : World) : Prop := W.ownsRow base e 1 v l.length (l.map enc)

/-- What an append leaves alone. -/
structure Apd (base : Nat) (v : Value) (ne : Prop) (w w' : World) : Prop where
  below : Below base w w'
  others : KeepsOthers w w'
  boxed : (v = .slice none 0 0 ∨ ne) → ∀ k t u, Boxed w k t u → Boxed w' k t u
  other : ∀ (k : Nat) (o : Obj), some k ≠ v.ownBlock → w.heap[k]? = some o → w'.heap[k]? = some o

theorem ownE_nil {α : Type} (enc : α → Value) (e : TypeId) (base : Nat) (W : World) : OwnE enc e base (.slice none 0 0) [] W := World.ownsRow_nil W base e 1

theorem ownE_form {α : Type} {enc : α → Value} {e : TypeId} {base : Nat} {v : Value} {l : List α} {W : World} (h : OwnE enc e base v l W) : (v = .slice none 0 0 ∧ l = []) ∨ ∃ g cap, v = .slice (some ⟨g, 0, none⟩) l.length cap := by
  rcases h.2 with ⟨rfl, hn⟩ | ⟨g, cap, cur, rfl, _⟩
  · exact .inl ⟨rfl, List.length_eq_zero_iff.1 hn⟩
  · exact .inr ⟨g, cap, rfl⟩
theorem ownE_cell {α : Type} {enc : α → Value} {e : TypeId} {base g cap n : Nat} {l : List α} {W : World} (h : OwnE enc e base (.slice (some ⟨g, 0, none⟩) n cap) l W) {j : Nat} (hj : j < l.length) : W.cell? ⟨g, 0 + j, none⟩ = some (enc l[j]) := by
  have := World.ownsRow.cells h (g := g) rfl j (enc l[j]) (by simp [hj])
  have e : (⟨g, 0, none⟩ : Addr).add j = ⟨g, 0 + j, none⟩ := by unfold Addr.add; split <;> simp_all
  rwa [e] at this
theorem ownE_alloc {α : Type} {enc : α → Value} {e : TypeId} {base : Nat} {v : Value} {l : List α} {W : World} (h : OwnE enc e base v l W) (o : Obj) : OwnE enc e base v l (W.alloc o) := World.ownsRow.alloc h o
theorem ownE_below {α : Type} {enc : α → Value} {e : TypeId} {base : Nat} {v : Value} {l : List α} {W W' : World} (h : OwnE enc e base v l W) (hb : Below W.heap.size W W') : OwnE enc e base v l W' :=
  World.ownsRow.kept h (row := none) ⟨hb.os, hb.tape, hb.output, hb.size, fun k hk _ => hb.block k hk⟩ (by
    rcases h.2 with ⟨rfl, hn⟩ | ⟨g, cap, cur, rfl, _⟩
    · exact .inl rfl
    · exact .inr (by simp [Value.ownBlock]))

theorem ownE_setBox {α : Type} {enc : α → Value} {e : TypeId} {base : Nat} {v : Value} {l : List α} {W : World} {B : Nat} {t : TypeId} {u : Value} (h : OwnE enc e base v l W) (hb : Boxed W B t u) (hte : t ≠ e) (u' : Value) : OwnE enc e base v l (W.setCell ⟨B, 0, none⟩ u') :=
  World.ownsRow.kept h (grownBy_setCell' W B u') (.inr (fun e => hb.not_row hte h e.symm))
theorem apd_of_grown {e base : Nat} {v : Value} {n : Nat} {xs : List Value} {ne : Prop} {w w' : World} (hown : w.ownsRow base e 1 v n xs) (hb : base ≤ w.heap.size) (hg : w.grownBy w' v.ownBlock)
    (hbox : (v = .slice none 0 0 ∨ ne) → ∀ k t u, Boxed w k t u → Boxed w' k t u) : Apd base v ne w w' :=
  ⟨(Below.refl base w).grown hg hb (fun k e => (hown.lt k e).1), KeepsOthers.of_grownBy hg (fun j o e ho => by
    rcases hown.2 with ⟨rfl, _⟩ | ⟨g, cap, cur, rfl, _, hh, _⟩
    · cases e
    · cases e
      rw [hh] at ho
      cases ho
      rfl), hbox, fun k o hk h => (hg.block k (Array.getElem?_eq_some_iff.1 h).1 hk).trans h⟩
theorem Apd.of_alloc {base : Nat} {v : Value} {ne : Prop} {w w' : World} {o : Obj} (h : Apd base v ne (w.alloc o) w') (hb : base ≤ w.heap.size) : Apd base v ne w w' :=
  ⟨((Below.refl base w).alloc hb o).trans h.below, (KeepsOthers.alloc w o).trans h.others, fun hv k t u hbx => h.boxed hv k t u (hbx.alloc o), fun k o' hk hh => h.other k o' hk ((Below.heap_alloc w o k (Array.getElem?_eq_some_iff.1 hh).1).trans hh)⟩

/-- append of m elements that lie somewhere. -/
theorem run_apd {α : Type} (enc : α → Value) (henc : ∀ x, (enc x).oneCell' = true) (w : World) (base : Nat) (t ty e : TypeId) (z : Value) (bytes : Nat) (h1 : P.underlying t = some (.slice e))
    (h2 : (P.info? e).map (fun i => (i.zero, i.size, i.bytes)) = some (some z, 1, bytes)) (hz : z.cells.size = 1) (v : Value) (l : List α) (hown : OwnE enc e base v l w) (ad : Addr) (m c : Nat) (news : List α) (hm : news.length = m)
    (hc : ∀ j u, (news.map enc)[j]? = some u → w.cell? (ad.add j) = some u) (b1 : l.length + m ≤ 1000000) (b2 : bytes ≤ 1000) (hb : base ≤ w.heap.size) :
    ∃ v' w', (Builtin.append_ #[t, t] ty #[v, .slice (some ad) m c]).run P w = .ok v' w' ∧ OwnE enc e base v' (l ++ news) w' ∧ Apd base v (l ≠ []) w w' ∧ (v' = .slice none 0 0 ↔ v = .slice none 0 0 ∧ m = 0) := by
  obtain ⟨i, hi, hz0, hz1, hz2⟩ := info_parts h2
  have hlim : (l.length + m) * bytes ≤ 140737488355328 := Nat.le_trans (Nat.mul_le_mul b1 b2) (by decide)
  have hmax : l.length + m ≤ maxLen := Nat.le_trans b1 (by unfold maxLen; decide)
  have h1c : ∀ u ∈ news.map enc, u.oneCell' = true := fun u hu => by obtain ⟨x, _, rfl⟩ := List.mem_map.1 hu; exact henc x
  have hlen : (news.map enc).length = m * i.size := by rw [List.length_map, hm, hz1, Nat.mul_one]
  obtain ⟨v', w', hr, ho, hg, hnil⟩ := run_append_own (P := P) w base t ty e i z 1 bytes h1 hi hz0 hz1 hz2 hz (by decide) v l.length (l.map enc) hown ad m c (news.map enc) (by simp [hm]) hc h1c hmax hlim hb
  refine ⟨v', w', hr, by unfold OwnE; rw [List.map_append, List.length_append, hm]; exact ho, apd_of_grown hown hb hg ?_, hnil⟩
  intro hv k tk u hbx
  rcases hown.2 with ⟨rfl, hn⟩ | ⟨g, cap, cur, rfl, hbg, hh, hnc, hcm, hcs, htake⟩
  · exact hbx.kept hg (by simp [Value.ownBlock])
  · by_cases hkg : k = g
    · subst hkg
      have hcur : Obj.cells cur e (0, 0) = .cells #[u] tk (0, 0) := Option.some.inj (hh.symm.trans hbx)
      have hc1 : cur = #[u] := by injection hcur
      have hcap : cap = 1 := by rw [hc1] at hcs; simp at hcs; omega
      have hl1 : l ≠ [] := hv.elim (fun e => by cases e) id
      have hl2 : 1 ≤ l.length := List.length_pos_iff.2 hl1
      by_cases hm0 : m = 0
      · have hr2 := run_append_room (P := P) w t ty e i h1 hi k l.length cap cur hh ad m c (news.map enc) hlen hc h1c (by omega) (by rw [hlen, hz1]; omega)
        rw [hr] at hr2
        have hw : w' = _ := (Result.ok.inj hr2).2
        have hn0 : news = [] := List.length_eq_zero_iff.1 (by omega)
        rw [hw]
        have := setRow_heap w k cur (List.take (l.length * i.size) cur.toList ++ news.map enc ++ List.drop (l.length * i.size + (news.map enc).length) cur.toList).toArray e (0, 0) hh
        rw [hn0] at this ⊢
        simp only [List.map_nil, List.append_nil, List.length_nil, Nat.add_zero, List.take_append_drop, Array.toArray_toList] at this ⊢
        unfold Boxed
        rw [this, hcur]
      · have hr2 := run_append_grow (P := P) w t ty e i z h1 hi hz0 ⟨k, 0, none⟩ l.length cap (l.map enc) (by rw [List.length_map, hz1, Nat.mul_one]) (World.ownsRow.cells hown rfl) ad m c (news.map enc) hlen hc (by omega) (by have := b1; omega) (growslice_fits (by omega) (by rw [hz2]; exact hlim))
        rw [hr] at hr2
        have hw : w' = _ := (Result.ok.inj hr2).2
        rw [hw]
        exact Boxed.alloc (W := w.drew) hbx _
    · exact hbx.kept hg (by simp [Value.ownBlock]; exact hkg)

/-- At the operation. -/
theorem wpListIn_apd {α : Type} {F : Fence} {n : Nat} (w : World) {ops : Array Oper} {rest : List Oper} {o : Oper} {a : Act} {Q : Exit → Act → World → Prop} (hg : o.guard = none) (s x : Operand) (t : TypeId)
    (hop : o.op = Op.call { callee := Callee.builtin Builtin.append, args := #[s, x], argTypes := #[t, t] })
    (enc : α → Value) (henc : ∀ x, (enc x).oneCell' = true) (base : Nat) (e : TypeId) (z : Value) (bytes : Nat) (h1 : P.underlying t = some (.slice e))
    (h2 : (P.info? e).map (fun i => (i.zero, i.size, i.bytes)) = some (some z, 1, bytes)) (hz : z.cells.size = 1) (v : Value) (l : List α) (hs : a.eval s = v) (hown : OwnE enc e base v l w) (ad : Addr) (m c : Nat) (news : List α) (hx : a.eval x = .slice (some ad) m c) (hm : news.length = m)
    (hc : ∀ j u, (news.map enc)[j]? = some u → w.cell? (ad.add j) = some u) (b1 : l.length + m ≤ 1000000) (b2 : bytes ≤ 1000) (hb : base ≤ w.heap.size)
    (hK : ∀ v' w', OwnE enc e base v' (l ++ news) w' → Apd base v (l ≠ []) w w' → (v' = .slice none 0 0 ↔ v = .slice none 0 0 ∧ m = 0) → wpListIn F n P ops Q rest (a.put o.dst v') w') :
    wpListIn F n P ops Q (o :: rest) a w := by
  refine wpListIn_plain hg fun K hK' => ?_
  obtain ⟨v', w', hrun, r1, r2, r3⟩ := run_apd (P := P) enc henc w base t o.type e z bytes h1 h2 hz v l hown ad m c news hm hc b1 b2 hb
  unfold Oper.wpIn
  refine ⟨?_, ?_⟩
  · simp [Oper.about, hop, resolve, Target.leads, Sem.run_pure]
  · rw [Oper.semAt_plain F _ _ (by rw [hop]; intro c hc'; cases hc')]
    simp [execOp, hop, resolve, invoke, builtin, hs, hx, hrun, Result.andThen]
    exact hK' _ _ (hK v' w' r1 r2 r3)

theorem cells_new (w : World) (xs : List Value) (t : TypeId) : ∀ j u, xs[j]? = some u → (w.alloc (.cells xs.toArray t)).cell? ((⟨w.heap.size, 0, none⟩ : Addr).add j) = some u := by
  intro j u hj
  have e : (⟨w.heap.size, 0, none⟩ : Addr).add j = ⟨w.heap.size, 0 + j, none⟩ := by unfold Addr.add; split <;> simp_all
  rw [e]
  have hh : (w.alloc (.cells xs.toArray t)).heap[w.heap.size]? = some (.cells xs.toArray t) := World.alloc_heap_new w _
  show (match (w.alloc (.cells xs.toArray t)).heap[w.heap.size]? with | some (.cells c _ _) => c[0 + j]? | _ => none) = some u
  rw [hh]
  simp [hj]
def encB (c : UInt8) : Value := .int .u8 (c.toNat : Int)
theorem encB_one (c : UInt8) : (encB c).oneCell' = true := rfl
theorem strCells_enc (l : List UInt8) : Lib.strCells ⟨l.toArray⟩ = l.map encB := by
  unfold Lib.strCells
  first | rfl | simp [encB]

/-- append(s, x...), x a string. -/
theorem wpListIn_apd_string {F : Fence} {n : Nat} (w : World) {ops : Array Oper} {rest : List Oper} {o : Oper} {a : Act} {Q : Exit → Act → World → Prop} (hg : o.guard = none) (s x : Operand) (t u : TypeId)
    (hop : o.op = Op.call { callee := Callee.builtin Builtin.append, args := #[s, x], argTypes := #[t, u] })
    (base : Nat) (e : TypeId) (h1 : P.underlying t = some (.slice e)) (hu : P.underlying u = some .string)
    (h2 : (P.info? e).map (fun i => (i.zero, i.size, i.bytes)) = some (some (.int .u8 0), 1, 1)) (v : Value) (l : List UInt8) (hs : a.eval s = v) (hown : OwnE encB e base v l w) (news : List UInt8) (hx : a.eval x = .string ⟨news.toArray⟩)
    (b1 : l.length + news.length ≤ 1000000) (hb : base ≤ w.heap.size)
    (hK : ∀ v' w', OwnE encB e base v' (l ++ news) w' → Below base w w' → (v' = .slice none 0 0 ↔ v = .slice none 0 0 ∧ news.length = 0) → wpListIn F n P ops Q rest (a.put o.dst v') w') :
    wpListIn F n P ops Q (o :: rest) a w := by
  obtain ⟨i, hi, hz0, hz1, hz2⟩ := info_parts h2
  refine wpListIn_plain hg fun K hK' => ?_
  have hsz : (⟨news.toArray⟩ : ByteArray).size = news.length := by show news.toArray.size = _; simp
  obtain ⟨v', w', hrun, r1, r2, r3⟩ := Lib.run_append_own_string (P := P) w base t u o.type e i h1 hu hi hz0 hz1 hz2 v l.length (l.map encB) hown ⟨news.toArray⟩ (by rw [hsz]; exact Nat.le_trans b1 (by unfold maxLen; decide)) (by rw [hsz]; omega) hb
  rw [hsz, strCells_enc] at r1
  rw [hsz] at r3
  unfold Oper.wpIn
  refine ⟨?_, ?_⟩
  · simp [Oper.about, hop, resolve, Target.leads, Sem.run_pure]
  · rw [Oper.semAt_plain F _ _ (by rw [hop]; intro c hc'; cases hc')]
    simp [execOp, hop, resolve, invoke, builtin, hs, hx, hrun, Result.andThen]
    exact hK' _ _ (hK v' w' (by unfold OwnE; rw [List.map_append, List.length_append]; exact r1) ((Below.refl base w).grown r2 hb (fun k e => (World.ownsRow.lt hown k e).1)) r3)

/-- string(b) of an owned slice of bytes. -/
theorem run_str {src dst e : TypeId} (hs : P.underlying src = some (.slice e)) (he : P.underlying e = some (.int .u8)) (hd : P.underlying dst = some .string) {base : Nat} {v : Value} {l : List UInt8} {W : World} (hown : OwnE encB e base v l W) :
    (convert src dst v).run P W = .ok (.string ⟨l.toArray⟩) W := by
  rcases hown.2 with ⟨rfl, hn⟩ | ⟨g, cap, cur, rfl, hbg, hh, hnc, hcm, hcs, htake⟩
  · have : l = [] := List.length_eq_zero_iff.1 hn
    subst this
    simp [convert, run_underlying, hs, he, hd, go_sem, Conv.bytesToString]
    rfl
  · exact run_convert_bytes_back W src dst e ⟨g, 0, none⟩ cap l hs he hd (fun j hj => World.ownsRow.cells hown rfl j _ (by simp [encB, hj]))

end Go.Proofs.YtnnoooecbbkggaaDoor
