/- 4 texts put together: Append, Base, Valid, Lay. -/
import Derived.Maps.AppendAt
import Derived.Lib.AppendStr
import Derived.Lib.Hide
import Derived.OwnWalkIn
import Derived.Laws.IdiomStrings
import Derived.RangeFuncBox
import Derived.Below
import Derived.WalkKit
import Derived.BigQuiet
import Derived.Deep.QuietTactic
import Derived.Test.YtdodamkndigjkaaProg
import Derived.Test.YtdodamkndigjkaaJB1
import Derived.Test.YtdodamkndigjkaaJB2
import Derived.Test.YtdodamkndigjkaaJB3
/- append onto a slice that the call owns: what it leaves alone. -/
namespace Go.Proofs.Ytdodamkndigjkaa
open Go Go.RowKit

variable {P : Program}

/-- A slice of one-cell elements that the call owns, from block base on. -/
def OwnE {α : Type} (enc : α → Value) (e : TypeId) (base : Nat) (v : Value) (l : List α) (W : World) : Prop := W.ownsRow base e 1 v l.length (l.map enc)

/-- What an append leaves alone. -/
structure Apd (base : Nat) (v : Value) (ne : Prop) (w w' : World) : Prop where
  below : Below base w w'
  others : KeepsOthers w w'
  boxed : (v = .slice none 0 0 ∨ ne) → ∀ k t u, Boxed w k t u → Boxed w' k t u
  other : ∀ (k : Nat) (o : Obj), some k ≠ v.ownBlock → w.heap[k]? = some o → w'.heap[k]? = some o

theorem ownE_nil {α : Type} (enc : α → Value) (e : TypeId) (base : Nat) (W : World) : OwnE enc e base (.slice none 0 0) [] W := World.ownsRow_nil W base e 1

theorem ownE_form {α : Type} {enc : α → Value} {e : TypeId} {base : Nat} {v : Value} {l : List α} {W : World} (h : OwnE enc e base v l W) : (v = .slice none 0 0 ∧ l = []) ∨ ∃ g cap, v = .slice (some ⟨g, 0, none⟩) l.length cap := by
  rcases h.2 with ⟨rfl, hn⟩ | ⟨g, cap, cur, rfl, _⟩
  · exact .inl ⟨rfl, List.length_eq_zero_iff.1 hn⟩
  · exact .inr ⟨g, cap, rfl⟩
theorem ownE_cell {α : Type} {enc : α → Value} {e : TypeId} {base g cap n : Nat} {l : List α} {W : World} (h : OwnE enc e base (.slice (some ⟨g, 0, none⟩) n cap) l W) {j : Nat} (hj : j < l.length) : W.cell? ⟨g, 0 + j, none⟩ = some (enc l[j]) := by
  have := World.ownsRow.cells h (g := g) rfl j (enc l[j]) (by simp [hj])
  have e : (⟨g, 0, none⟩ : Addr).add j = ⟨g, 0 + j, none⟩ := by unfold Addr.add; split <;> simp_all
  rwa [e] at this
theorem ownE_alloc {α : Type} {enc : α → Value} {e : TypeId} {base : Nat} {v : Value} {l : List α} {W : World} (h : OwnE enc e base v l W) (o : Obj) : OwnE enc e base v l (W.alloc o) := World.ownsRow.alloc h o
theorem ownE_below {α : Type} {enc : α → Value} {e : TypeId} {base : Nat} {v : Value} {l : List α} {W W' : World} (h : OwnE enc e base v l W) (hb : Below W.heap.size W W') : OwnE enc e base v l W' :=
  World.ownsRow.kept h (row := none) ⟨hb.os, hb.tape, hb.output, hb.size, fun k hk _ => hb.block k hk⟩ (by
    rcases h.2 with ⟨rfl, hn⟩ | ⟨g, cap, cur, rfl, _⟩
    · exact .inl rfl
    · exact .inr (by simp [Value.ownBlock]))

theorem ownE_setBox {α : Type} {enc : α → Value} {e : TypeId} {base : Nat} {v : Value} {l : List α} {W : World} {B : Nat} {t : TypeId} {u : Value} (h : OwnE enc e base v l W) (hb : Boxed W B t u) (hte : t ≠ e) (u' : Value) : OwnE enc e base v l (W.setCell ⟨B, 0, none⟩ u') :=
  World.ownsRow.kept h (grownBy_setCell' W B u') (.inr (fun e => hb.not_row hte h e.symm))
theorem apd_of_grown {e base : Nat} {v : Value} {n : Nat} {xs : List Value} {ne : Prop} {w w' : World} (hown : w.ownsRow base e 1 v n xs) (hb : base ≤ w.heap.size) (hg : w.grownBy w' v.ownBlock)
    (hbox : (v = .slice none 0 0 ∨ ne) → ∀ k t u, Boxed w k t u → Boxed w' k t u) : Apd base v ne w w' :=
  ⟨(Below.refl base w).grown hg hb (fun k e => (hown.lt k e).1), KeepsOthers.of_grownBy hg (fun j o e ho => by
    rcases hown.2 with ⟨rfl, _⟩ | ⟨g, cap, cur, rfl, _, hh, _⟩
    · cases e
    · cases e
      rw [hh] at ho
      cases ho
      rfl), hbox, fun k o hk h => (hg.block k (Array.getElem?_eq_some_iff.1 h).1 hk).trans h⟩
theorem Apd.of_alloc {base : Nat} {v : Value} {ne : Prop} {w w' : World} {o : Obj} (h : Apd base v ne (w.alloc o) w') (hb : base ≤ w.heap.size) : Apd base v ne w w' :=
  ⟨((Below.refl base w).alloc hb o).trans h.below, (KeepsOthers.alloc w o).trans h.others, fun hv k t u hbx => h.boxed hv k t u (hbx.alloc o), fun k o' hk hh => h.other k o' hk ((Below.heap_alloc w o k (Array.getElem?_eq_some_iff.1 hh).1).trans hh)⟩

/-- append of m elements that lie somewhere. -/
theorem run_apd {α : Type} (enc : α → Value) (henc : ∀ x, (enc x).oneCell' = true) (w : World) (base : Nat) (t ty e : TypeId) (z : Value) (bytes : Nat) (h1 : P.underlying t = some (.slice e))
    (h2 : (P.info? e).map (fun i => (i.zero, i.size, i.bytes)) = some (some z, 1, bytes)) (hz : z.cells.size = 1) (v : Value) (l : List α) (hown : OwnE enc e base v l w) (ad : Addr) (m c : Nat) (news : List α) (hm : news.length = m)
    (hc : ∀ j u, (news.map enc)[j]? = some u → w.cell? (ad.add j) = some u) (b1 : l.length + m ≤ 1000000) (b2 : bytes ≤ 1000) (hb : base ≤ w.heap.size) :
    ∃ v' w', (Builtin.append_ #[t, t] ty #[v, .slice (some ad) m c]).run P w = .ok v' w' ∧ OwnE enc e base v' (l ++ news) w' ∧ Apd base v (l ≠ []) w w' ∧ (v' = .slice none 0 0 ↔ v = .slice none 0 0 ∧ m = 0) := by
  obtain ⟨i, hi, hz0, hz1, hz2⟩ := info_parts h2
  have hlim : (l.length + m) * bytes ≤ 140737488355328 := Nat.le_trans (Nat.mul_le_mul b1 b2) (by decide)
  have hmax : l.length + m ≤ maxLen := Nat.le_trans b1 (by unfold maxLen; decide)
  have h1c : ∀ u ∈ news.map enc, u.oneCell' = true := fun u hu => by obtain ⟨x, _, rfl⟩ := List.mem_map.1 hu; exact henc x
  have hlen : (news.map enc).length = m * i.size := by rw [List.length_map, hm, hz1, Nat.mul_one]
  obtain ⟨v', w', hr, ho, hg, hnil⟩ := run_append_own (P := P) w base t ty e i z 1 bytes h1 hi hz0 hz1 hz2 hz (by decide) v l.length (l.map enc) hown ad m c (news.map enc) (by simp [hm]) hc h1c hmax hlim hb
  refine ⟨v', w', hr, by unfold OwnE; rw [List.map_append, List.length_append, hm]; exact ho, apd_of_grown hown hb hg ?_, hnil⟩
  intro hv k tk u hbx
  rcases hown.2 with ⟨rfl, hn⟩ | ⟨g, cap, cur, rfl, hbg, hh, hnc, hcm, hcs, htake⟩
  · exact hbx.kept hg (by simp [Value.ownBlock])
  · by_cases hkg : k = g
    · subst hkg
      have hcur : Obj.cells cur e (0, 0) = .cells #[u] tk (0, 0) := Option.some.inj (hh.symm.trans hbx)
      have hc1 : cur = #[u] := by injection hcur
      have hcap : cap = 1 := by rw [hc1] at hcs; simp at hcs; omega
      have hl1 : l ≠ [] := hv.elim (fun e => by cases e) id
      have hl2 : 1 ≤ l.length := List.length_pos_iff.2 hl1
      by_cases hm0 : m = 0
      · have hr2 := run_append_room (P := P) w t ty e i h1 hi k l.length cap cur hh ad m c (news.map enc) hlen hc h1c (by omega) (by rw [hlen, hz1]; omega)
        rw [hr] at hr2
        have hw : w' = _ := (Result.ok.inj hr2).2
        have hn0 : news = [] := List.length_eq_zero_iff.1 (by omega)
        rw [hw]
        have := setRow_heap w k cur (List.take (l.length * i.size) cur.toList ++ news.map enc ++ List.drop (l.length * i.size + (news.map enc).length) cur.toList).toArray e (0, 0) hh
        rw [hn0] at this ⊢
        simp only [List.map_nil, List.append_nil, List.length_nil, Nat.add_zero, List.take_append_drop, Array.toArray_toList] at this ⊢
        unfold Boxed
        rw [this, hcur]
      · have hr2 := run_append_grow (P := P) w t ty e i z h1 hi hz0 ⟨k, 0, none⟩ l.length cap (l.map enc) (by rw [List.length_map, hz1, Nat.mul_one]) (World.ownsRow.cells hown rfl) ad m c (news.map enc) hlen hc (by omega) (by have := b1; omega) (growslice_fits (by omega) (by rw [hz2]; exact hlim))
        rw [hr] at hr2
        have hw : w' = _ := (Result.ok.inj hr2).2
        rw [hw]
        exact Boxed.alloc (W := w.drew) hbx _
    · exact hbx.kept hg (by simp [Value.ownBlock]; exact hkg)

/-- At the operation. -/
theorem wpListIn_apd {α : Type} {F : Fence} {n : Nat} (w : World) {ops : Array Oper} {rest : List Oper} {o : Oper} {a : Act} {Q : Exit → Act → World → Prop} (hg : o.guard = none) (s x : Operand) (t : TypeId)
    (hop : o.op = Op.call { callee := Callee.builtin Builtin.append, args := #[s, x], argTypes := #[t, t] })
    (enc : α → Value) (henc : ∀ x, (enc x).oneCell' = true) (base : Nat) (e : TypeId) (z : Value) (bytes : Nat) (h1 : P.underlying t = some (.slice e))
    (h2 : (P.info? e).map (fun i => (i.zero, i.size, i.bytes)) = some (some z, 1, bytes)) (hz : z.cells.size = 1) (v : Value) (l : List α) (hs : a.eval s = v) (hown : OwnE enc e base v l w) (ad : Addr) (m c : Nat) (news : List α) (hx : a.eval x = .slice (some ad) m c) (hm : news.length = m)
    (hc : ∀ j u, (news.map enc)[j]? = some u → w.cell? (ad.add j) = some u) (b1 : l.length + m ≤ 1000000) (b2 : bytes ≤ 1000) (hb : base ≤ w.heap.size)
    (hK : ∀ v' w', OwnE enc e base v' (l ++ news) w' → Apd base v (l ≠ []) w w' → (v' = .slice none 0 0 ↔ v = .slice none 0 0 ∧ m = 0) → wpListIn F n P ops Q rest (a.put o.dst v') w') :
    wpListIn F n P ops Q (o :: rest) a w := by
  refine wpListIn_plain hg fun K hK' => ?_
  obtain ⟨v', w', hrun, r1, r2, r3⟩ := run_apd (P := P) enc henc w base t o.type e z bytes h1 h2 hz v l hown ad m c news hm hc b1 b2 hb
  unfold Oper.wpIn
  refine ⟨?_, ?_⟩
  · simp [Oper.about, hop, resolve, Target.leads, Sem.run_pure]
  · rw [Oper.semAt_plain F _ _ (by rw [hop]; intro c hc'; cases hc')]
    simp [execOp, hop, resolve, invoke, builtin, hs, hx, hrun, Result.andThen]
    exact hK' _ _ (hK v' w' r1 r2 r3)

theorem cells_new (w : World) (xs : List Value) (t : TypeId) : ∀ j u, xs[j]? = some u → (w.alloc (.cells xs.toArray t)).cell? ((⟨w.heap.size, 0, none⟩ : Addr).add j) = some u := by
  intro j u hj
  have e : (⟨w.heap.size, 0, none⟩ : Addr).add j = ⟨w.heap.size, 0 + j, none⟩ := by unfold Addr.add; split <;> simp_all
  rw [e]
  have hh : (w.alloc (.cells xs.toArray t)).heap[w.heap.size]? = some (.cells xs.toArray t) := World.alloc_heap_new w _
  show (match (w.alloc (.cells xs.toArray t)).heap[w.heap.size]? with | some (.cells c _ _) => c[0 + j]? | _ => none) = some u
  rw [hh]
  simp [hj]
def encB (c : UInt8) : Value := .int .u8 (c.toNat : Int)
theorem encB_one (c : UInt8) : (encB c).oneCell' = true := rfl
theorem strCells_enc (l : List UInt8) : Lib.strCells ⟨l.toArray⟩ = l.map encB := by
  unfold Lib.strCells
  first | rfl | simp [encB]

/-- append(s, x...), x a string. -/
theorem wpListIn_apd_string {F : Fence} {n : Nat} (w : World) {ops : Array Oper} {rest : List Oper} {o : Oper} {a : Act} {Q : Exit → Act → World → Prop} (hg : o.guard = none) (s x : Operand) (t u : TypeId)
    (hop : o.op = Op.call { callee := Callee.builtin Builtin.append, args := #[s, x], argTypes := #[t, u] })
    (base : Nat) (e : TypeId) (h1 : P.underlying t = some (.slice e)) (hu : P.underlying u = some .string)
    (h2 : (P.info? e).map (fun i => (i.zero, i.size, i.bytes)) = some (some (.int .u8 0), 1, 1)) (v : Value) (l : List UInt8) (hs : a.eval s = v) (hown : OwnE encB e base v l w) (news : List UInt8) (hx : a.eval x = .string ⟨news.toArray⟩)
    (b1 : l.length + news.length ≤ 1000000) (hb : base ≤ w.heap.size)
    (hK : ∀ v' w', OwnE encB e base v' (l ++ news) w' → Below base w w' → (v' = .slice none 0 0 ↔ v = .slice none 0 0 ∧ news.length = 0) → wpListIn F n P ops Q rest (a.put o.dst v') w') :
    wpListIn F n P ops Q (o :: rest) a w := by
  obtain ⟨i, hi, hz0, hz1, hz2⟩ := info_parts h2
  refine wpListIn_plain hg fun K hK' => ?_
  have hsz : (⟨news.toArray⟩ : ByteArray).size = news.length := by show news.toArray.size = _; simp
  obtain ⟨v', w', hrun, r1, r2, r3⟩ := Lib.run_append_own_string (P := P) w base t u o.type e i h1 hu hi hz0 hz1 hz2 v l.length (l.map encB) hown ⟨news.toArray⟩ (by rw [hsz]; exact Nat.le_trans b1 (by unfold maxLen; decide)) (by rw [hsz]; omega) hb
  rw [hsz, strCells_enc] at r1
  rw [hsz] at r3
  unfold Oper.wpIn
  refine ⟨?_, ?_⟩
  · simp [Oper.about, hop, resolve, Target.leads, Sem.run_pure]
  · rw [Oper.semAt_plain F _ _ (by rw [hop]; intro c hc'; cases hc')]
    simp [execOp, hop, resolve, invoke, builtin, hs, hx, hrun, Result.andThen]
    exact hK' _ _ (hK v' w' (by unfold OwnE; rw [List.map_append, List.length_append]; exact r1) ((Below.refl base w).grown r2 hb (fun k e => (World.ownsRow.lt hown k e).1)) r3)

/-- string(b) of an owned slice of bytes. -/
theorem run_str {src dst e : TypeId} (hs : P.underlying src = some (.slice e)) (he : P.underlying e = some (.int .u8)) (hd : P.underlying dst = some .string) {base : Nat} {v : Value} {l : List UInt8} {W : World} (hown : OwnE encB e base v l W) :
    (convert src dst v).run P W = .ok (.string ⟨l.toArray⟩) W := by
  rcases hown.2 with ⟨rfl, hn⟩ | ⟨g, cap, cur, rfl, hbg, hh, hnc, hcm, hcs, htake⟩
  · have : l = [] := List.length_eq_zero_iff.1 hn
    subst this
    simp [convert, run_underlying, hs, he, hd, go_sem, Conv.bytesToString]
    rfl
  · exact run_convert_bytes_back W src dst e ⟨g, 0, none⟩ cap l hs he hd (fun j hj => World.ownsRow.cells hown rfl j _ (by simp [encB, hj]))

end Go.Proofs.Ytdodamkndigjkaa

/- What all walks of the seat share: endings, cuts of strings, slices that are read, small equations. -/
namespace Go.Proofs.Ytdodamkndigjkaa
open Go.RowKit Go.Shelf

theorem ret_bool {a b : Bool} (h : a = b) : Ending.returned (.bool a) = .returned (.bool b) := by rw [h]
theorem ret_int {k : IntKind} {a b : Int} (h : a = b) : Ending.returned (.int k a) = .returned (.int k b) := by rw [h]
theorem ret_str {a b : List UInt8} (h : a = b) : Ending.returned (.string ⟨a.toArray⟩) = .returned (.string ⟨b.toArray⟩) := by rw [h]

/-- s[lo:hi] of a string. -/
theorem run_cut {P : Program} {t : TypeId} (h : P.underlying t = some .string) {l l' : List UInt8} {lo hi : Int} (h0 : 0 ≤ lo) (h1 : lo ≤ hi) (h2 : hi ≤ l.length) (hl : l' = (l.drop lo.toNat).take (hi.toNat - lo.toNat)) (w : World) :
    (Instr.slice t (.string ⟨l.toArray⟩) (some (.int .i64 lo)) (some (.int .i64 hi)) none).run P w = .ok (.string ⟨l'.toArray⟩) w := by
  rw [run_slice_string w t ⟨l.toArray⟩ .i64 .i64 lo hi h h0 h1 (by show hi ≤ (l.toArray.size : Int); simpa using h2), ByteArray.extract_mk, hl]

theorem ext_from (l : List UInt8) (k : Nat) : (⟨l.toArray⟩ : ByteArray).extract k l.length = ⟨(l.drop k).toArray⟩ := by
  rw [ByteArray.extract_mk, List.take_of_length_le (by simp)]
theorem ext_cut (l : List UInt8) (a b : Nat) : (⟨l.toArray⟩ : ByteArray).extract a b = ⟨((l.drop a).take (b - a)).toArray⟩ := ByteArray.extract_mk l a b
/-- s[lo:] of a string. -/
theorem run_from {P : Program} {t : TypeId} (h : P.underlying t = some .string) {l l' : List UInt8} {lo : Int} (h0 : 0 ≤ lo) (h2 : lo ≤ l.length) (hl : l' = l.drop lo.toNat) (w : World) :
    (Instr.slice t (.string ⟨l.toArray⟩) (some (.int .i64 lo)) none none).run P w = .ok (.string ⟨l'.toArray⟩) w := by
  have hb : 0 ≤ lo ∧ lo ≤ ((⟨l.toArray⟩ : ByteArray).size : Int) := ⟨h0, by show lo ≤ (l.toArray.size : Int); simpa using h2⟩
  simp only [run_slice_string_from_if w t ⟨l.toArray⟩ .i64 lo h]
  rw [if_pos (by first | exact hb | exact hb.2)]
  rw [ByteArray.extract_mk, hl, show (⟨l.toArray⟩ : ByteArray).size = l.length from by show l.toArray.size = _; simp, List.take_of_length_le (by simp)]

set_option maxRecDepth 100000 in
set_option maxHeartbeats 400000 in
/-- label: the bytes behind the number at at. -/
theorem label_any (n : List UInt8) (k : Nat) (w : World) (hs : n.length ≤ 100000) (hk : k < n.length) (hb : k + 1 + n[k].toNat ≤ n.length) :
    Calls Try.prog 112 #[.string ⟨n.toArray⟩, .int .i64 (k : Int)] w fun e w' => e = .returned (.string ⟨((n.drop (k + 1)).take n[k].toNat).toArray⟩) ∧ w = w' := by
  have hc : ((⟨n.toArray⟩ : ByteArray)[k]'hk) = n[k] := rfl
  have hsl := run_cut (P := Try.prog) Try.underlying9 (l := n) (l' := (n.drop (k + 1)).take n[k].toNat) (lo := (k : Int) + 1) (hi := (k : Int) + 1 + (n[k].toNat : Int)) (by omega) (by omega) (by omega) (by congr 1; omega) w
  go_enter Try.func112, Try.ntmps112
  go_wp2
  go_ret
  exact ⟨ret_str rfl, rfl⟩

theorem cloneLite_any (s : ByteArray) (w : World) (hs : s.size ≤ 281474976710656) :
    Calls Try.prog 92 #[.string s] w fun e w' => e = .returned (.string s) ∧ Below w.heap.size w w' :=
  AnyPu.stringslite_Clone Try.laysPu25 s w hs

set_option maxHeartbeats 400000 in
theorem clone_any (l : List UInt8) (w : World) (hs : l.length ≤ 281474976710656) :
    Calls Try.prog 67 #[.string ⟨l.toArray⟩] w fun e w' => e = .returned (.string ⟨l.toArray⟩) ∧ Below w.heap.size w w' := by
  go_enter Try.func67, Try.ntmps67
  go_wp2_with fail
  refine (cloneLite_any ⟨l.toArray⟩ _ (by show l.toArray.size ≤ _; simpa using hs)).mono ?_
  rintro e w' ⟨rfl, hb⟩
  go_wp2
  go_ret
  exact ⟨rfl, hb⟩
/-- Nothing but draws. -/
def Drew (w w' : World) : Prop := ∃ n, w' = w.drewN n
theorem Drew.refl (w : World) : Drew w w := ⟨0, rfl⟩
theorem Drew.below {B : Nat} {w w' : World} (h : Drew w w') : Below B w w' := by
  obtain ⟨n, rfl⟩ := h
  exact ⟨rfl, rfl, rfl, Nat.le_refl _, fun _ _ => rfl⟩

theorem Drew.drewN {w w' : World} (h : Drew w w') (k : Nat) : Drew w (w'.drewN k) := by
  obtain ⟨n, rfl⟩ := h
  exact ⟨n + k, World.drewN_drewN _ _ _⟩
theorem Drew.trans {w w1 w' : World} (h : Drew w w1) (h' : Drew w1 w') : Drew w w' := by
  obtain ⟨k, rfl⟩ := h'
  exact h.drewN k

theorem infoByte : (Try.prog.info? 5).map (fun i => (i.zero, i.size, i.bytes)) = some (some (.int .u8 0), 1, 1) := by kernel_rfl
theorem infoStr : (Try.prog.info? 9).map (fun i => (i.zero, i.size, i.bytes)) = some (some (.string ⟨#[]⟩), 1, 16) := by kernel_rfl
theorem infoInt : (Try.prog.info? 3).map (fun i => (i.zero, i.size, i.bytes)) = some (some (.int .i64 0), 1, 8) := by kernel_rfl

def encS (l : List UInt8) : Value := .string ⟨l.toArray⟩
theorem encS_one (l : List UInt8) : (encS l).oneCell' = true := rfl
def encI (x : Nat) : Value := .int .i64 (x : Int)
theorem encI_one (x : Nat) : (encI x).oneCell' = true := rfl

/-- A slice of strings that is read: from an address on, or nil. -/
structure ReadS (v : Value) (ls : List (List UInt8)) (W : World) : Prop where
  form : ∃ ao cap, v = .slice ao ls.length cap ∧ ∀ (j : Nat) (h : j < ls.length), ∃ b off, ao = some ⟨b, off, none⟩ ∧ W.cell? ⟨b, off + j, none⟩ = some (encS ls[j])

/-- A slice of what the call owns, made with room. -/
theorem run_make0 {P : Program} {t e : TypeId} {z : Value} {bytes : Nat} (h1 : P.underlying t = some (.slice e)) (h2 : (P.info? e).map (fun i => (i.zero, i.size, i.bytes)) = some (some z, 1, bytes)) (c : Nat) (hc : bytes * c ≤ 281474976710656) (hc1 : c ≤ 1000000) (_hz : z.cells.size = 1) (W : World) :
    ∃ cur : Array Value, (Instr.makeSlice t (.int .i64 0) (.int .i64 (c : Int))).run P W = .ok (.slice (some ⟨W.heap.size, 0, none⟩) 0 c) (W.alloc (.cells cur e)) ∧ cur.size = c * 1 := by
  obtain ⟨i, hi, hz0, hz1, hz2⟩ := info_parts h2
  have hci : (c : Int) ≤ 9223372036854775807 := by omega
  have h := run_make (P := P) W t e i z h1 hi hz0 .i64 .i64 0 (c : Int) (by omega) (by omega) (by rw [hz2, ← Int.natCast_mul]; generalize bytes * c = p at hc; omega) hci
  refine ⟨madeCells z.cells ((c : Int).toNat * i.size), ?_, ?_⟩
  · rw [h]; rfl
  · rw [size_madeCells, hz1]; simp

theorem run_make0_all {P : Program} {t e : TypeId} {z : Value} {bytes : Nat} (h1 : P.underlying t = some (.slice e)) (h2 : (P.info? e).map (fun i => (i.zero, i.size, i.bytes)) = some (some z, 1, bytes)) (c : Nat) (hc : bytes * c ≤ 281474976710656) (hc1 : c ≤ 1000000) (_hz : z.cells.size = 1) :
    ∃ cur : Array Value, (∀ W : World, (Instr.makeSlice t (.int .i64 0) (.int .i64 (c : Int))).run P W = .ok (.slice (some ⟨W.heap.size, 0, none⟩) 0 c) (W.alloc (.cells cur e))) ∧ cur.size = c * 1 := by
  obtain ⟨i, hi, hz0, hz1, hz2⟩ := info_parts h2
  have hci : (c : Int) ≤ 9223372036854775807 := by omega
  have hcb : (i.bytes : Int) * (c : Int) ≤ 281474976710656 := by rw [hz2, ← Int.natCast_mul]; generalize bytes * c = p at hc; omega
  exact ⟨madeCells z.cells ((c : Int).toNat * i.size), fun W => run_make (P := P) W t e i z h1 hi hz0 .i64 .i64 0 (c : Int) (by omega) (by omega) hcb hci, by rw [size_madeCells, hz1]; simp⟩

/-- What a call that makes memory leaves as it was. -/
theorem bcell {W w1 : World} (hb : Below W.heap.size W w1) : (∀ b o, b < W.heap.size → w1.cell? ⟨b, o, none⟩ = W.cell? ⟨b, o, none⟩) ∧ (∀ b o, b < W.heap.size → w1.frozen? ⟨b, o, none⟩ = W.frozen? ⟨b, o, none⟩) :=
  ⟨fun b o h => hb.cell (p := ⟨b, o, none⟩) h, fun b o h => hb.frozen (p := ⟨b, o, none⟩) h⟩
theorem bcell1 {B : Nat} {W w1 : World} (hb : Below (B + 1) W w1) : (∀ o, w1.cell? ⟨B, o, none⟩ = W.cell? ⟨B, o, none⟩) ∧ (∀ o, w1.frozen? ⟨B, o, none⟩ = W.frozen? ⟨B, o, none⟩) :=
  ⟨fun o => hb.cell (p := ⟨B, o, none⟩) (Nat.lt_succ_self B), fun o => hb.frozen (p := ⟨B, o, none⟩) (Nat.lt_succ_self B)⟩
theorem cell_lt {W : World} {a : Addr} {v : Value} (h : W.cell? a = some v) : a.block < W.heap.size := by
  rcases Nat.lt_or_ge a.block W.heap.size with h' | h'
  · exact h'
  · simp [World.cell?, Array.getElem?_eq_none h'] at h
theorem ko_below {W W' : World} (h : Below W.heap.size W W') : KeepsOthers W W' := ⟨h.size, fun k _ hk _ => (h.block k (Array.getElem?_eq_some_iff.1 hk).1).trans hk⟩
theorem boxed_below {B : Nat} {t : TypeId} {v : Value} {W W' : World} (hb : Boxed W B t v) (h : Below W.heap.size W W') : Boxed W' B t v := (h.block B hb.lt).trans hb
theorem below_trans {W A C : World} (h : Below W.heap.size W A) (k : Below A.heap.size A C) : Below W.heap.size W C := h.trans (k.mono h.size)
/-- What lies behind the end of a loop over a function. -/
theorem boxed_putD {B D : Nat} {t : TypeId} {v : Value} {W : World} (hb : Boxed W B t v) {o : Obj} (hK : W.heap[D]? = some o) (ho : o.isCells = false) (o' : Obj) : Boxed (W.putObj D o') B t v :=
  hb.kept (grownBy_putObj' W D o') (fun e => by cases e; rw [show W.heap[B]? = _ from hb] at hK; cases hK; cases ho)
theorem below_putD {D : Nat} {w W : World} (h : Below w.heap.size w W) (hD : w.heap.size ≤ D) {o : Obj} (hK : W.heap[D]? = some o) (ho : o.isCells = false) (hw : o.isWalk = false) (o' : Obj) : Below w.heap.size w (W.putObj D o') :=
  h.trans (belowK_b (w := w) (Nat.le_refl _) W D o o' hD hK ho hw)
theorem readS_below {v : Value} {L : List (List UInt8)} {W W' : World} (h : ReadS v L W) (hb : Below W.heap.size W W') : ReadS v L W' := by
  obtain ⟨ao, cap, rfl, hc⟩ := h.form
  exact ⟨ao, cap, rfl, fun j hj => by
    obtain ⟨b, off, e, c⟩ := hc j hj
    exact ⟨b, off, e, (hb.cell (cell_lt c)).trans c⟩⟩
theorem readS_two (W : World) (x y : List UInt8) (t : TypeId) : ReadS (.slice (some ⟨W.heap.size, 0, none⟩) 2 2) [x, y] (W.alloc (.cells #[.string ⟨x.toArray⟩, .string ⟨y.toArray⟩] t)) := by
  refine ⟨some ⟨W.heap.size, 0, none⟩, 2, rfl, fun j hj => ⟨W.heap.size, 0, rfl, ?_⟩⟩
  have h := cells_new W [.string ⟨x.toArray⟩, .string ⟨y.toArray⟩] t j (encS ([x, y][j]'hj))
  have e : (⟨W.heap.size, 0, none⟩ : Addr).add j = ⟨W.heap.size, 0 + j, none⟩ := by unfold Addr.add; split <;> simp_all
  rw [e] at h
  refine h ?_
  match j, hj with
  | 0, _ => rfl
  | 1, _ => rfl

structure ReadI (v : Value) (zs : List Int) (W : World) : Prop where
  form : ∃ ao cap, v = .slice ao zs.length cap ∧ ∀ (j : Nat) (h : j < zs.length), ∃ b off, ao = some ⟨b, off, none⟩ ∧ W.cell? ⟨b, off + j, none⟩ = some (.int .i64 zs[j])
structure ReadB (v : Value) (l : List UInt8) (W : World) : Prop where
  form : ∃ ao cap, v = .slice ao l.length cap ∧ ∀ (j : Nat) (h : j < l.length), ∃ b off, ao = some ⟨b, off, none⟩ ∧ W.cell? ⟨b, off + j, none⟩ = some (encB l[j])

theorem app_bytes (a b : List UInt8) : (⟨a.toArray⟩ : ByteArray) ++ ⟨b.toArray⟩ = ⟨(a ++ b).toArray⟩ := by apply ByteArray.ext; simp [ByteArray.data_append]
/-- string of a fresh list of bytes. -/
theorem run_lit_str (l : List UInt8) (vs : List Value) (hv : l.map encB = vs) (W : World) :
    (convert 22 9 (.slice (some ⟨W.heap.size, 0, none⟩) l.length l.length)).run Try.prog (W.alloc (.cells vs.toArray 5)) = .ok (.string ⟨l.toArray⟩) (W.alloc (.cells vs.toArray 5)) := by
  subst hv
  exact run_convert_bytes_back (P := Try.prog) _ 22 9 5 ⟨W.heap.size, 0, none⟩ l.length l Try.underlying22 Try.underlying5 Try.underlying9 (fun j hj => cells_new W (l.map encB) 5 j (encB l[j]) (by simp [hj]))
theorem run_arg_str {v : Value} {l : List UInt8} {W : World} (h : ReadB v l W) (hne : l ≠ []) : (convert 22 9 v).run Try.prog W = .ok (.string ⟨l.toArray⟩) W := by
  obtain ⟨ao, cap, rfl, hc⟩ := h.form
  cases l with
  | nil => exact absurd rfl hne
  | cons c l =>
    obtain ⟨b, off, rfl, _⟩ := hc 0 (by simp)
    exact run_convert_bytes_back (P := Try.prog) W 22 9 5 ⟨b, off, none⟩ cap (c :: l) Try.underlying22 Try.underlying5 Try.underlying9 (fun j hj => by
      obtain ⟨b', off', e, c1⟩ := hc j hj
      cases e
      have e2 : (⟨b, off, none⟩ : Addr).add j = ⟨b, off + j, none⟩ := by unfold Addr.add; split <;> simp_all
      rw [e2]; exact c1)
theorem readB_below {v : Value} {l : List UInt8} {W W' : World} (h : ReadB v l W) (hb : Below W.heap.size W W') : ReadB v l W' := by
  obtain ⟨ao, cap, rfl, hc⟩ := h.form
  exact ⟨ao, cap, rfl, fun j hj => by
    obtain ⟨b, off, e, c⟩ := hc j hj
    exact ⟨b, off, e, (hb.cell (cell_lt c)).trans c⟩⟩

theorem nbeqI {a b : UInt8} (h : a ≠ b) : ((a.toNat : Int) == (b.toNat : Int)) = false := by rw [beq_eq_false_iff_ne]; intro e; exact h (by rw [← UInt8.toNat_inj]; exact Int.ofNat.inj e)
end Go.Proofs.Ytdodamkndigjkaa

/- What Valid answers. -/
namespace Go.Proofs.Ytdodamkndigjkaa
open Go.RowKit


set_option maxHeartbeats 400000 in
theorem valid_any (n : List UInt8) (w : World) (hs : n.length ≤ 100000) :
    Calls Try.prog 74 #[.string ⟨n.toArray⟩] w fun e w' => e = .returned (.bool (Nm.valid n)) ∧ w = w' := by
  by_cases h255 : 255 < n.length
  · have H : Nm.valid n = false := by simp [Nm.valid, Nm.labs, h255]
    have HH := Lib.hid H
    clear H
    go_enter Try.func74, Try.ntmps74
    go_wp2
    go_ret
    exact ⟨ret_bool HH.out.symm, rfl⟩
  · go_enter Try.func74, Try.ntmps74
    go_wp2
    go_loop [3] (fun i => ∃ k : Nat, k ≤ 400 ∧ i = .int .i64 k ∧ Nm.ValidAt n k) (fun i => n.length + 1 - (intOf i).toNat)
    case atStart => exact ⟨0, by omega, rfl, Nm.validAt_zero n⟩
    case round =>
      obtain ⟨k, hk, rfl, hv⟩ := hrel
      have HV := Lib.hid hv
      clear hv
      by_cases hlt : k < n.length
      · have hc : ((⟨n.toArray⟩ : ByteArray)[k]'hlt) = n[k] := rfl
        go_wp2
        · go_ret
          rename_i h63 _
          exact ⟨ret_bool (by rw [Nm.valid_of_short h255, HV.out.big hlt (by omega)]), rfl⟩
        · rename_i h0 h63
          rw [bne_iff_ne] at h0
          have h0' : n[k] ≠ 0 := fun e => h0 (by rw [e]; rfl)
          exact ⟨⟨k + (1 + n[k].toNat), by omega, by go_num, HV.out.step hlt h0' (by omega)⟩, by simp [intOf]; omega⟩
        · rename_i h0 _
          have h0' : n[k] = 0 := by rw [bne_eq_false_iff_eq] at h0; rw [← UInt8.toNat_inj]; simpa using h0
          go_ret
          exact ⟨ret_bool (by rw [Nm.valid_of_short h255, HV.out.zero hlt h0', Bool.eq_iff_iff]; simp; omega), rfl⟩
      · go_wp2
        go_ret
        exact ⟨ret_bool (by rw [Nm.valid_of_short h255, HV.out.stop (by omega), beq_eq_false_iff_ne]; omega), rfl⟩
end Go.Proofs.Ytdodamkndigjkaa

/- What data of a type is put together of: layoutOf; what types are known; what four bytes hold. -/
namespace Go.Proofs.Ytdodamkndigjkaa
open Go.RowKit Go.Shelf

def layL (a n b : Nat) : Value := .agg #[.int .i64 (a : Int), .int .i64 (n : Int), .int .i64 (b : Int)]
def layV : Option (Nat × Nat × Nat) → Value
  | some (a, n, b) => layL a n b
  | none => layL 0 0 0
def LayRet (t : Int) (w : World) (e : Ending) (w' : World) : Prop := e = .returned (.tuple #[layV (Rd.lay t), .bool (Rd.lay t).isSome]) ∧ Below w.heap.size w w'
theorem layRet_of {t : Int} {w w' : World} {a n b : Nat} (h : Rd.lay t = some (a, n, b)) (hb : Below w.heap.size w w') : LayRet t w (.returned (.tuple #[.agg #[.int .i64 (a : Int), .int .i64 (n : Int), .int .i64 (b : Int)], .bool true])) w' := ⟨by rw [h]; rfl, hb⟩
theorem layRet_none {t : Int} {w w' : World} (h : Rd.lay t = none) (hb : Below w.heap.size w w') : LayRet t w (.returned (.tuple #[.agg #[.int .i64 0, .int .i64 0, .int .i64 0], .bool false])) w' := ⟨by rw [h]; rfl, hb⟩

set_option maxHeartbeats 1000000 in
theorem layoutOf_any (t : Int) (w : World) : Calls Try.prog 100 #[.int .i64 t] w (LayRet t w) := by
  have hb : ∀ o, Below w.heap.size w (w.alloc o) := fun o => (Below.refl _ w).alloc (Nat.le_refl _) o
  have hcase : (t = 1) ∨ t = 28 ∨ t = 2 ∨ t = 5 ∨ t = 12 ∨ t = 15 ∨ t = 33 ∨ t = 6 ∨ (t ≠ 1 ∧ t ≠ 28 ∧ t ≠ 2 ∧ t ≠ 5 ∧ t ≠ 12 ∧ t ≠ 15 ∧ t ≠ 33 ∧ t ≠ 6) := by omega
  rcases hcase with rfl | rfl | rfl | rfl | rfl | rfl | rfl | rfl | ⟨h1, h2, h3, h4, h5, h6, h7, h8⟩
  · go_enter Try.func100, Try.ntmps100
    go_wp2
    exact bodyPost_ret (v := .tuple #[.agg #[.int .i64 4, .int .i64 0, .int .i64 0], .bool true]) (by simp [results, Try.results100, go_sem]) rfl (layRet_of (a := 4) (n := 0) (b := 0) rfl (hb _))
  · go_enter Try.func100, Try.ntmps100
    go_wp2
    exact bodyPost_ret (v := .tuple #[.agg #[.int .i64 16, .int .i64 0, .int .i64 0], .bool true]) (by simp [results, Try.results100, go_sem]) rfl (layRet_of (a := 16) (n := 0) (b := 0) rfl (hb _))
  · go_enter Try.func100, Try.ntmps100
    go_wp2
    exact bodyPost_ret (v := .tuple #[.agg #[.int .i64 0, .int .i64 1, .int .i64 0], .bool true]) (by simp [results, Try.results100, go_sem]) rfl (layRet_of (a := 0) (n := 1) (b := 0) rfl (hb _))
  · go_enter Try.func100, Try.ntmps100
    go_wp2
    exact bodyPost_ret (v := .tuple #[.agg #[.int .i64 0, .int .i64 1, .int .i64 0], .bool true]) (by simp [results, Try.results100, go_sem]) rfl (layRet_of (a := 0) (n := 1) (b := 0) rfl (hb _))
  · go_enter Try.func100, Try.ntmps100
    go_wp2
    exact bodyPost_ret (v := .tuple #[.agg #[.int .i64 0, .int .i64 1, .int .i64 0], .bool true]) (by simp [results, Try.results100, go_sem]) rfl (layRet_of (a := 0) (n := 1) (b := 0) rfl (hb _))
  · go_enter Try.func100, Try.ntmps100
    go_wp2
    exact bodyPost_ret (v := .tuple #[.agg #[.int .i64 2, .int .i64 1, .int .i64 0], .bool true]) (by simp [results, Try.results100, go_sem]) rfl (layRet_of (a := 2) (n := 1) (b := 0) rfl (hb _))
  · go_enter Try.func100, Try.ntmps100
    go_wp2
    exact bodyPost_ret (v := .tuple #[.agg #[.int .i64 6, .int .i64 1, .int .i64 0], .bool true]) (by simp [results, Try.results100, go_sem]) rfl (layRet_of (a := 6) (n := 1) (b := 0) rfl (hb _))
  · go_enter Try.func100, Try.ntmps100
    go_wp2
    exact bodyPost_ret (v := .tuple #[.agg #[.int .i64 0, .int .i64 2, .int .i64 20], .bool true]) (by simp [results, Try.results100, go_sem]) rfl (layRet_of (a := 0) (n := 2) (b := 20) rfl (hb _))
  · have H := Lib.hid (show Rd.lay t = none by unfold Rd.lay; simp [h1, h2, h3, h4, h5, h6, h7, h8])
    replace h1 := beq_eq_false_iff_ne.2 h1
    replace h2 := beq_eq_false_iff_ne.2 h2
    replace h3 := beq_eq_false_iff_ne.2 h3
    replace h4 := beq_eq_false_iff_ne.2 h4
    replace h5 := beq_eq_false_iff_ne.2 h5
    replace h6 := beq_eq_false_iff_ne.2 h6
    replace h7 := beq_eq_false_iff_ne.2 h7
    replace h8 := beq_eq_false_iff_ne.2 h8
    go_enter Try.func100, Try.ntmps100
    go_wp2
    exact bodyPost_ret (v := .tuple #[.agg #[.int .i64 0, .int .i64 0, .int .i64 0], .bool false]) (by simp [results, Try.results100, go_sem]) rfl (layRet_none H.out (hb _))

end Go.Proofs.Ytdodamkndigjkaa
