/- 4 texts put together: Append, Base, Frame7, Round. -/
import Derived.Maps.AppendAt
import Derived.Lib.AppendStr
import Derived.Lib.Hide
import Derived.OwnWalkIn
import Derived.Laws.IdiomStrings
import Derived.RangeFuncBox
import Derived.Below
import Derived.WalkKit
import Derived.BigQuiet
import Derived.Deep.QuietTactic
import Derived.Test.YtbmppnfliiiobaaDoorProg
import Derived.Deep.Grids
import Derived.Test.YtbmppnfliiiobaaDoorJB1
import Derived.Test.YtbmppnfliiiobaaDoorJB4
import Derived.Test.YtbmppnfliiiobaaDoorJB8
import Derived.Test.YtbmppnfliiiobaaDoorJB13
import Derived.Test.YtbmppnfliiiobaaDoorJB16
/- append onto a slice that the call owns: what it leaves alone. -/
namespace Go.Proofs.YtbmppnfliiiobaaDoor
open Go Go.RowKit

variable {P : Program}

/-- A slice of one-cell elements that the call owns, from block base on. -/
def OwnE {α : Type} (enc : α → Value) (e : TypeId) (base : Nat) (v : Value) (l : List α) (W : World) : Prop := W.ownsRow base e 1 v l.length (l.map enc)

/-- What an append leaves alone. -/
structure Apd (base : Nat) (v : Value) (ne : Prop) (w w' : World) : Prop where
  below : Below base w w'
  others : KeepsOthers w w'
  boxed : (v = .slice none 0 0 ∨ ne) → ∀ k t u, Boxed w k t u → Boxed w' k t u
  other : ∀ (k : Nat) (o : Obj), some k ≠ v.ownBlock → w.heap[k]? = some o → w'.heap[k]? = some o

theorem ownE_nil {α : Type} (enc : α → Value) (e : TypeId) (base : Nat) (W : World) : OwnE enc e base (.slice none 0 0) [] W := World.ownsRow_nil W base e 1

theorem ownE_form {α : Type} {enc : α → Value} {e : TypeId} {base : Nat} {v : Value} {l : List α} {W : World} (h : OwnE enc e base v l W) : (v = .slice none 0 0 ∧ l = []) ∨ ∃ g cap, v = .slice (some ⟨g, 0, none⟩) l.length cap := by
  rcases h.2 with ⟨rfl, hn⟩ | ⟨g, cap, cur, rfl, _⟩
  · exact .inl ⟨rfl, List.length_eq_zero_iff.1 hn⟩
  · exact .inr ⟨g, cap, rfl⟩
theorem ownE_cell {α : Type} {enc : α → Value} {e : TypeId} {base g cap n : Nat} {l : List α} {W : World} (h : OwnE enc e base (.slice (some ⟨g, 0, none⟩) n cap) l W) {j : Nat} (hj : j < l.length) : W.cell? ⟨g, 0 + j, none⟩ = some (enc l[j]) := by
  have := World.ownsRow.cells h (g := g) rfl j (enc l[j]) (by simp [hj])
  have e : (⟨g, 0, none⟩ : Addr).add j = ⟨g, 0 + j, none⟩ := by unfold Addr.add; split <;> simp_all
  rwa [e] at this
theorem ownE_alloc {α : Type} {enc : α → Value} {e : TypeId} {base : Nat} {v : Value} {l : List α} {W : World} (h : OwnE enc e base v l W) (o : Obj) : OwnE enc e base v l (W.alloc o) := World.ownsRow.alloc h o
theorem ownE_below {α : Type} {enc : α → Value} {e : TypeId} {base : Nat} {v : Value} {l : List α} {W W' : World} (h : OwnE enc e base v l W) (hb : Below W.heap.size W W') : OwnE enc e base v l W' :=
  World.ownsRow.kept h (row := none) ⟨hb.os, hb.tape, hb.output, hb.size, fun k hk _ => hb.block k hk⟩ (by
    rcases h.2 with ⟨rfl, hn⟩ | ⟨g, cap, cur, rfl, _⟩
    · exact .inl rfl
    · exact .inr (by simp [Value.ownBlock]))

theorem ownE_setBox {α : Type} {enc : α → Value} {e : TypeId} {base : Nat} {v : Value} {l : List α} {W : World} {B : Nat} {t : TypeId} {u : Value} (h : OwnE enc e base v l W) (hb : Boxed W B t u) (hte : t ≠ e) (u' : Value) : OwnE enc e base v l (W.setCell ⟨B, 0, none⟩ u') :=
  World.ownsRow.kept h (grownBy_setCell' W B u') (.inr (fun e => hb.not_row hte h e.symm))
theorem apd_of_grown {e base : Nat} {v : Value} {n : Nat} {xs : List Value} {ne : Prop} {w w' : World} (hown : w.ownsRow base e 1 v n xs) (hb : base ≤ w.heap.size) (hg : w.grownBy w' v.ownBlock)
    (hbox : (v = .slice none 0 0 ∨ ne) → ∀ k t u, Boxed w k t u → Boxed w' k t u) : Apd base v ne w w' :=
  ⟨(Below.refl base w).grown hg hb (fun k e => (hown.lt k e).1), KeepsOthers.of_grownBy hg (fun j o e ho => by
    rcases hown.2 with ⟨rfl, _⟩ | ⟨g, cap, cur, rfl, _, hh, _⟩
    · cases e
    · cases e
      rw [hh] at ho
      cases ho
      rfl), hbox, fun k o hk h => (hg.block k (Array.getElem?_eq_some_iff.1 h).1 hk).trans h⟩
theorem Apd.of_alloc {base : Nat} {v : Value} {ne : Prop} {w w' : World} {o : Obj} (h : Apd base v ne (w.alloc o) w') (hb : base ≤ w.heap.size) : Apd base v ne w w' :=
  ⟨((Below.refl base w).alloc hb o).trans h.below, (KeepsOthers.alloc w o).trans h.others, fun hv k t u hbx => h.boxed hv k t u (hbx.alloc o), fun k o' hk hh => h.other k o' hk ((Below.heap_alloc w o k (Array.getElem?_eq_some_iff.1 hh).1).trans hh)⟩

/-- append of m elements that lie somewhere. -/
theorem run_apd {α : Type} (enc : α → Value) (henc : ∀ x, (enc x).oneCell' = true) (w : World) (base : Nat) (t ty e : TypeId) (z : Value) (bytes : Nat) (h1 : P.underlying t = some (.slice e))
    (h2 : (P.info? e).map (fun i => (i.zero, i.size, i.bytes)) = some (some z, 1, bytes)) (hz : z.cells.size = 1) (v : Value) (l : List α) (hown : OwnE enc e base v l w) (ad : Addr) (m c : Nat) (news : List α) (hm : news.length = m)
    (hc : ∀ j u, (news.map enc)[j]? = some u → w.cell? (ad.add j) = some u) (b1 : l.length + m ≤ 1000000) (b2 : bytes ≤ 1000) (hb : base ≤ w.heap.size) :
    ∃ v' w', (Builtin.append_ #[t, t] ty #[v, .slice (some ad) m c]).run P w = .ok v' w' ∧ OwnE enc e base v' (l ++ news) w' ∧ Apd base v (l ≠ []) w w' ∧ (v' = .slice none 0 0 ↔ v = .slice none 0 0 ∧ m = 0) := by
  obtain ⟨i, hi, hz0, hz1, hz2⟩ := info_parts h2
  have hlim : (l.length + m) * bytes ≤ 140737488355328 := Nat.le_trans (Nat.mul_le_mul b1 b2) (by decide)
  have hmax : l.length + m ≤ maxLen := Nat.le_trans b1 (by unfold maxLen; decide)
  have h1c : ∀ u ∈ news.map enc, u.oneCell' = true := fun u hu => by obtain ⟨x, _, rfl⟩ := List.mem_map.1 hu; exact henc x
  have hlen : (news.map enc).length = m * i.size := by rw [List.length_map, hm, hz1, Nat.mul_one]
  obtain ⟨v', w', hr, ho, hg, hnil⟩ := run_append_own (P := P) w base t ty e i z 1 bytes h1 hi hz0 hz1 hz2 hz (by decide) v l.length (l.map enc) hown ad m c (news.map enc) (by simp [hm]) hc h1c hmax hlim hb
  refine ⟨v', w', hr, by unfold OwnE; rw [List.map_append, List.length_append, hm]; exact ho, apd_of_grown hown hb hg ?_, hnil⟩
  intro hv k tk u hbx
  rcases hown.2 with ⟨rfl, hn⟩ | ⟨g, cap, cur, rfl, hbg, hh, hnc, hcm, hcs, htake⟩
  · exact hbx.kept hg (by simp [Value.ownBlock])
  · by_cases hkg : k = g
    · subst hkg
      have hcur : Obj.cells cur e (0, 0) = .cells #[u] tk (0, 0) := Option.some.inj (hh.symm.trans hbx)
      have hc1 : cur = #[u] := by injection hcur
      have hcap : cap = 1 := by rw [hc1] at hcs; simp at hcs; omega
      have hl1 : l ≠ [] := hv.elim (fun e => by cases e) id
      have hl2 : 1 ≤ l.length := List.length_pos_iff.2 hl1
      by_cases hm0 : m = 0
      · have hr2 := run_append_room (P := P) w t ty e i h1 hi k l.length cap cur hh ad m c (news.map enc) hlen hc h1c (by omega) (by rw [hlen, hz1]; omega)
        rw [hr] at hr2
        have hw : w' = _ := (Result.ok.inj hr2).2
        have hn0 : news = [] := List.length_eq_zero_iff.1 (by omega)
        rw [hw]
        have := setRow_heap w k cur (List.take (l.length * i.size) cur.toList ++ news.map enc ++ List.drop (l.length * i.size + (news.map enc).length) cur.toList).toArray e (0, 0) hh
        rw [hn0] at this ⊢
        simp only [List.map_nil, List.append_nil, List.length_nil, Nat.add_zero, List.take_append_drop, Array.toArray_toList] at this ⊢
        unfold Boxed
        rw [this, hcur]
      · have hr2 := run_append_grow (P := P) w t ty e i z h1 hi hz0 ⟨k, 0, none⟩ l.length cap (l.map enc) (by rw [List.length_map, hz1, Nat.mul_one]) (World.ownsRow.cells hown rfl) ad m c (news.map enc) hlen hc (by omega) (by have := b1; omega) (growslice_fits (by omega) (by rw [hz2]; exact hlim))
        rw [hr] at hr2
        have hw : w' = _ := (Result.ok.inj hr2).2
        rw [hw]
        exact Boxed.alloc (W := w.drew) hbx _
    · exact hbx.kept hg (by simp [Value.ownBlock]; exact hkg)

/-- At the operation. -/
theorem wpListIn_apd {α : Type} {F : Fence} {n : Nat} (w : World) {ops : Array Oper} {rest : List Oper} {o : Oper} {a : Act} {Q : Exit → Act → World → Prop} (hg : o.guard = none) (s x : Operand) (t : TypeId)
    (hop : o.op = Op.call { callee := Callee.builtin Builtin.append, args := #[s, x], argTypes := #[t, t] })
    (enc : α → Value) (henc : ∀ x, (enc x).oneCell' = true) (base : Nat) (e : TypeId) (z : Value) (bytes : Nat) (h1 : P.underlying t = some (.slice e))
    (h2 : (P.info? e).map (fun i => (i.zero, i.size, i.bytes)) = some (some z, 1, bytes)) (hz : z.cells.size = 1) (v : Value) (l : List α) (hs : a.eval s = v) (hown : OwnE enc e base v l w) (ad : Addr) (m c : Nat) (news : List α) (hx : a.eval x = .slice (some ad) m c) (hm : news.length = m)
    (hc : ∀ j u, (news.map enc)[j]? = some u → w.cell? (ad.add j) = some u) (b1 : l.length + m ≤ 1000000) (b2 : bytes ≤ 1000) (hb : base ≤ w.heap.size)
    (hK : ∀ v' w', OwnE enc e base v' (l ++ news) w' → Apd base v (l ≠ []) w w' → (v' = .slice none 0 0 ↔ v = .slice none 0 0 ∧ m = 0) → wpListIn F n P ops Q rest (a.put o.dst v') w') :
    wpListIn F n P ops Q (o :: rest) a w := by
  refine wpListIn_plain hg fun K hK' => ?_
  obtain ⟨v', w', hrun, r1, r2, r3⟩ := run_apd (P := P) enc henc w base t o.type e z bytes h1 h2 hz v l hown ad m c news hm hc b1 b2 hb
  unfold Oper.wpIn
  refine ⟨?_, ?_⟩
  · simp [Oper.about, hop, resolve, Target.leads, Sem.run_pure]
  · rw [Oper.semAt_plain F _ _ (by rw [hop]; intro c hc'; cases hc')]
    simp [execOp, hop, resolve, invoke, builtin, hs, hx, hrun, Result.andThen]
    exact hK' _ _ (hK v' w' r1 r2 r3)

theorem strCells_enc (l : List UInt8) : Lib.strCells ⟨l.toArray⟩ = l.map encB := by
  unfold Lib.strCells
  first | rfl | simp [encB]

/-- append(s, x...), x a string. -/
theorem wpListIn_apd_string {F : Fence} {n : Nat} (w : World) {ops : Array Oper} {rest : List Oper} {o : Oper} {a : Act} {Q : Exit → Act → World → Prop} (hg : o.guard = none) (s x : Operand) (t u : TypeId)
    (hop : o.op = Op.call { callee := Callee.builtin Builtin.append, args := #[s, x], argTypes := #[t, u] })
    (base : Nat) (e : TypeId) (h1 : P.underlying t = some (.slice e)) (hu : P.underlying u = some .string)
    (h2 : (P.info? e).map (fun i => (i.zero, i.size, i.bytes)) = some (some (.int .u8 0), 1, 1)) (v : Value) (l : List UInt8) (hs : a.eval s = v) (hown : OwnE encB e base v l w) (news : List UInt8) (hx : a.eval x = .string ⟨news.toArray⟩)
    (b1 : l.length + news.length ≤ 1000000) (hb : base ≤ w.heap.size)
    (hK : ∀ v' w', OwnE encB e base v' (l ++ news) w' → Below base w w' → (v' = .slice none 0 0 ↔ v = .slice none 0 0 ∧ news.length = 0) → wpListIn F n P ops Q rest (a.put o.dst v') w') :
    wpListIn F n P ops Q (o :: rest) a w := by
  obtain ⟨i, hi, hz0, hz1, hz2⟩ := info_parts h2
  refine wpListIn_plain hg fun K hK' => ?_
  have hsz : (⟨news.toArray⟩ : ByteArray).size = news.length := by show news.toArray.size = _; simp
  obtain ⟨v', w', hrun, r1, r2, r3⟩ := Lib.run_append_own_string (P := P) w base t u o.type e i h1 hu hi hz0 hz1 hz2 v l.length (l.map encB) hown ⟨news.toArray⟩ (by rw [hsz]; exact Nat.le_trans b1 (by unfold maxLen; decide)) (by rw [hsz]; omega) hb
  rw [hsz, strCells_enc] at r1
  rw [hsz] at r3
  unfold Oper.wpIn
  refine ⟨?_, ?_⟩
  · simp [Oper.about, hop, resolve, Target.leads, Sem.run_pure]
  · rw [Oper.semAt_plain F _ _ (by rw [hop]; intro c hc'; cases hc')]
    simp [execOp, hop, resolve, invoke, builtin, hs, hx, hrun, Result.andThen]
    exact hK' _ _ (hK v' w' (by unfold OwnE; rw [List.map_append, List.length_append]; exact r1) ((Below.refl base w).grown r2 hb (fun k e => (World.ownsRow.lt hown k e).1)) r3)

/-- string(b) of an owned slice of bytes. -/
theorem run_str {src dst e : TypeId} (hs : P.underlying src = some (.slice e)) (he : P.underlying e = some (.int .u8)) (hd : P.underlying dst = some .string) {base : Nat} {v : Value} {l : List UInt8} {W : World} (hown : OwnE encB e base v l W) :
    (convert src dst v).run P W = .ok (.string ⟨l.toArray⟩) W := by
  rcases hown.2 with ⟨rfl, hn⟩ | ⟨g, cap, cur, rfl, hbg, hh, hnc, hcm, hcs, htake⟩
  · have : l = [] := List.length_eq_zero_iff.1 hn
    subst this
    simp [convert, run_underlying, hs, he, hd, go_sem, Conv.bytesToString]
    rfl
  · exact run_convert_bytes_back W src dst e ⟨g, 0, none⟩ cap l hs he hd (fun j hj => World.ownsRow.cells hown rfl j _ (by simp [encB, hj]))

end Go.Proofs.YtbmppnfliiiobaaDoor

/- What all walks of the seat share: endings, cuts of strings, slices that are read, small equations. -/
namespace Go.Proofs.YtbmppnfliiiobaaDoor
open Go.RowKit Go.Shelf

theorem ret_str {a b : List UInt8} (h : a = b) : Ending.returned (.string ⟨a.toArray⟩) = .returned (.string ⟨b.toArray⟩) := by rw [h]

/-- s[lo:hi] of a string. -/
theorem run_cut {P : Program} {t : TypeId} (h : P.underlying t = some .string) {l l' : List UInt8} {lo hi : Int} (h0 : 0 ≤ lo) (h1 : lo ≤ hi) (h2 : hi ≤ l.length) (hl : l' = (l.drop lo.toNat).take (hi.toNat - lo.toNat)) (w : World) :
    (Instr.slice t (.string ⟨l.toArray⟩) (some (.int .i64 lo)) (some (.int .i64 hi)) none).run P w = .ok (.string ⟨l'.toArray⟩) w := by
  rw [run_slice_string w t ⟨l.toArray⟩ .i64 .i64 lo hi h h0 h1 (by show hi ≤ (l.toArray.size : Int); simpa using h2), ByteArray.extract_mk, hl]

theorem ext_from (l : List UInt8) (k : Nat) : (⟨l.toArray⟩ : ByteArray).extract k l.length = ⟨(l.drop k).toArray⟩ := by
  rw [ByteArray.extract_mk, List.take_of_length_le (by simp)]
theorem ext_cut (l : List UInt8) (a b : Nat) : (⟨l.toArray⟩ : ByteArray).extract a b = ⟨((l.drop a).take (b - a)).toArray⟩ := ByteArray.extract_mk l a b
/-- s[lo:] of a string. -/
theorem run_from {P : Program} {t : TypeId} (h : P.underlying t = some .string) {l l' : List UInt8} {lo : Int} (h0 : 0 ≤ lo) (h2 : lo ≤ l.length) (hl : l' = l.drop lo.toNat) (w : World) :
    (Instr.slice t (.string ⟨l.toArray⟩) (some (.int .i64 lo)) none none).run P w = .ok (.string ⟨l'.toArray⟩) w := by
  have hb : 0 ≤ lo ∧ lo ≤ ((⟨l.toArray⟩ : ByteArray).size : Int) := ⟨h0, by show lo ≤ (l.toArray.size : Int); simpa using h2⟩
  simp only [run_slice_string_from_if w t ⟨l.toArray⟩ .i64 lo h]
  rw [if_pos (by first | exact hb | exact hb.2)]
  rw [ByteArray.extract_mk, hl, show (⟨l.toArray⟩ : ByteArray).size = l.length from by show l.toArray.size = _; simp, List.take_of_length_le (by simp)]

theorem cloneLite_any (s : ByteArray) (w : World) (hs : s.size ≤ 281474976710656) :
    Calls Tryd.prog 105 #[.string s] w fun e w' => e = .returned (.string s) ∧ Below w.heap.size w w' :=
  AnyPu.stringslite_Clone Tryd.laysPu25 s w hs

set_option maxHeartbeats 400000 in
theorem clone_any (l : List UInt8) (w : World) (hs : l.length ≤ 281474976710656) :
    Calls Tryd.prog 97 #[.string ⟨l.toArray⟩] w fun e w' => e = .returned (.string ⟨l.toArray⟩) ∧ Below w.heap.size w w' := by
  go_enter Tryd.func97, Tryd.ntmps97
  go_wp2_with fail
  refine (cloneLite_any ⟨l.toArray⟩ _ (by show l.toArray.size ≤ _; simpa using hs)).mono ?_
  rintro e w' ⟨rfl, hb⟩
  go_wp2
  go_ret
  exact ⟨rfl, hb⟩
/-- Nothing but draws. -/
def Drew (w w' : World) : Prop := ∃ n, w' = w.drewN n
theorem Drew.refl (w : World) : Drew w w := ⟨0, rfl⟩
theorem Drew.below {B : Nat} {w w' : World} (h : Drew w w') : Below B w w' := by
  obtain ⟨n, rfl⟩ := h
  exact ⟨rfl, rfl, rfl, Nat.le_refl _, fun _ _ => rfl⟩

theorem Drew.drewN {w w' : World} (h : Drew w w') (k : Nat) : Drew w (w'.drewN k) := by
  obtain ⟨n, rfl⟩ := h
  exact ⟨n + k, World.drewN_drewN _ _ _⟩
theorem Drew.trans {w w1 w' : World} (h : Drew w w1) (h' : Drew w1 w') : Drew w w' := by
  obtain ⟨k, rfl⟩ := h'
  exact h.drewN k

theorem infoByte : (Tryd.prog.info? 5).map (fun i => (i.zero, i.size, i.bytes)) = some (some (.int .u8 0), 1, 1) := by kernel_rfl
theorem infoStr : (Tryd.prog.info? 9).map (fun i => (i.zero, i.size, i.bytes)) = some (some (.string ⟨#[]⟩), 1, 16) := by kernel_rfl
theorem infoInt : (Tryd.prog.info? 3).map (fun i => (i.zero, i.size, i.bytes)) = some (some (.int .i64 0), 1, 8) := by kernel_rfl

def encS (l : List UInt8) : Value := .string ⟨l.toArray⟩
theorem encS_one (l : List UInt8) : (encS l).oneCell' = true := rfl
theorem encI_one (x : Nat) : (encI x).oneCell' = true := rfl

/-- A slice of strings that is read: from an address on, or nil. -/
structure ReadS (v : Value) (ls : List (List UInt8)) (W : World) : Prop where
  form : ∃ ao cap, v = .slice ao ls.length cap ∧ ∀ (j : Nat) (h : j < ls.length), ∃ b off, ao = some ⟨b, off, none⟩ ∧ W.cell? ⟨b, off + j, none⟩ = some (encS ls[j])

/-- A slice of what the call owns, made with room. -/
theorem run_make0 {P : Program} {t e : TypeId} {z : Value} {bytes : Nat} (h1 : P.underlying t = some (.slice e)) (h2 : (P.info? e).map (fun i => (i.zero, i.size, i.bytes)) = some (some z, 1, bytes)) (c : Nat) (hc : bytes * c ≤ 281474976710656) (hc1 : c ≤ 1000000) (_hz : z.cells.size = 1) (W : World) :
    ∃ cur : Array Value, (Instr.makeSlice t (.int .i64 0) (.int .i64 (c : Int))).run P W = .ok (.slice (some ⟨W.heap.size, 0, none⟩) 0 c) (W.alloc (.cells cur e)) ∧ cur.size = c * 1 := by
  obtain ⟨i, hi, hz0, hz1, hz2⟩ := info_parts h2
  have hci : (c : Int) ≤ 9223372036854775807 := by omega
  have h := run_make (P := P) W t e i z h1 hi hz0 .i64 .i64 0 (c : Int) (by omega) (by omega) (by rw [hz2, ← Int.natCast_mul]; generalize bytes * c = p at hc; omega) hci
  refine ⟨madeCells z.cells ((c : Int).toNat * i.size), ?_, ?_⟩
  · rw [h]; rfl
  · rw [size_madeCells, hz1]; simp

theorem run_make0_all {P : Program} {t e : TypeId} {z : Value} {bytes : Nat} (h1 : P.underlying t = some (.slice e)) (h2 : (P.info? e).map (fun i => (i.zero, i.size, i.bytes)) = some (some z, 1, bytes)) (c : Nat) (hc : bytes * c ≤ 281474976710656) (hc1 : c ≤ 1000000) (_hz : z.cells.size = 1) :
    ∃ cur : Array Value, (∀ W : World, (Instr.makeSlice t (.int .i64 0) (.int .i64 (c : Int))).run P W = .ok (.slice (some ⟨W.heap.size, 0, none⟩) 0 c) (W.alloc (.cells cur e))) ∧ cur.size = c * 1 := by
  obtain ⟨i, hi, hz0, hz1, hz2⟩ := info_parts h2
  have hci : (c : Int) ≤ 9223372036854775807 := by omega
  have hcb : (i.bytes : Int) * (c : Int) ≤ 281474976710656 := by rw [hz2, ← Int.natCast_mul]; generalize bytes * c = p at hc; omega
  exact ⟨madeCells z.cells ((c : Int).toNat * i.size), fun W => run_make (P := P) W t e i z h1 hi hz0 .i64 .i64 0 (c : Int) (by omega) (by omega) hcb hci, by rw [size_madeCells, hz1]; simp⟩

/-- What a call that makes memory leaves as it was. -/
theorem bcell {W w1 : World} (hb : Below W.heap.size W w1) : (∀ b o, b < W.heap.size → w1.cell? ⟨b, o, none⟩ = W.cell? ⟨b, o, none⟩) ∧ (∀ b o, b < W.heap.size → w1.frozen? ⟨b, o, none⟩ = W.frozen? ⟨b, o, none⟩) :=
  ⟨fun b o h => hb.cell (p := ⟨b, o, none⟩) h, fun b o h => hb.frozen (p := ⟨b, o, none⟩) h⟩
theorem bcell1 {B : Nat} {W w1 : World} (hb : Below (B + 1) W w1) : (∀ o, w1.cell? ⟨B, o, none⟩ = W.cell? ⟨B, o, none⟩) ∧ (∀ o, w1.frozen? ⟨B, o, none⟩ = W.frozen? ⟨B, o, none⟩) :=
  ⟨fun o => hb.cell (p := ⟨B, o, none⟩) (Nat.lt_succ_self B), fun o => hb.frozen (p := ⟨B, o, none⟩) (Nat.lt_succ_self B)⟩
theorem ko_below {W W' : World} (h : Below W.heap.size W W') : KeepsOthers W W' := ⟨h.size, fun k _ hk _ => (h.block k (Array.getElem?_eq_some_iff.1 hk).1).trans hk⟩
theorem boxed_below {B : Nat} {t : TypeId} {v : Value} {W W' : World} (hb : Boxed W B t v) (h : Below W.heap.size W W') : Boxed W' B t v := (h.block B hb.lt).trans hb
/-- What lies behind the end of a loop over a function. -/
theorem boxed_putD {B D : Nat} {t : TypeId} {v : Value} {W : World} (hb : Boxed W B t v) {o : Obj} (hK : W.heap[D]? = some o) (ho : o.isCells = false) (o' : Obj) : Boxed (W.putObj D o') B t v :=
  hb.kept (grownBy_putObj' W D o') (fun e => by cases e; rw [show W.heap[B]? = _ from hb] at hK; cases hK; cases ho)
theorem below_putD {D : Nat} {w W : World} (h : Below w.heap.size w W) (hD : w.heap.size ≤ D) {o : Obj} (hK : W.heap[D]? = some o) (ho : o.isCells = false) (hw : o.isWalk = false) (o' : Obj) : Below w.heap.size w (W.putObj D o') :=
  h.trans (belowK_b (w := w) (Nat.le_refl _) W D o o' hD hK ho hw)
theorem readS_below {v : Value} {L : List (List UInt8)} {W W' : World} (h : ReadS v L W) (hb : Below W.heap.size W W') : ReadS v L W' := by
  obtain ⟨ao, cap, rfl, hc⟩ := h.form
  exact ⟨ao, cap, rfl, fun j hj => by
    obtain ⟨b, off, e, c⟩ := hc j hj
    exact ⟨b, off, e, (hb.cell (cell_lt c)).trans c⟩⟩
theorem readS_two (W : World) (x y : List UInt8) (t : TypeId) : ReadS (.slice (some ⟨W.heap.size, 0, none⟩) 2 2) [x, y] (W.alloc (.cells #[.string ⟨x.toArray⟩, .string ⟨y.toArray⟩] t)) := by
  refine ⟨some ⟨W.heap.size, 0, none⟩, 2, rfl, fun j hj => ⟨W.heap.size, 0, rfl, ?_⟩⟩
  have h := cells_new W [.string ⟨x.toArray⟩, .string ⟨y.toArray⟩] t j (encS ([x, y][j]'hj))
  have e : (⟨W.heap.size, 0, none⟩ : Addr).add j = ⟨W.heap.size, 0 + j, none⟩ := by unfold Addr.add; split <;> simp_all
  rw [e] at h
  refine h ?_
  match j, hj with
  | 0, _ => rfl
  | 1, _ => rfl

structure ReadI (v : Value) (zs : List Int) (W : World) : Prop where
  form : ∃ ao cap, v = .slice ao zs.length cap ∧ ∀ (j : Nat) (h : j < zs.length), ∃ b off, ao = some ⟨b, off, none⟩ ∧ W.cell? ⟨b, off + j, none⟩ = some (.int .i64 zs[j])
structure ReadB (v : Value) (l : List UInt8) (W : World) : Prop where
  form : ∃ ao cap, v = .slice ao l.length cap ∧ ∀ (j : Nat) (h : j < l.length), ∃ b off, ao = some ⟨b, off, none⟩ ∧ W.cell? ⟨b, off + j, none⟩ = some (encB l[j])

theorem app_bytes (a b : List UInt8) : (⟨a.toArray⟩ : ByteArray) ++ ⟨b.toArray⟩ = ⟨(a ++ b).toArray⟩ := by apply ByteArray.ext; simp [ByteArray.data_append]
/-- string of a fresh list of bytes. -/
theorem run_lit_str (l : List UInt8) (vs : List Value) (hv : l.map encB = vs) (W : World) :
    (convert 34 9 (.slice (some ⟨W.heap.size, 0, none⟩) l.length l.length)).run Tryd.prog (W.alloc (.cells vs.toArray 5)) = .ok (.string ⟨l.toArray⟩) (W.alloc (.cells vs.toArray 5)) := by
  subst hv
  exact run_convert_bytes_back (P := Tryd.prog) _ 34 9 5 ⟨W.heap.size, 0, none⟩ l.length l Tryd.underlying34 Tryd.underlying5 Tryd.underlying9 (fun j hj => cells_new W (l.map encB) 5 j (encB l[j]) (by simp [hj]))
theorem run_arg_str {v : Value} {l : List UInt8} {W : World} (h : ReadB v l W) (hne : l ≠ []) : (convert 34 9 v).run Tryd.prog W = .ok (.string ⟨l.toArray⟩) W := by
  obtain ⟨ao, cap, rfl, hc⟩ := h.form
  cases l with
  | nil => exact absurd rfl hne
  | cons c l =>
    obtain ⟨b, off, rfl, _⟩ := hc 0 (by simp)
    exact run_convert_bytes_back (P := Tryd.prog) W 34 9 5 ⟨b, off, none⟩ cap (c :: l) Tryd.underlying34 Tryd.underlying5 Tryd.underlying9 (fun j hj => by
      obtain ⟨b', off', e, c1⟩ := hc j hj
      cases e
      have e2 : (⟨b, off, none⟩ : Addr).add j = ⟨b, off + j, none⟩ := by unfold Addr.add; split <;> simp_all
      rw [e2]; exact c1)
theorem readB_below {v : Value} {l : List UInt8} {W W' : World} (h : ReadB v l W) (hb : Below W.heap.size W W') : ReadB v l W' := by
  obtain ⟨ao, cap, rfl, hc⟩ := h.form
  exact ⟨ao, cap, rfl, fun j hj => by
    obtain ⟨b, off, e, c⟩ := hc j hj
    exact ⟨b, off, e, (hb.cell (cell_lt c)).trans c⟩⟩

theorem nbeqI {a b : UInt8} (h : a ≠ b) : ((a.toNat : Int) == (b.toNat : Int)) = false := by rw [beq_eq_false_iff_ne]; intro e; exact h (by rw [← UInt8.toNat_inj]; exact Int.ofNat.inj e)
end Go.Proofs.YtbmppnfliiiobaaDoor

/- The frame of the laws of chapters 6 and 7: arguments that are lists. -/
set_option maxRecDepth 100000
namespace Go.Proofs.YtbmppnfliiiobaaDoor
open Go.ChangeShapes Go.WideShapes Go.ChangeAt Go.RowKit
open Go.ChangeMaps (open_string shut_string)
theorem getD_at {α : Type} {l : List α} {d : α} {i : Nat} (h : i < l.length) : l.getD i d = l[i] := by simp [List.getD, h]
theorem zero_maxLen : 0 ≤ maxLen := Nat.zero_le _
theorem maxLen_eq : maxLen = 9223372036854775807 := rfl
structure ReadO (v : Value) (l : List Bool) (W : World) : Prop where
  form : ∃ ao cap, v = .slice ao l.length cap ∧ ∀ (j : Nat) (h : j < l.length), ∃ b off, ao = some ⟨b, off, none⟩ ∧ W.cell? ⟨b, off + j, none⟩ = some (.bool l[j])
section
variable {H : Type} {enc : TypeId × Value → H} {W : World}
theorem arg_string {r : Reach} {b0 : Nat} {v : Value} {d : DataW H} {ps : List MemPlace} (hval : Value.okWide Tryd.prog W r b0 9 v) (hd : DataW.Trod enc Tryd.prog W 0 (fun _ => true) true 9 v d ps) :
    ∃ l : List UInt8, v = .string ⟨l.toArray⟩ ∧ l.length ≤ maxLen := by
  obtain ⟨s, rfl, _, _, hs⟩ := open_string Tryd.underlying9 hval hd
  obtain ⟨⟨l⟩⟩ := s
  exact ⟨l, rfl, (show (⟨⟨l⟩⟩ : ByteArray).size = l.length from rfl) ▸ hs⟩
theorem arg_ints {b0 : Nat} {v : Value} {d : DataW H} {ps : List MemPlace} (hval : Value.okWide Tryd.prog W .any b0 54 v) (hd : DataW.Trod enc Tryd.prog W 0 (fun _ => true) true 54 v d ps) :
    ∃ zs : List Int, ReadI v zs W ∧ (∀ z ∈ zs, -9223372036854775808 ≤ z ∧ z ≤ 9223372036854775807) ∧ zs.length ≤ maxLen := by
  obtain ⟨a0, len, cap, rfl⟩ := okWide_slice Tryd.underlying54 hval
  obtain ⟨fuel, hf⟩ := hd
  rcases open_ints Tryd.underlying54 Tryd.underlying3 (by kernel_rfl) hf with ⟨hcs, _⟩ | ⟨a, len', cap', zs, hcs, _, hle, hmax, hall, _, hc, hw⟩
  · simp [Value.cells] at hcs
    obtain ⟨rfl, rfl, rfl⟩ := hcs
    exact ⟨[], ⟨none, 0, rfl, fun j hj => by simp at hj⟩, by simp, zero_maxLen⟩
  · simp [Value.cells] at hcs
    obtain ⟨rfl, rfl, rfl⟩ := hcs
    simp only [if_true] at hall
    refine ⟨zs.take len, ⟨some a, cap, by rw [List.length_take]; congr 1; omega, fun j hj => ?_⟩, fun z hz => bounds_i64 (hw z (List.mem_of_mem_take hz)), by rw [List.length_take]; omega⟩
    rw [List.length_take] at hj
    obtain ⟨b, off, rfl, hcc⟩ := ints_at hc (by omega)
    refine ⟨b, off, rfl, ?_⟩
    rw [hcc j (by omega), List.getElem_take, getD_at (by omega)]
theorem arg_bools {b0 : Nat} {v : Value} {d : DataW H} {ps : List MemPlace} (hval : Value.okWide Tryd.prog W .any b0 55 v) (hd : DataW.Trod enc Tryd.prog W 0 (fun _ => true) true 55 v d ps) :
    ∃ bs : List Bool, ReadO v bs W ∧ bs.length ≤ maxLen := by
  obtain ⟨a0, len, cap, rfl⟩ := okWide_slice Tryd.underlying55 hval
  obtain ⟨fuel, hf⟩ := hd
  rcases Go.Deep.open_bools Tryd.underlying55 Tryd.underlying4 (by kernel_rfl) hf with ⟨hcs, _⟩ | ⟨a, len', cap', F, hcs, _, hle, hmax, _, hc⟩
  · simp [Value.cells] at hcs
    obtain ⟨rfl, rfl, rfl⟩ := hcs
    exact ⟨[], ⟨none, 0, rfl, fun j hj => by simp at hj⟩, zero_maxLen⟩
  · simp [Value.cells] at hcs
    obtain ⟨rfl, rfl, rfl⟩ := hcs
    refine ⟨(List.range len).map F, ⟨some a, cap, by simp, fun j hj => ?_⟩, by simp; omega⟩
    rw [List.length_map, List.length_range] at hj
    have h0 := hc 0 (by omega)
    obtain ⟨b, off, spot⟩ := a
    have hspot : spot = none := by simpa [Addr.add] using World.cell?_spot h0
    subst hspot
    refine ⟨b, off, rfl, ?_⟩
    have h1 := hc j (by omega)
    rw [add_plain] at h1
    rw [h1, List.getElem_map, List.getElem_range]
end
theorem readT7 : ∀ t ∈ [3, 54, 9, 55, 82], Tryd.prog.readableRec t = true ∧ t < Tryd.prog.types.size := by
  intro t ht
  simp only [List.mem_cons, List.not_mem_nil, or_false] at ht
  rcases ht with rfl | rfl | rfl | rfl | rfl
  all_goals exact ⟨by kernel_rfl, of_decide_eq_true (by kernel_rfl)⟩
theorem standT7 : ∀ t ∈ [3, 54, 9, 55, 82], Tryd.prog.wantsStandIn t = false := by
  intro t ht
  simp only [List.mem_cons, List.not_mem_nil, or_false] at ht
  rcases ht with rfl | rfl | rfl | rfl | rfl
  all_goals kernel_rfl
end Go.Proofs.YtbmppnfliiiobaaDoor

/- Round. -/
namespace Go.Proofs.YtbmppnfliiiobaaDoor
open Go.RowKit Go.Shelf

def roundI (k n : Int) : Int := (k.tmod n + n).tmod n
theorem roundI_bounds (k n : Int) (h : 0 < n) : 0 ≤ roundI k n ∧ roundI k n < n := by
  unfold roundI
  have h1 : -n < k.tmod n := Int.lt_tmod_of_pos k h
  have h2 : 0 ≤ k.tmod n + n := by omega
  exact ⟨Int.tmod_nonneg _ h2, Int.tmod_lt_of_pos _ h⟩

set_option maxHeartbeats 400000 in
theorem round_any (k n : Int) (w : World) (h1 : 1 ≤ n) (h2 : n ≤ 1000000) (_hk1 : -9223372036854775808 ≤ k) (_hk2 : k ≤ 9223372036854775807) :
    Calls Tryd.prog 28 #[.int .i64 k, .int .i64 n] w fun e w' => e = .returned (.int .i64 (roundI k n)) ∧ w = w' := by
  have hn0 : (n == 0) = false := by rw [beq_eq_false_iff_ne]; omega
  go_enter Tryd.func28, Tryd.ntmps28
  go_wp2
  go_ret
  have hlo := Int.lt_tmod_of_pos k (show 0 < n by omega)
  have hhi := Int.tmod_lt_of_pos k (show 0 < n by omega)
  refine ⟨ret_int ?_, rfl⟩
  unfold roundI
  generalize k.tmod n = m at *
  rw [show wrap64 (m + n) = m + n by unfold wrap64; omega]
end Go.Proofs.YtbmppnfliiiobaaDoor
