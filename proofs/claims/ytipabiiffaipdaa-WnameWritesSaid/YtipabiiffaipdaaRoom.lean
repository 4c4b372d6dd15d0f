/- An array of 255 bytes, filled from its head on by appends; a part of a slice of bytes. -/
import Derived.Test.YtipabiiffaipdaaPlaces
import Derived.Deep.AppendSrc
import Derived.Deep.MidRow
import Derived.Deep.RegionLaw
import Derived.Deep.Upon
namespace Go.Proofs.Ytipabiiffaipdaa
open Go.RowKit Go.Shelf

theorem readB_src {P : Program} {tx e : TypeId} (hk : P.underlying tx = some (.slice e)) {v : Value} {l : List UInt8} {W : World} (h : ReadB v l W) : Src P 1 tx v l.length (l.map encB) W := by
  obtain ⟨ao, cap, rfl, hc⟩ := h.form
  cases ao with
  | none =>
    have hn : l = [] := by
      cases l with
      | nil => rfl
      | cons a l2 => obtain ⟨_, _, e, _⟩ := hc 0 (by simp); cases e
    subst hn
    exact Src.ofNil W hk cap
  | some ad =>
    refine Src.ofSlice W hk ad l.length cap _ (by simp) (fun j u hj => ?_) (fun u hu => by obtain ⟨x, _, rfl⟩ := List.mem_map.1 hu; rfl)
    rw [List.getElem?_map] at hj
    obtain ⟨y, hy, rfl⟩ := Option.map_eq_some_iff.1 hj
    obtain ⟨hj', rfl⟩ := List.getElem?_eq_some_iff.1 hy
    obtain ⟨b, off, e, c⟩ := hc j hj'
    cases e
    have e2 : (⟨b, off, none⟩ : Addr).add j = ⟨b, off + j, none⟩ := by unfold Addr.add; split <;> simp_all
    rw [e2]; exact c

/-- A block of 255 cells, whose first ones are l. -/
structure Room (B : Nat) (l : List UInt8) (W : World) : Prop where
  cells : ∀ (j : Nat) (h : j < l.length), W.cell? ⟨B, 0 + j, none⟩ = some (encB l[j])
  there : ∀ j, j < 255 → (W.cell? ⟨B, j, none⟩).isSome = true ∧ W.frozen? ⟨B, j, none⟩ = false
theorem Room.lt {B : Nat} {l : List UInt8} {W : World} (h : Room B l W) : B < W.heap.size := by
  obtain ⟨u, hu⟩ := Option.isSome_iff_exists.1 (h.there 0 (by omega)).1
  exact cell_lt hu
theorem Room.below {B : Nat} {l : List UInt8} {W W' : World} (h : Room B l W) (hb : Below W.heap.size W W') : Room B l W' :=
  ⟨fun j hj => (hb.cell (p := ⟨B, 0 + j, none⟩) h.lt).trans (h.cells j hj), fun j hj => by rw [hb.cell (p := ⟨B, j, none⟩) h.lt, hb.frozen (p := ⟨B, j, none⟩) h.lt]; exact h.there j hj⟩
theorem Room.read {B : Nat} {l : List UInt8} {W : World} (h : Room B l W) : ReadB (.slice (some ⟨B, 0, none⟩) l.length 255) l W :=
  ⟨some ⟨B, 0, none⟩, 255, rfl, fun j hj => ⟨B, 0, rfl, h.cells j hj⟩⟩
theorem below_setCells (W : World) (B o : Nat) (vs : List Value) : Below B W (W.setCells B o vs) := by
  induction vs generalizing o W with
  | nil => exact Below.refl _ _
  | cons v r ih =>
    exact (((Below.refl B W).setCell (p := ⟨B, o, none⟩) (Nat.le_refl _) v)).trans (ih _ (o + 1))

theorem grown_setCells (W : World) (B o : Nat) (vs : List Value) : W.grownBy (W.setCells B o vs) (some B) := by
  induction vs generalizing o W with
  | nil => exact ⟨rfl, rfl, rfl, Nat.le_refl _, fun _ _ _ => rfl⟩
  | cons v r ih =>
    have h1 := ih (W.setCell ⟨B, o, none⟩ v) (o + 1)
    have h2 : (W.setCell ⟨B, o, none⟩ v).heap.size = W.heap.size := by simp [World.setCell]
    exact ⟨h1.os, h1.tape, h1.output, by rw [← h2]; exact h1.size, fun k hk hne => (h1.block k (by rw [h2]; exact hk) hne).trans (Below.heap_setCell W ⟨B, o, none⟩ v k (fun e => hne (by rw [e])))⟩

theorem run_room {P : Program} (W : World) (t ty e : TypeId) (i : TypeInfo) (h1 : P.underlying t = some (.slice e)) (h2 : P.info? e = some i) (hz : i.size = 1) {B : Nat} {l news : List UInt8} (hr : Room B l W) {x : Value} (hx : ReadB x news W) (hb : l.length + news.length ≤ 255) :
    ∃ W', (Builtin.append_ #[t, t] ty #[.slice (some ⟨B, 0, none⟩) l.length 255, x]).run P W = .ok (.slice (some ⟨B, 0, none⟩) (l.length + news.length) 255) W' ∧ Room B (l ++ news) W' ∧ Below B W W' ∧ W.grownBy W' (some B) := by
  have hs := readB_src (tx := t) h1 hx
  have hlm : (news.map encB).length = news.length := List.length_map _
  have hrun := run_append_room_src (P := P) W t t ty e i h1 h2 B 0 l.length 255 x news.length (news.map encB) (by rw [hz]; exact hs) hb
    (fun j hj => by rw [hz, Nat.mul_one, Nat.zero_add]; exact (hr.there _ (by omega)).1) (fun j hj => by rw [hz, Nat.mul_one, Nat.zero_add]; exact (hr.there _ (by omega)).2)
  rw [hz, Nat.mul_one, Nat.zero_add] at hrun
  refine ⟨_, hrun, ⟨fun j hj => ?_, fun j hj => ⟨?_, ?_⟩⟩, below_setCells W B _ _, grown_setCells W B _ _⟩
  · rw [List.length_append] at hj
    by_cases hjl : j < l.length
    · rw [World.cell?_setCells_out B _ _ _ _ (fun _ _ => .inl (by show 0 + j < _; omega)), hr.cells j hjl, List.getElem_append_left hjl]
    · have := World.cell?_setCells_in B (news.map encB) l.length W (fun k hk => (hr.there _ (by omega)).1) (j - l.length) (by omega)
      rw [show 0 + j = l.length + (j - l.length) by omega, this, List.getElem_map, List.getElem_append_right (by omega)]
  · exact World.isSome_setCells B _ _ _ _ (hr.there j hj).1
  · rw [World.frozen?_setCells]; exact (hr.there j hj).2

theorem wpList_room {P : Program} (w : World) {ops : Array Oper} {rest : List Oper} {o : Oper} {a : Act} {Q : Exit → Act → World → Prop} (hg : o.guard = none) (s x : Operand) (t : TypeId)
    (hop : o.op = Op.call { callee := Callee.builtin Builtin.append, args := #[s, x], argTypes := #[t, t] })
    (e : TypeId) (i : TypeInfo) (h1 : P.underlying t = some (.slice e)) (h2 : P.info? e = some i) (hz : i.size = 1) (B : Nat) (l news : List UInt8) (hr : Room B l w) (hs : a.eval s = .slice (some ⟨B, 0, none⟩) l.length 255)
    (xv : Value) (hx : a.eval x = xv) (hxr : ReadB xv news w) (hb : l.length + news.length ≤ 255)
    (hK : ∀ w', Room B (l ++ news) w' → Below B w w' → w.grownBy w' (some B) → wpList P ops Q rest (a.put o.dst (.slice (some ⟨B, 0, none⟩) (l.length + news.length) 255)) w') :
    wpList P ops Q (o :: rest) a w := by
  refine wpList_plain hg fun K hK' => ?_
  obtain ⟨w', hrun, r1, r2, r3⟩ := run_room (P := P) w t o.type e i h1 h2 hz hr hxr hb
  unfold Oper.wp
  simp [execOp, hop, resolve, invoke, builtin, hs, hx, hrun, Result.andThen]
  exact hK' _ _ (hK w' r1 r2 r3)

theorem step_room {P : Program} {ops : Array Oper} {o : Oper} {a : Act} {w : World} {K : Act → World → Prop} {Q : Exit → Act → World → Prop} {E : Prop}
    (hg : o.guard = none) (s x : Operand) (t : TypeId) (hop : o.op = Op.call { callee := Callee.builtin Builtin.append, args := #[s, x], argTypes := #[t, t] })
    (e : TypeId) (i : TypeInfo) (h1 : P.underlying t = some (.slice e)) (h2 : P.info? e = some i) (hz : i.size = 1) (B : Nat) (l news : List UInt8) (hr : Room B l w) (hs : a.eval s = .slice (some ⟨B, 0, none⟩) l.length 255)
    (xv : Value) (hx : a.eval x = xv) (hxr : ReadB xv news w) (hb : l.length + news.length ≤ 255)
    (hK : ∀ w', Room B (l ++ news) w' → Below B w w' → w.grownBy w' (some B) → K (a.put o.dst (.slice (some ⟨B, 0, none⟩) (l.length + news.length) 255)) w') :
    if Region.wanted o (yielded ops a.tmps) = true then Oper.wp P o a w K Q else E := by
  have hw : Region.wanted o (yielded ops a.tmps) = true := by simp [Region.wanted, hg]
  rw [if_pos hw]
  obtain ⟨w', hrun, r1, r2, r3⟩ := run_room (P := P) w t o.type e i h1 h2 hz hr hxr hb
  unfold Oper.wp
  simp [execOp, hop, resolve, invoke, builtin, hs, hx, hrun, Result.andThen]
  exact hK w' r1 r2 r3

/-- string(b) of what is read behind an address. -/
theorem run_read_str {v : Value} {l : List UInt8} {W : World} (h : ReadB v l W) : (convert 22 9 v).run Try.prog W = .ok (.string ⟨l.toArray⟩) W := by
  by_cases hne : l = []
  · subst hne
    obtain ⟨ao, cap, rfl, hc⟩ := h.form
    cases ao with
    | none =>
      simp [convert, run_underlying, Try.underlying22, Try.underlying5, Try.underlying9, go_sem, Conv.bytesToString]
      rfl
    | some ad =>
      exact run_convert_bytes_back (P := Try.prog) W 22 9 5 ad cap [] Try.underlying22 Try.underlying5 Try.underlying9 (fun j hj => by simp at hj)
  · exact run_arg_str h hne

/-- b[p:e] of what is read. -/
theorem run_part {v : Value} {l : List UInt8} {W : World} (h : ReadB v l W) (hcap : ∀ ao n c, v = .slice ao n c → n ≤ c) {p e : Nat} (hpe : p ≤ e) (he : e ≤ l.length) :
    ∃ v', (∀ W, (Instr.slice 22 v (some (.int .i64 (p : Int))) (some (.int .i64 (e : Int))) none).run Try.prog W = .ok v' W) ∧ ReadB v' ((l.drop p).take (e - p)) W := by
  have hu : Try.prog.underlying 22 = some (.slice (Try.prog.elem 22)) := by kernel_rfl
  have hs : ∀ W, (sizeOf (Try.prog.elem 22)).run Try.prog W = .ok 1 W := fun W => by
    obtain ⟨i, hi, _, h1, _⟩ := info_parts infoByte
    have he : Try.prog.elem 22 = 5 := by kernel_rfl
    rw [he]
    simp [sizeOf, typeInfo, hi, h1]
  obtain ⟨ao, cap, rfl, hc⟩ := h.form
  have hcap' := hcap _ _ _ rfl
  refine ⟨sliced ao p e cap 1, fun W => by rw [run_slice_lh (w := W) 22 ao l.length cap hu .i64 .i64 (p : Int) (e : Int) (by omega) (by omega) (by omega), hs W]; rfl, ?_⟩
  have hlen : ((l.drop p).take (e - p)).length = e - p := by rw [List.length_take, List.length_drop]; omega
  refine ⟨if cap = p then ao else ao.map (·.add (p * 1)), cap - p, by unfold sliced; rw [hlen], fun j hj => ?_⟩
  rw [hlen] at hj
  obtain ⟨b, off, e', c⟩ := hc (p + j) (by omega)
  subst e'
  refine ⟨b, off + p, ?_, ?_⟩
  · rw [if_neg (by omega)]
    simp only [Option.map_some, Nat.mul_one, Option.some.injEq]
    unfold Addr.add; split <;> simp_all
  · rw [show off + p + j = off + (p + j) by omega, c]
    simp [List.getElem_take, List.getElem_drop]
end Go.Proofs.Ytipabiiffaipdaa
