/- 10 texts put together: Mtc, Mrd, Mwt, RLabels, RValid, RFold, Ocl, Ocw, Csl, Mww. -/
import Derived.OwnWalkIn
import Derived.TacticsInMore
import Derived.LoopNIn
import Derived.LoopIn
import Derived.Test.YtagjjpmhacknpaaDoorJB11
import Derived.Test.YtagjjpmhacknpaaDoorJB20
import Derived.Test.YtagjjpmhacknpaaDoorJB23
/- The document's own table: rows that are copied, and one number in them changed. -/
set_option maxRecDepth 100000
namespace Go.Proofs.YtagjjpmhacknpaaDoor
open Go Go.RowKit Go.Shelf
attribute [local go_sem] Oper.semAt_some
section
variable {α : Type} {enc : α → List Value} {k : Nat} {e : TypeId} {base : Nat} {L : List α}
theorem wpList_litRK {P : Program} (hk : ∀ a, (enc a).length = k) (h0 : 0 < k) {x : Nat → Prop} {w : World} {t : TypeId} {z : Value} {bytes : Nat} (h1 : P.underlying t = some (.slice e))
    (h2 : (P.info? e).map (fun i => (i.zero, i.size, i.bytes)) = some (some z, k, bytes)) (hz : z.cells.size = k) (b2 : bytes ≤ 1000) {ops : Array Oper} {rest : List Oper} {o : Oper} {a : Act} {Q : Exit → Act → World → Prop} (hg : o.guard = none)
    (s y : Operand) (hop : o.op = Op.call { callee := Callee.builtin Builtin.append, args := #[s, y], argTypes := #[t, t] })
    (base g : Nat) (hs : a.eval s = .slice (some ⟨g, 0, none⟩) 0 0) (hown : OwnK enc k e base (.slice (some ⟨g, 0, none⟩) 0 0) [] w) (yv : Value) (news : List α) (hy : a.eval y = yv) (hr : RK enc x yv news w) (b1 : news.length ≤ 1000000) (hb : base ≤ w.heap.size)
    (hK : ∀ v' w', OwnK enc k e base v' news w' → Below w.heap.size w w' → wpList P ops Q rest (a.put o.dst v') w') : wpList P ops Q (o :: rest) a w :=
  wpList_plain hg fun _ hK' => wp_litRK (base := base) hk h0 h1 h2 hz b2 s y hop ⟨g, hs, hown⟩ yv news hy hr b1 hb fun v' w' r1 r2 => hK' _ _ (hK v' w' r1 r2)
theorem wpList_apRK {P : Program} (hk : ∀ a, (enc a).length = k) (h0 : 0 < k) (henc : ∀ a, ∀ u ∈ enc a, u.oneCell' = true) {x : Nat → Prop} {w : World} {t : TypeId} {z : Value} {bytes : Nat} (h1 : P.underlying t = some (.slice e))
    (h2 : (P.info? e).map (fun i => (i.zero, i.size, i.bytes)) = some (some z, k, bytes)) (hz : z.cells.size = k) (b2 : bytes ≤ 1000) {ops : Array Oper} {rest : List Oper} {o : Oper} {a : Act} {Q : Exit → Act → World → Prop} (hg : o.guard = none)
    (s y : Operand) (hop : o.op = Op.call { callee := Callee.builtin Builtin.append, args := #[s, y], argTypes := #[t, t] })
    (base : Nat) (v : Value) (l : List α) (hs : a.eval s = v) (hown : OwnK enc k e base v l w) (yv : Value) (news : List α) (hy : a.eval y = yv) (hr : RK enc x yv news w) (b1 : l.length + news.length ≤ 1000000) (hb : base ≤ w.heap.size)
    (hK : ∀ v' w', OwnK enc k e base v' (l ++ news) w' → Below base w w' → wpList P ops Q rest (a.put o.dst v') w') : wpList P ops Q (o :: rest) a w :=
  wpList_plain hg fun _ hK' => wp_apKeep (base := base) (L := l ++ news) hk h0 henc h1 h2 hz b2 s y hop v l hs hown yv news hy hr b1 hb (List.prefix_refl _) fun v' w' r1 r2 _ => hK' _ _ (hK v' w' r1 r2.1)
end
theorem flatE_set : ∀ (E : List Ent) (i : Nat) (h : i < E.length) (u : Nat), (E.flatMap encE).set (i * 3 + 2) (.int .i64 (u : Int)) = (E.set i ⟨E[i].id, u, E[i].name⟩).flatMap encE
  | [], i, h, u => by simp at h
  | y :: E, 0, h, u => by simp [encE]
  | y :: E, i + 1, h, u => by
    have ih := flatE_set E i (by simpa using h) u
    have e1 : (i + 1) * 3 + 2 = (encE y).length + (i * 3 + 2) := by rw [encE_len, Nat.succ_mul]; omega
    rw [List.flatMap_cons, e1, List.set_append_right _ _ (by omega), Nat.add_sub_cancel_left, ih, List.set_cons_succ, List.flatMap_cons]
    rfl
end Go.Proofs.YtagjjpmhacknpaaDoor

/- The document's own arena: Read. -/
set_option maxRecDepth 100000
namespace Go.Proofs.YtagjjpmhacknpaaDoor
open Go Go.RowKit Go.Shelf
attribute [local go_sem] Oper.semAt_some
/-- s[m:q]. -/
theorem run_cutK {α : Type} {enc : α → List Value} {x : Nat → Prop} {l : List α} {W : World} {P : Program} {k : Nat} (hk : ∀ a, (enc a).length = k) {t e : TypeId} {z : Value} {bytes : Nat} (h1 : P.underlying t = some (.slice e)) (h2 : (P.info? e).map (fun i => (i.zero, i.size, i.bytes)) = some (some z, k, bytes)) {ao : Option Addr} {n cap : Nat} (h : RK enc x (.slice ao n cap) l W) {m q : Nat} (hm : m ≤ q) (hq : q ≤ l.length) :
    ∃ v, (∀ W' : World, (Instr.slice t (.slice ao n cap) (some (.int .i64 (m : Int))) (some (.int .i64 (q : Int))) none).run P W' = .ok v W') ∧ RK enc x v ((l.take q).drop m) W := by
  obtain ⟨rfl, hcap⟩ := h.len
  have hs : ∀ W', (sizeOf e).run P W' = .ok k W' := fun W' => by
    obtain ⟨i, hi, _, h1, _⟩ := info_parts h2
    simp [sizeOf, typeInfo, hi, h1]
  have he : P.elem t = e := by simp [Program.elem, h1]
  subst he
  refine ⟨sliced ao m q cap k, fun W' => by rw [run_slice_lh (w := W') t ao l.length cap h1 .i64 .i64 (m : Int) (q : Int) (by omega) (by omega) (by omega), hs W']; rfl, ?_⟩
  obtain ⟨ao', cap', e', hc, hfm⟩ := h.form
  cases e'
  unfold sliced
  refine ⟨_, _, by rw [List.length_drop, List.length_take, Nat.min_eq_left hq], by rw [List.length_drop, List.length_take]; omega, fun j u hu => ?_⟩
  have hj : j < ((l.take q).drop m).length * k := by
    rw [← flat_len enc k hk]
    exact (List.getElem?_eq_some_iff.1 hu).1
  rw [flat_drop hk] at hu
  obtain ⟨b, off, rfl, hx, c⟩ := hfm _ u (flat_take hk q l _ u hu)
  have hne : ¬ cap = m := fun e => by
    rw [List.length_drop, List.length_take] at hj
    have : min q l.length - m = 0 := by omega
    rw [this] at hj
    omega
  exact ⟨b, off + m * k, by rw [if_neg hne]; simp [Addr.add], hx, by rw [Nat.add_assoc]; exact c⟩
theorem own_litC {n : Nat} (W : World) (h : n ≤ W.heap.size) : OwnK encC 1 5 n (.slice (some ⟨W.heap.size, 0, none⟩) 0 0) [] (W.alloc (.cells #[] 5)) :=
  World.ownsRow_lit (base := n) (e := 5) (size := 1) W #[] 0 h (by simp) rfl
def MReadRet (P : List Rp) (z at_ n : Int) (w : World) (e : Ending) (w' : World) : Prop :=
  Below w.heap.size w w' ∧ (((∀ p ∈ P, (p.2.1 : Int) ≠ z) ∧ e = .returned (.tuple #[.slice none 0 0, .int .i64 5])) ∨ ∃ (i : Nat) (hi : i < P.length), (P[i].2.1 : Int) = z ∧
    ((¬ Within P[i].2.2.length at_ n ∧ e = .returned (.tuple #[.slice none 0 0, .int .i64 1])) ∨ (Within P[i].2.2.length at_ n ∧ ∃ v l, l = (P[i].2.2.drop at_.toNat).take n.toNat ∧ e = .returned (.tuple #[v, .int .i64 0]) ∧ OwnK encC 1 5 w.heap.size v l w')))
set_option maxHeartbeats 8000000 in
theorem mread_any (x : Nat → Prop) (m B : Nat) (P : List Rp) (z a n : Int) (w : World) (h : MA x m B P w) (hl : P.length ≤ 900000) (he : ∀ p ∈ P, p.2.2.length ≤ 4096)
    (hI1 : -9223372036854775808 ≤ a) (hI2 : a ≤ 9223372036854775807) (hI3 : -9223372036854775808 ≤ n) (hI4 : n ≤ 9223372036854775807) :
    Calls Tryd.prog 13 #[.pointer (some ⟨m, 0, none⟩), .int .i64 z, .int .i64 a, .int .i64 n] w (MReadRet P z a n w) := by
  have HAT := Lib.hid (mat_any x m B P z w h (by omega))
  have HM := Lib.hid h
  have HE := Lib.hid he
  obtain ⟨ao, cap, c0, c1, hcap, hrk, hrow⟩ := h.box
  have HROW := Lib.hid hrow
  clear hrow h hrk he
  go_enter Tryd.func13, Tryd.ntmps13
  go_wp2_with fail
  refine HAT.out.mono ?_
  rintro e w' ⟨⟨i, hi, rfl, hz⟩ | ⟨rfl, hn⟩, rfl⟩
  · obtain ⟨b, off, rfl, hx, d0, d1⟩ := HROW.out i hi
    have hlb := HE.out P[i] (List.getElem_mem hi)
    have hrc := (HM.out.each P[i] (List.getElem_mem hi)).2
    obtain ⟨ao2, c2, hv⟩ := Rp.form hrc
    obtain ⟨q, hq⟩ : ∃ q, P[i].2.2 = q := ⟨_, rfl⟩
    rw [hv] at d1 hrc
    rw [hq] at d1 hrc hlb
    obtain ⟨nq, hnq⟩ : ∃ nq, q.length = nq := ⟨_, rfl⟩
    rw [hnq] at d1 hrc hlb
    have HRC := Lib.hid hrc
    have HRET : Hid (∀ e w', (Below w.heap.size w w' ∧ ((¬ Within nq a n ∧ e = .returned (.tuple #[.slice none 0 0, .int .i64 1])) ∨ (Within nq a n ∧ ∃ v l, l = (q.drop a.toNat).take n.toNat ∧ e = .returned (.tuple #[v, .int .i64 0]) ∧ OwnK encC 1 5 w.heap.size v l w'))) → MReadRet P z a n w e w') :=
      Lib.hid fun e w' ⟨h1, h2⟩ => ⟨h1, .inr ⟨i, hi, hz, by rw [hq, hnq]; exact h2⟩⟩
    clear hz hrc hv hq
    by_cases ha : a < 0
    · go_wp2
      go_ret2
      exact HRET.out _ _ ⟨Below.refl _ _, .inl ⟨fun h => by have := h.1; omega, rfl⟩⟩
    · by_cases hn0 : n < 0
      · go_wp2
        go_ret2
        exact HRET.out _ _ ⟨Below.refl _ _, .inl ⟨fun h => by have := h.2.1; omega, rfl⟩⟩
      · obtain ⟨a, rfl⟩ : ∃ k : Nat, a = (k : Int) := ⟨a.toNat, by omega⟩
        obtain ⟨n, rfl⟩ : ∃ k : Nat, n = (k : Int) := ⟨n.toNat, by omega⟩
        by_cases ha2 : nq < a
        · go_wp2
          go_ret2
          exact HRET.out _ _ ⟨Below.refl _ _, .inl ⟨fun h => by have := h.2.2.1; omega, rfl⟩⟩
        · have hwr : IntKind.i64.wrap ((nq : Int) - (a : Int)) = (nq : Int) - (a : Int) := by rw [IntKind.wrap_i64]; omega
          by_cases hn2 : (nq : Int) - (a : Int) < (n : Int)
          · go_wp2
            go_ret2
            exact HRET.out _ _ ⟨Below.refl _ _, .inl ⟨fun h => by have := h.2.2.2; omega, rfl⟩⟩
          · have hwa : IntKind.i64.wrap ((a : Int) + (n : Int)) = (a : Int) + (n : Int) := by rw [IntKind.wrap_i64]; omega
            obtain ⟨vc, hc1, hc2⟩ := run_cutK (P := Tryd.prog) encC_len Tryd.underlying34 infoU8 HRC.out (m := a) (q := a + n) (by omega) (by omega)
            rw [show ((a + n : Nat) : Int) = (a : Int) + (n : Int) by norm_cast] at hc1
            have HRK := Lib.hid hc2
            have hcl : ((q.take (a + n)).drop a).length = n := by rw [List.length_drop, List.length_take, hnq]; omega
            have hce : (q.take (a + n)).drop a = (q.drop a).take n := by rw [List.drop_take, Nat.add_sub_cancel_left]
            have HCL := Lib.hid hcl
            have HCE := Lib.hid hce
            clear hc2 hcl hce
            go_wp2_with (first
              | (at_builtin; go_loud (refine wpList_litRK encC_len (by omega) Tryd.underlying34 infoU8 rfl (by omega) rfl _ _ rfl w.heap.size w.heap.size rfl (own_litC w (Nat.le_refl _)) vc _ rfl (HRK.out.below ((Below.refl _ _).alloc (Nat.le_refl _) _)) (by rw [HCL.out]; omega) (by simp) ?_; intro v4 w4 ho4 hb4; have HO4 := Lib.hid ho4; have HB4 := Lib.hid hb4; clear ho4 hb4; refine Hid.out ?_)))
            refine Lib.hid ?_
            go_wp2
            go_ret2
            exact HRET.out _ _ ⟨((Below.refl _ _).alloc (Nat.le_refl _) _).trans (HB4.out.mono (by simp)), .inr ⟨⟨by omega, by omega, by omega, by omega⟩, _, _, HCE.out, rfl, HO4.out⟩⟩
  · go_wp2
    go_ret2
    exact ⟨Below.refl _ _, .inl ⟨hn, rfl⟩⟩
end Go.Proofs.YtagjjpmhacknpaaDoor

/- The document's own arena: Write, what it is made of. -/
set_option maxRecDepth 100000
namespace Go.Proofs.YtagjjpmhacknpaaDoor
open Go Go.RowKit Go.Shelf
attribute [local go_sem] Oper.semAt_some
section
variable {α : Type} {enc : α → List Value} {k : Nat}
theorem flatK_set (hk : ∀ a, (enc a).length = k) : ∀ (L : List α) (i : Nat) (h : i < L.length) (f : Nat) (u : Value) (a : α), f < k → enc a = (enc L[i]).set f u → (L.flatMap enc).set (i * k + f) u = (L.set i a).flatMap enc
  | [], i, h, f, u, a, _, _ => by simp at h
  | y :: L, 0, h, f, u, a, hf, ha => by
    rw [Nat.zero_mul, Nat.zero_add, List.flatMap_cons, List.set_append_left _ _ (by rw [hk]; exact hf), List.set_cons_zero, List.flatMap_cons, ha]
    rfl
  | y :: L, i + 1, h, f, u, a, hf, ha => by
    have ih := flatK_set hk L i (by simpa using h) f u a hf ha
    have e1 : (i + 1) * k + f = (enc y).length + (i * k + f) := by rw [hk, Nat.succ_mul]; omega
    rw [List.flatMap_cons, e1, List.set_append_right _ _ (by omega), Nat.add_sub_cancel_left, ih, List.set_cons_succ, List.flatMap_cons]
theorem ownK_set (hk : ∀ a, (enc a).length = k) {e : TypeId} {base g n c : Nat} {L : List α} {W : World} (h : OwnK enc k e base (.slice (some ⟨g, 0, none⟩) n c) L W) {i f : Nat} (hi : i < L.length) (hf : f < k) {u : Value} {a : α} (ha : enc a = (enc L[i]).set f u) {q : Nat} (hq : q = i * k + f) :
    OwnK enc k e base (.slice (some ⟨g, 0, none⟩) n c) (L.set i a) (W.setCell ⟨g, q, none⟩ u) := by
  subst hq
  have hl := h.1
  rcases h.2 with ⟨e1, _⟩ | ⟨g', cap, cur, e1, hb, hg, hn, hc, hs, ht⟩
  · cases e1
  · injection e1 with e1 e2 e3
    injection e1 with e1
    injection e1 with e1
    subst e1 e2 e3
    have hblk : Blk W g cur.toList e := by show W.heap[g]? = some (.cells cur.toList.toArray e (0, 0)); rw [hg]
    have hset := hblk.set (i * k + f) u
    refine ⟨?_, .inr ⟨g, c, _, by rw [List.length_set], hb, hset, by rw [List.length_set]; exact hn, hc, ?_, ?_⟩⟩
    · rw [← flatK_set hk L i hi f u a hf ha, List.length_set, List.length_set]; exact hl
    · rw [List.size_toArray, List.length_set, Array.length_toList]; exact hs
    · rw [List.toList_toArray, List.length_set, List.take_set, ht, flatK_set hk L i hi f u a hf ha]
end
theorem put_one (q : List UInt8) (a : Nat) (l : List UInt8) (h : a + l.length ≤ q.length) {k : Nat} (hk : k < l.length) : (Ar.put q a (l.take k)).set (a + k) l[k] = Ar.put q a (l.take (k + 1)) := by
  unfold Ar.put
  have e1 : (l.take k).length = k := by rw [List.length_take]; omega
  have e2 : (l.take (k + 1)).length = k + 1 := by rw [List.length_take]; omega
  have e3 : (q.take a ++ l.take k).length = a + k := by rw [List.length_append, List.length_take, e1]; omega
  rw [e1, e2, List.set_append_right _ _ (by omega), e3, Nat.sub_self, List.drop_eq_getElem_cons (show a + k < q.length by omega), List.set_cons_zero, List.take_succ_eq_append_getElem hk, List.append_assoc, List.append_assoc, List.append_assoc]
  rfl
theorem put_none (q : List UInt8) (a : Nat) : Ar.put q a [] = q := by simp [Ar.put]
/-- The bytes of a block are left alone by all that changes nothing but the arena's box. -/
theorem MA.bytes {x : Nat → Prop} {m B : Nat} {P : List Rp} {w W : World} (h : MA x m B P w) (hT : Trn (fun k => k = m) w W) : ∀ p ∈ P, p.1.h = p.2.1 ∧ RK encC x p.1.v p.2.2 W := fun p hp => by
  obtain ⟨v0, h1, h2⟩ := h.ex
  refine ⟨(h.each p hp).1, ?_⟩
  obtain ⟨ao, cap, e, hc, hf⟩ := (h.each p hp).2.form
  refine ⟨ao, cap, e, hc, fun j u hu => ?_⟩
  obtain ⟨b, off, e, hx, c⟩ := hf j u hu
  refine ⟨b, off, e, hx, ?_⟩
  have hbm : b ≠ m := fun e2 => by
    subst e2
    have hu2 : ∃ c, u = encB c := by
      rw [flatC] at hu
      obtain ⟨c, _, hc⟩ := List.mem_map.1 (List.mem_of_getElem? hu)
      exact ⟨c, hc.symm⟩
    obtain ⟨c', rfl⟩ := hu2
    have h3 : w.cell? ⟨b, off + j, none⟩ = [Value.int .i64 (B : Int), v0].toArray[off + j]? := by
      show (match w.heap[b]? with | some (.cells c _ _) => c[off + j]? | _ => none) = _
      rw [show w.heap[b]? = _ from h1]
    rw [c] at h3
    match hq : off + j, h3 with
    | 0, h3 => simp [encB] at h3
    | 1, h3 =>
      simp only [List.getElem?_toArray, List.getElem?_cons_succ, List.getElem?_cons_zero, Option.some.injEq] at h3
      obtain ⟨ao', cap', e', _⟩ := h2.form
      rw [e'] at h3
      cases h3
    | n + 2, h3 => simp at h3
  rw [cell_same (hT.block b (cell_lt c) hbm)]
  exact c
/-- One row's bytes are others. -/
theorem MA.row {x : Nat → Prop} {m B : Nat} {P : List Rp} {w w5 : World} {g c : Nat} (h : MA x m B P w) (hb : Below w.heap.size w w5) {i : Nat} (hi : i < P.length) {ao : Option Addr} {n cc : Nat} {l : List UInt8}
    (hO : OwnK encC 1 5 w.heap.size (.slice ao n cc) l w5) (hR : OwnK encRw 2 52 w.heap.size (.slice (some ⟨g, 0, none⟩) P.length c) (P.map Prod.fst) w5) (hg : ∀ b, (Value.slice ao n cc).ownBlock = some b → b ≠ g) :
    MRet x m B (P.set i (⟨P[i].1.h, ao, n, cc⟩, (P[i].2.1, l))) w ((w5.setCell ⟨m, 1, none⟩ (.slice (some ⟨g, 0, none⟩) P.length c)).setCell ⟨g, i * 2 + 1, none⟩ (.slice ao n cc)) := by
  obtain ⟨v0, h1, h2⟩ := h.ex
  have hgb := ownBlock_in hR g rfl
  have hm := h1.lt
  have hm1 : Blk w5 m [.int .i64 (B : Int), v0] 33 := h1.kept (hb.block m h1.lt)
  obtain ⟨W5, hW5⟩ : ∃ W5, w5.setCell ⟨m, 1, none⟩ (.slice (some ⟨g, 0, none⟩) P.length c) = W5 := ⟨_, rfl⟩
  have hs5 : W5.heap.size = w5.heap.size := by rw [← hW5]; simp [World.setCell]
  have hk5 : ∀ b, b ≠ m → W5.heap[b]? = w5.heap[b]? := fun b hb => by rw [← hW5]; exact Below.heap_setCell w5 ⟨m, 1, none⟩ _ b hb
  have hm5 : Blk W5 m [.int .i64 (B : Int), .slice (some ⟨g, 0, none⟩) P.length c] 33 := by rw [← hW5]; exact hm1.set 1 _
  have hT5 : Trn (fun k => k = m) w W5 := by rw [← hW5]; exact (Trn.of_below hb).trans (Trn.set hm1 (.inl rfl) 1 _)
  have hR5 : OwnK encRw 2 52 w.heap.size (.slice (some ⟨g, 0, none⟩) P.length c) (P.map Prod.fst) W5 := by
    rw [← hW5]
    refine ownK_grown (row := some m) hR ⟨rfl, rfl, rfl, by simp [World.setCell], fun k _ hk => Below.heap_setCell w5 ⟨m, 1, none⟩ _ k (fun e => hk (by rw [e]))⟩ fun g' hg' e => ?_
    have := (ownBlock_in hR g' hg').1
    injection e with e
    omega
  rw [hW5]
  have hcur : ∃ cur, Blk W5 g cur 52 := by
    rcases hR5.2 with ⟨e1, _⟩ | ⟨g', cap, cur, e1, _, hg', _⟩
    · cases e1
    · injection e1 with e1
      injection e1 with e1
      injection e1 with e1
      subst e1
      exact ⟨cur.toList, hg'⟩
  obtain ⟨cur, hcur⟩ := hcur
  obtain ⟨W6, hW6⟩ : ∃ W6, W5.setCell ⟨g, i * 2 + 1, none⟩ (.slice ao n cc) = W6 := ⟨_, rfl⟩
  have hs6 : W6.heap.size = w5.heap.size := by rw [← hW6, ← hs5]; simp [World.setCell]
  have hk6 : ∀ b, b ≠ m → b ≠ g → W6.heap[b]? = w5.heap[b]? := fun b hb1 hb2 => by rw [← hW6]; exact (Below.heap_setCell W5 ⟨g, i * 2 + 1, none⟩ _ b hb2).trans (hk5 b hb1)
  have hm6 : Blk W6 m [.int .i64 (B : Int), .slice (some ⟨g, 0, none⟩) P.length c] 33 := by rw [← hW6]; exact hm5.other (by omega) _ _
  have hT6 : Trn (fun k => k = m) w W6 := by rw [← hW6]; exact hT5.trans (Trn.set hcur (.inr ⟨hgb.1, by rw [hs5]; exact hgb.2⟩) _ _)
  have hset : (P.map Prod.fst).set i ⟨P[i].1.h, ao, n, cc⟩ = (P.set i (⟨P[i].1.h, ao, n, cc⟩, (P[i].2.1, l))).map Prod.fst := by rw [List.map_set]
  have hR6 : OwnK encRw 2 52 w.heap.size (.slice (some ⟨g, 0, none⟩) P.length c) ((P.set i (⟨P[i].1.h, ao, n, cc⟩, (P[i].2.1, l))).map Prod.fst) W6 := by
    rw [← hset, ← hW6]
    exact ownK_set encRw_len hR5 (i := i) (f := 1) (by rw [List.length_map]; exact hi) (by omega) (by rw [List.getElem_map]; rfl) rfl
  rw [hW6]
  refine ⟨⟨⟨_, hm6, RK.own hR6 fun b hb => .inr (ownBlock_in hR6 b hb)⟩, .inl h.mine, fun p hp => ?_⟩, hT6⟩
  rcases List.mem_or_eq_of_mem_set hp with hp | rfl
  · obtain ⟨k1, k2⟩ := h.bytes hT6 p hp
    exact ⟨k1, k2.mono fun b hb => .inl hb⟩
  · refine ⟨(h.each P[i] (List.getElem_mem hi)).1, ?_⟩
    have hr : RK encC (fun b => (Value.slice ao n cc).ownBlock = some b) (.slice ao n cc) l w5 := RK.own hO fun b hb => hb
    exact (hr.same (W' := W6) fun b hb => hk6 b (fun e => by have := (ownBlock_in hO b hb).1; omega) (hg b hb)).mono fun b hb2 => .inr ⟨(ownBlock_in hO b hb2).1, by rw [hs6]; exact (ownBlock_in hO b hb2).2⟩
end Go.Proofs.YtagjjpmhacknpaaDoor

/- The document's own Labels (freshetref1). -/
namespace Go.Proofs.YtagjjpmhacknpaaDoor
open Go.RowKit Go.Shelf
attribute [local go_sem] Oper.semAt_some

namespace Nm
theorem validU_encs_app : ∀ {ls : List (List UInt8)} (_ : good ls) (r : List UInt8), validU (encs ls ++ r) = validU r
  | [], _, _ => rfl
  | l :: ls, g, r => by
    obtain ⟨h1, h2⟩ := g l (by simp)
    have hlen : (encs (l :: ls) ++ r) = UInt8.ofNat l.length :: (l ++ (encs ls ++ r)) := by simp [encs]
    rw [hlen, validU_cons, if_neg (ofNat_ne h1 h2), ofNat_toNat h2, if_neg (by simp; omega), List.drop_left' rfl]
    exact validU_encs_app (fun x hx => g x (List.mem_cons_of_mem _ hx)) r
/-- Labels read so far, and what is left. -/
structure ReadTo (n : List UInt8) (ls : List (List UInt8)) : Prop where
  good : good ls
  le : encL ls ≤ n.length
  eq : n = encs ls ++ n.drop (encL ls)
theorem ReadTo.zero (n : List UInt8) : ReadTo n [] := ⟨(fun _ h => by cases h), Nat.zero_le _, rfl⟩
theorem ReadTo.valid {n : List UInt8} {ls : List (List UInt8)} (h : ReadTo n ls) (hn : ¬ 255 < n.length) : Nm.valid n = validU (n.drop (encL ls)) := by
  rw [valid_of_short hn]
  conv => lhs; rw [h.eq]
  exact validU_encs_app h.good _
theorem ReadTo.stop {n : List UInt8} {ls : List (List UInt8)} (h : ReadTo n ls) (hn : ¬ 255 < n.length) (hk : ¬ encL ls < n.length) : Nm.valid n = false := by
  rw [h.valid hn, List.drop_of_length_le (by omega)]; rfl
theorem ReadTo.zero_at {n : List UInt8} {ls : List (List UInt8)} (h : ReadTo n ls) (hn : ¬ 255 < n.length) (hk : encL ls < n.length) (h0 : n[encL ls] = 0) : Nm.valid n = decide (encL ls + 1 = n.length) := by
  rw [h.valid hn, drop_cons hk, h0, validU_cons, if_pos rfl, Bool.eq_iff_iff]
  simp only [List.isEmpty_iff, List.drop_eq_nil_iff, decide_eq_true_eq]
  omega
theorem ReadTo.labsD {n : List UInt8} {ls : List (List UInt8)} (h : ReadTo n ls) (hn : ¬ 255 < n.length) (hk : encL ls < n.length) (h0 : n[encL ls] = 0) (hv : Nm.valid n = true) : ls = labsD n := by
  rw [h.zero_at hn hk h0, decide_eq_true_eq] at hv
  have e : n = made ls := by
    rw [made_encs]
    conv => lhs; rw [h.eq, drop_cons hk, h0, List.drop_of_length_le (by omega)]
  have := labs_iff.2 ⟨e, h.good, by omega⟩
  unfold Nm.labsD
  rw [this]; rfl
theorem ReadTo.bad {n : List UInt8} {ls : List (List UInt8)} (h : ReadTo n ls) (hn : ¬ 255 < n.length) (hk : encL ls < n.length) (h0 : n[encL ls] ≠ 0) (hb : 63 < n[encL ls].toNat ∨ n.length < encL ls + 1 + n[encL ls].toNat) : Nm.valid n = false := by
  rw [h.valid hn, drop_cons hk, validU_cons, if_neg h0, if_pos (by rw [List.length_drop]; omega)]
theorem ReadTo.step {n : List UInt8} {ls : List (List UInt8)} (h : ReadTo n ls) (hk : encL ls < n.length) (h0 : n[encL ls] ≠ 0) (h1 : n[encL ls].toNat ≤ 63) (h2 : encL ls + 1 + n[encL ls].toNat ≤ n.length) :
    ReadTo n (ls ++ [(n.drop (encL ls + 1)).take n[encL ls].toNat]) ∧ encL (ls ++ [(n.drop (encL ls + 1)).take n[encL ls].toNat]) = encL ls + 1 + n[encL ls].toNat := by
  have h3 : 1 ≤ n[encL ls].toNat := by
    rcases Nat.eq_zero_or_pos n[encL ls].toNat with e | e
    · exact absurd (by rw [← UInt8.toNat_inj]; exact e) h0
    · exact e
  have hl : ((n.drop (encL ls + 1)).take n[encL ls].toNat).length = n[encL ls].toNat := by
    rw [List.length_take, List.length_drop]; omega
  have he : encL (ls ++ [(n.drop (encL ls + 1)).take n[encL ls].toNat]) = encL ls + 1 + n[encL ls].toNat := by
    rw [encL_append]; simp only [encL, hl]; omega
  refine ⟨⟨fun x hx => ?_, by omega, ?_⟩, he⟩
  · rcases List.mem_append.1 hx with hx | hx
    · exact h.good x hx
    · rw [List.mem_singleton] at hx
      subst hx
      rw [hl]; exact ⟨h3, h1⟩
  · rw [he]
    conv => lhs; rw [h.eq, drop_cons hk]
    rw [encs_append]
    simp only [encs, hl, List.append_nil, List.append_assoc, List.cons_append]
    congr 1
    rw [show UInt8.ofNat n[encL ls].toNat = n[encL ls] from by simp]
    congr 1
    conv => lhs; rw [← List.take_append_drop n[encL ls].toNat (n.drop (encL ls + 1))]
    rw [List.drop_drop]
end Nm

/-- What Labels of the document's own gives. -/
def LabRet (n : List UInt8) (w : World) (e : Ending) (w' : World) : Prop :=
  ∃ (v : Value) (L : List (List UInt8)), e = .returned (.tuple #[v, .bool (Nm.valid n)]) ∧ OwnE encS 9 w.heap.size v L w' ∧ Below w.heap.size w w' ∧ (Nm.valid n = true → L = Nm.labsD n) ∧ L.length ≤ 255

end Go.Proofs.YtagjjpmhacknpaaDoor

/- The document's own Valid (freshetref1). -/
namespace Go.Proofs.YtagjjpmhacknpaaDoor
open Go.RowKit Go.Shelf
attribute [local go_sem] Oper.semAt_some

end Go.Proofs.YtagjjpmhacknpaaDoor

/- The document's own Fold (freshetref1). -/
namespace Go.Proofs.YtagjjpmhacknpaaDoor
open Go.RowKit Go.Shelf
attribute [local go_sem] Oper.semAt_some

end Go.Proofs.YtagjjpmhacknpaaDoor

/- InternOnce: its calls. -/
set_option maxRecDepth 100000
namespace Go.Proofs.YtagjjpmhacknpaaDoor
open Go.RowKit Go.Shelf
attribute [local go_sem] Oper.semAt_some
def onceE (l : List UInt8) (k : Nat) : List Ent := if k = 0 then [] else [⟨1, k, Nm.fold l⟩]
theorem onceE_pos (l : List UInt8) {k : Nat} (h : 0 < k) : onceE l k = [⟨1, k, Nm.fold l⟩] := by unfold onceE; rw [if_neg (by omega)]
end Go.Proofs.YtagjjpmhacknpaaDoor

/- InternOnce: its walk. -/
set_option maxRecDepth 100000
namespace Go.Proofs.YtagjjpmhacknpaaDoor
open Go.RowKit Go.Shelf
attribute [local go_sem] Oper.semAt_some
namespace Nm
theorem small_small (c : UInt8) : small (small c) = small c := by
  by_cases h : 65 ≤ c.toNat ∧ c.toNat ≤ 90
  · have := small_yes h.1 h.2
    exact small_no (by omega)
  · rw [small_no h, small_no h]
theorem folded_folded (n : List UInt8) : folded (folded n) = folded n := by simp [folded, small_small]
theorem valid_folded {n : List UInt8} (h : valid n = true) : valid (folded n) = true := by
  obtain ⟨_, e, g, l⟩ := labs_of_valid h
  unfold valid
  rw [e, folded_made g, labs_iff.2 ⟨rfl, good_folded g, by rw [← folded_made g, ← e, folded_length]; exact l⟩]
  rfl
theorem fold_folded {n : List UInt8} (h : valid n = true) : fold (folded n) = folded n := by
  unfold fold; rw [if_pos (valid_folded h), folded_folded]
end Nm
end Go.Proofs.YtagjjpmhacknpaaDoor

/- InternCosts: its calls. -/
set_option maxRecDepth 100000
namespace Go.Proofs.YtagjjpmhacknpaaDoor
open Go.RowKit Go.Shelf
attribute [local go_sem] Oper.semAt_some
theorem cost_17 (n : Nat) (h1 : 1 ≤ n) (h2 : n ≤ 1500) : Ar.cost (n + 8) ≤ 17 * (1 + n) := by unfold Ar.cost; (repeat' split) <;> omega
theorem fold_len (n : List UInt8) : (Nm.fold n).length = n.length := by
  unfold Nm.fold
  split
  · exact Nm.folded_length n
  · rfl
theorem valid_fold {n : List UInt8} (h : Nm.valid n = true) : Nm.valid (Nm.fold n) = true := by
  unfold Nm.fold; rw [if_pos h]; exact Nm.valid_folded h
theorem fold_fold {n : List UInt8} (h : Nm.valid n = true) : Nm.fold (Nm.fold n) = Nm.fold n := by
  have e : Nm.fold n = Nm.folded n := by unfold Nm.fold; rw [if_pos h]
  rw [e, Nm.fold_folded h]
theorem valid_pos {n : List UInt8} (h : Nm.valid n = true) : 1 ≤ n.length := by
  cases n with
  | nil => revert h; decide
  | cons => simp
theorem costI_of (n : Nat) (h : n ≤ 1500) : Ar.costI ((n + 8 : Nat) : Int) = Ar.cost (n + 8) := by
  unfold Ar.costI
  rw [if_pos (by omega)]
  rfl
theorem valid_le {n : List UInt8} (h : Nm.valid n = true) : n.length ≤ 255 := by
  obtain ⟨_, e, g, l⟩ := Nm.labs_of_valid h
  exact l
end Go.Proofs.YtagjjpmhacknpaaDoor

/- The document's own arena: Write. -/
set_option maxRecDepth 100000
namespace Go.Proofs.YtagjjpmhacknpaaDoor
open Go Go.RowKit Go.Shelf
attribute [local go_sem] Oper.semAt_some
def MWriteRet (x : Nat → Prop) (m B : Nat) (P : List Rp) (z at_ : Int) (l : List UInt8) (w : World) (e : Ending) (w' : World) : Prop :=
  ((∀ p ∈ P, (p.2.1 : Int) ≠ z) ∧ e = .returned (.int .i64 5) ∧ w = w') ∨ ∃ (i : Nat) (hi : i < P.length), (P[i].2.1 : Int) = z ∧
    ((¬ Within P[i].2.2.length at_ l.length ∧ e = .returned (.int .i64 1) ∧ w = w') ∨ (Within P[i].2.2.length at_ l.length ∧ e = .returned (.int .i64 0) ∧ ∃ r : Rw, MRet x m B (P.set i (r, (P[i].2.1, Ar.put P[i].2.2 at_.toNat l))) w w'))
theorem ownK_base {α : Type} {enc : α → List Value} {k : Nat} {e : TypeId} {base b2 : Nat} {v : Value} {l : List α} {W : World} (h : OwnK enc k e base v l W) (hb : b2 ≤ base) : OwnK enc k e b2 v l W := by
  refine ⟨h.1, ?_⟩
  rcases h.2 with hn | ⟨g, cap, cur, e1, hg, rest⟩
  · exact .inl hn
  · exact .inr ⟨g, cap, cur, e1, Nat.le_trans hb hg, rest⟩
theorem ownK_loose' {α : Type} {enc : α → List Value} {k : Nat} {e : TypeId} {base g n cap : Nat} {l : List α} {W : World} (h : OwnK enc k e base (.slice (some ⟨g, 0, none⟩) n cap) l W) (i : Nat) : W.frozen? ⟨g, i, none⟩ = false := by
  rcases h.2 with ⟨e1, _⟩ | ⟨g', cap', cur, e1, _, hg, _⟩
  · cases e1
  · injection e1 with e1
    injection e1 with e1
    injection e1 with e1
    subst e1
    simp [World.frozen?, hg]
set_option maxHeartbeats 16000000 in
theorem mwrite_any (x : Nat → Prop) (m B : Nat) (P : List Rp) (z a : Int) (pv : Value) (l : List UInt8) (w : World) (h : MA x m B P w) (hp : RK encC (fun _ => True) pv l w) (hl : P.length ≤ 900000) (hll : l.length ≤ 900000) (he : ∀ p ∈ P, p.2.2.length ≤ 4096)
    (hI1 : -9223372036854775808 ≤ a) (hI2 : a ≤ 9223372036854775807) :
    Calls Tryd.prog 15 #[.pointer (some ⟨m, 0, none⟩), .int .i64 z, .int .i64 a, pv] w (MWriteRet x m B P z a l w) := by
  have HAT := Lib.hid (mat_any x m B P z w h (by omega))
  have HM := Lib.hid h
  have HE := Lib.hid he
  have HP := Lib.hid hp
  obtain ⟨pa, pc, rfl, hpc, _⟩ := hp.form
  obtain ⟨ao, cap, c0, c1, hcap, hrk, hrow⟩ := h.box
  obtain ⟨v0, hm1, _⟩ := h.ex
  have hml := hm1.lt
  have HBX := Lib.hid hm1
  have HROW := Lib.hid hrow
  have HRK := Lib.hid hrk
  have hv0 : v0 = .slice ao P.length cap := by
    have := hm1.cell (i := 1) (v := v0) rfl
    rw [this] at c1
    exact Option.some.inj c1
  subst hv0
  obtain ⟨nl, hnl⟩ : ∃ nl, l.length = nl := ⟨_, rfl⟩
  have HNL := Lib.hid hnl
  rw [hnl] at hpc hll
  rw [hnl] at HP
  clear hrow h hrk he hm1 hp
  have hRT : MWriteRet x m B P z a l w = fun e w' => ((∀ p ∈ P, (p.2.1 : Int) ≠ z) ∧ e = .returned (.int .i64 5) ∧ w = w') ∨ ∃ (i : Nat) (hi : i < P.length), (P[i].2.1 : Int) = z ∧
    ((¬ Within P[i].2.2.length a nl ∧ e = .returned (.int .i64 1) ∧ w = w') ∨ (Within P[i].2.2.length a nl ∧ e = .returned (.int .i64 0) ∧ ∃ r : Rw, MRet x m B (P.set i (r, (P[i].2.1, Ar.put P[i].2.2 a.toNat l))) w w')) := by
    rw [← hnl]; rfl
  rw [hRT, hnl]
  clear hRT hnl
  generalize hRET : (fun (e : Ending) (w' : World) => ((∀ p ∈ P, (p.2.1 : Int) ≠ z) ∧ e = .returned (.int .i64 5) ∧ w = w') ∨ ∃ (i : Nat) (hi : i < P.length), (P[i].2.1 : Int) = z ∧
    ((¬ Within P[i].2.2.length a nl ∧ e = .returned (.int .i64 1) ∧ w = w') ∨ (Within P[i].2.2.length a nl ∧ e = .returned (.int .i64 0) ∧ ∃ r : Rw, MRet x m B (P.set i (r, (P[i].2.1, Ar.put P[i].2.2 a.toNat l))) w w'))) = RET
  have HRET := Lib.hid hRET
  clear hRET
  go_enter Tryd.func15, Tryd.ntmps15
  go_wp2_with fail
  refine HAT.out.mono ?_
  rintro e w' ⟨⟨i, hi, rfl, hz⟩ | ⟨rfl, hn⟩, rfl⟩
  · obtain ⟨b, off, rfl, hx, d0, d1⟩ := HROW.out i hi
    have hlb := HE.out P[i] (List.getElem_mem hi)
    have hrc := (HM.out.each P[i] (List.getElem_mem hi)).2
    obtain ⟨ao2, c2, hv⟩ := Rp.form hrc
    obtain ⟨q, hq⟩ : ∃ q, P[i].2.2 = q := ⟨_, rfl⟩
    rw [hv] at d1 hrc
    rw [hq] at d1 hrc hlb
    obtain ⟨nq, hnq⟩ : ∃ nq, q.length = nq := ⟨_, rfl⟩
    have HQL := Lib.hid hnq
    rw [hnq] at d1 hrc hlb
    have HRC := Lib.hid hrc
    have HBAD : Hid (¬ Within nq a nl → RET (.returned (.int .i64 1)) w) := Lib.hid fun h => by
      rw [← HRET.out]; exact .inr ⟨i, hi, hz, .inl ⟨by rw [hq, hnq]; exact h, rfl, rfl⟩⟩
    have HGOOD : Hid (Within nq a nl → ∀ w', (∃ r : Rw, MRet x m B (P.set i (r, (P[i].2.1, Ar.put q a.toNat l))) w w') → RET (.returned (.int .i64 0)) w') := Lib.hid fun h w' h2 => by
      rw [← HRET.out]; exact .inr ⟨i, hi, hz, .inr ⟨by rw [hq, hnq]; exact h, rfl, by rw [hq]; exact h2⟩⟩
    clear hz hrc hv hq hnq
    by_cases ha : a < 0
    · go_wp2
      exact HBAD.out fun h => by have := h.1; omega
    · obtain ⟨a, rfl⟩ : ∃ k : Nat, a = (k : Int) := ⟨a.toNat, by omega⟩
      by_cases ha2 : nq < a
      · go_wp2
        exact HBAD.out fun h => by have := h.2.2.1; omega
      · have hwr : IntKind.i64.wrap ((nq : Int) - (a : Int)) = (nq : Int) - (a : Int) := by rw [IntKind.wrap_i64]; omega
        by_cases hn2 : (nq : Int) - (a : Int) < (nl : Int)
        · go_wp2
          exact HBAD.out fun h => by have := h.2.2.2; omega
        · have HW := Lib.hid (HGOOD.out ⟨by omega, by omega, by omega, by omega⟩)
          have HFIT : Hid (a + l.length ≤ q.length) := Lib.hid (by rw [HNL.out, HQL.out]; omega)
          clear HBAD HGOOD
          go_wp2_with (first
            | (at_builtin; go_loud (refine wpList_litRK encC_len (by omega) Tryd.underlying34 infoU8 rfl (by omega) rfl _ _ rfl w.heap.size w.heap.size rfl (own_litC w (Nat.le_refl _)) _ q rfl (HRC.out.below ((Below.refl _ _).alloc (Nat.le_refl _) _)) (by rw [HQL.out]; omega) (by simp) ?_; intro v4 w4 ho4 hb4; have HO4 := Lib.hid ho4; have HB4 := Lib.hid (show Below w.heap.size w w4 from ((Below.refl _ _).alloc (Nat.le_refl _) _).trans (hb4.mono (by simp))); clear ho4 hb4; refine Hid.out ?_)))
          refine Lib.hid ?_
          obtain ⟨a4, c4, e4, hfm⟩ := ownK_form HO4.out
          rw [HQL.out] at e4
          subst e4
          have HFM := Lib.hid hfm
          clear hfm hn2 hwr
          have HO0 := Lib.hid (show OwnK encC 1 5 w.heap.size (.slice a4 nq c4) (Ar.put q a (l.take 0)) w4 by rw [List.take_zero, put_none]; exact HO4.out)
          clear HO4
          go_wp2
          go_loopw [12] (fun i wr => ∃ k : Nat, i = .int .i64 (k : Int) ∧ k ≤ nl ∧ Hid (Below w.heap.size w wr) ∧ Hid (OwnK encC 1 5 w.heap.size (.slice a4 nq c4) (Ar.put q a (l.take k)) wr)) (fun i _ => nl + 1 - (intOf i).toNat)
          case atStart => exact ⟨0, rfl, Nat.zero_le _, HB4, HO0⟩
          case round =>
            obtain ⟨k, rfl, hk, HB, HO⟩ := hrel
            clear HO0 HB4
            by_cases hlt : k < nl
            · have hkl : k < l.length := by rw [HNL.out]; exact hlt
              obtain ⟨g4, rfl⟩ := HFM.out (fun e => by have := HQL.out; rw [e] at this; simp at this; omega)
              have hlen : (Ar.put q a (l.take k)).length = q.length := Ar.put_len _ _ _ (by rw [List.length_take]; have := HFIT.out; omega)
              have hak : a + k < (Ar.put q a (l.take k)).length := by rw [hlen, HQL.out]; omega
              have hgc := ownK_cell encC_len HO.out (j := a + k) (i := 0) hak (by omega)
              have hfr := ownK_loose' HO.out (a + k)
              rw [Nat.zero_add, Nat.mul_one, Nat.add_zero] at hgc
              obtain ⟨cold, hcold⟩ : ∃ cold, (Ar.put q a (l.take k))[a + k] = cold := ⟨_, rfl⟩
              rw [hcold] at hgc
              obtain ⟨pb, poff, hpa, _, hpcell⟩ := (HP.out.below HB.out).at_ encC_len (i := k) (f := 0) hkl (by omega)
              subst hpa
              rw [Nat.mul_one, Nat.add_zero] at hpcell
              obtain ⟨ch, hch⟩ : ∃ ch, l[k] = ch := ⟨_, rfl⟩
              rw [hch] at hpcell
              have HO2 := Lib.hid (show OwnK encC 1 5 w.heap.size (.slice (some ⟨g4, 0, none⟩) nq c4) (Ar.put q a (l.take (k + 1))) (wr.setCell ⟨g4, a + k, none⟩ (encB ch)) by
                rw [← put_one q a l HFIT.out hkl, hch]
                exact ownK_set encC_len HO.out hak (by omega) (f := 0) (a := ch) (by rfl) (by omega))
              have HB2 := Lib.hid (HB.out.setCell (p := ⟨g4, a + k, none⟩) (ownBlock_in HO.out g4 rfl).1 (encB ch))
              have hwa : IntKind.i64.wrap ((a : Int) + (k : Int)) = (a : Int) + (k : Int) := by rw [IntKind.wrap_i64]; omega
              simp only [encC, List.getElem?_cons_zero, encB] at hpcell hgc HO2 HB2
              clear hcold hlen hak hkl HB HO hch
              go_wp2
              go_roundw
              case rel => exact ⟨k + 1, by go_num, by omega, HB2, HO2⟩
              case measure => simp [intOf]; omega
            · obtain rfl : k = nl := by omega
              have HO9 := Lib.hid (show OwnK encC 1 5 w.heap.size (.slice a4 nq c4) (Ar.put q a l) wr by
                have h := HO.out
                rw [List.take_of_length_le (by rw [HNL.out]; exact Nat.le_refl _)] at h
                exact h)
              have hbm := HBX.out.kept (HB.out.block m hml)
              have c1n : (wr.alloc (.cells #[] 52)).cell? ⟨m, 1, none⟩ = some (.slice (some ⟨b, off, none⟩) P.length cap) := ((hbm.alloc _).cell rfl)
              have hlr : (P.map Prod.fst).length ≤ 1000000 := by rw [List.length_map]; omega
              have HLR := Lib.hid hlr
              clear hbm HO hlr
              go_wp2_with (first
                | (at_builtin; go_loud (refine wpList_litRK encRw_len (by omega) rw_under infoRw rfl (by omega) rfl _ _ rfl wr.heap.size wr.heap.size rfl (own_lit0 wr (Nat.le_refl _)) _ (P.map Prod.fst) rfl (HRK.out.below (HB.out.alloc HB.out.size _)) HLR.out (by simp) ?_; intro v5 w5 ho5 hb5; have HO5 := Lib.hid ho5; have HB5 := Lib.hid (show Below wr.heap.size wr w5 from ((Below.refl _ _).alloc (Nat.le_refl _) _).trans (hb5.mono (by simp))); clear ho5 hb5; refine Hid.out ?_)))
              refine Lib.hid ?_
              obtain ⟨a5, c5, e5, hfm5⟩ := ownK_form HO5.out
              rw [List.length_map] at e5
              subst e5
              obtain ⟨g5, rfl⟩ := hfm5 (fun e => by have h9 := congrArg List.length e; rw [List.length_map, List.length_nil] at h9; omega)
              have hB5 : Below w.heap.size w w5 := HB.out.trans (HB5.out.mono HB.out.size)
              have hb5 := HBX.out.kept (hB5.block m hml)
              have ct5 := hb5.cell (i := 1) rfl
              have ft5 := hb5.frozen 1
              have hge := (ownBlock_in HO5.out g5 rfl).1
              have hsz := HB.out.size
              have hne : g5 ≠ m := by omega
              have hne2 : m ≠ g5 := by omega
              have hd := ownK_cell encRw_len HO5.out (j := i) (i := 1) (by rw [List.length_map]; exact hi) (by omega)
              obtain ⟨u5, hu5⟩ : ∃ u, (encRw ((P.map Prod.fst)[i]'(by rw [List.length_map]; exact hi)))[1]? = some u := ⟨_, rfl⟩
              rw [Nat.zero_add, hu5] at hd
              have fg : w5.frozen? ⟨g5, i * 2 + 1, none⟩ = false := ownK_loose' HO5.out _
              have HFIN := Lib.hid (HM.out.row hB5 hi (ownK_below HO9.out HB5.out) (ownK_base HO5.out HB.out.size) (fun b' hb' e => by have := (ownBlock_in HO9.out b' hb').2; omega))
              clear hu5 hfm5 hb5 hB5 hsz HO9 HO5 HB5 HB HLR
              go_wp2
              exact HW.out _ ⟨_, HFIN.out⟩
  · go_wp2
    rw [← HRET.out]
    exact .inl ⟨hn, rfl, rfl⟩
end Go.Proofs.YtagjjpmhacknpaaDoor
