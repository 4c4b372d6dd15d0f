/- MessageCounts of package freshetlaw4 (as many records as there are of each section are counted in the head, one more for EDNS, and more than 64 of one section are refused) returns true at every three ints and bool.
   Conditions: those of the row, none beside. -/
import Derived.Test.YtfmghbmbahembaaJB38
import Derived.Test.YtfmghbmbahembaaJB39
import Derived.Test.YtfmghbmbahembaaJB22
import Derived.Test.YtfmghbmbahembaaJB9
import Derived.Test.YtfmghbmbahembaaJB40
/- append of a string, and slices of bytes that are read: for the laws of messages. -/
namespace Go.Proofs.Ytfmghbmbahembaa
open Go.RowKit Go.Shelf Go.Maps
attribute [local go_sem] Oper.semAt_some

theorem run_apdStr (w : World) (base : Nat) (ty : TypeId) (v : Value) (l : List UInt8) (hown : OwnE encB 5 base v l w) (news : List UInt8) (b1 : l.length + news.length ≤ 1000000) (hb : base ≤ w.heap.size) :
    ∃ v' w', (Builtin.append_ #[22, 9] ty #[v, .string ⟨news.toArray⟩]).run Try.prog w = .ok v' w' ∧ OwnE encB 5 base v' (l ++ news) w' ∧ w.grownBy w' v.ownBlock := by
  obtain ⟨i, hi, hz0, hz1, hz2⟩ := info_parts infoByte
  have hsz : (⟨news.toArray⟩ : ByteArray).size = news.length := by show news.toArray.size = _; simp
  obtain ⟨v', w', hrun, r1, r2, r3⟩ := Lib.run_append_own_string (P := Try.prog) w base 22 9 ty 5 i Try.underlying22 Try.underlying9 hi hz0 hz1 hz2 v l.length (l.map encB) hown ⟨news.toArray⟩ (by rw [hsz]; exact Nat.le_trans b1 (by unfold maxLen; decide)) (by rw [hsz]; omega) hb
  rw [hsz, strCells_enc] at r1
  exact ⟨v', w', hrun, by unfold OwnE; rw [List.map_append, List.length_append]; exact r1, r2⟩
theorem wpList_apdStr (w : World) {ops : Array Oper} {rest : List Oper} {o : Oper} {a : Act} {Q : Exit → Act → World → Prop} (hg : o.guard = none) (s x : Operand)
    (hop : o.op = Op.call { callee := Callee.builtin Builtin.append, args := #[s, x], argTypes := #[22, 9] })
    (base : Nat) (v : Value) (l : List UInt8) (hs : a.eval s = v) (hown : OwnE encB 5 base v l w) (news : List UInt8) (hx : a.eval x = .string ⟨news.toArray⟩)
    (b1 : l.length + news.length ≤ 1000000) (hb : base ≤ w.heap.size)
    (hK : ∀ v' w', OwnE encB 5 base v' (l ++ news) w' → Below base w w' → wpList Try.prog ops Q rest (a.put o.dst v') w') :
    wpList Try.prog ops Q (o :: rest) a w := by
  refine wpList_plain hg fun K hK' => ?_
  obtain ⟨v', w', hrun, r1, r2⟩ := run_apdStr w base o.type v l hown news b1 hb
  unfold Oper.wp
  simp [execOp, hop, resolve, invoke, builtin, hs, hx, hrun, Result.andThen]
  exact hK' _ _ (hK v' w' r1 ((Below.refl base w).grown r2 hb (fun k e => (World.ownsRow.lt hown k e).1)))
theorem step_apdStr {ops : Array Oper} {o : Oper} {a : Act} {w : World} {K : Act → World → Prop} {Q : Exit → Act → World → Prop} {E : Prop}
    (hg : o.guard = none) (s x : Operand) (hop : o.op = Op.call { callee := Callee.builtin Builtin.append, args := #[s, x], argTypes := #[22, 9] })
    (base : Nat) (v : Value) (l : List UInt8) (hs : a.eval s = v) (hown : OwnE encB 5 base v l w) (news : List UInt8) (hx : a.eval x = .string ⟨news.toArray⟩)
    (b1 : l.length + news.length ≤ 1000000) (hb : base ≤ w.heap.size)
    (hK : ∀ v' w', OwnE encB 5 base v' (l ++ news) w' → Below base w w' → K (a.put o.dst v') w') :
    if Region.wanted o (yielded ops a.tmps) = true then Oper.wp Try.prog o a w K Q else E := by
  have hw : Region.wanted o (yielded ops a.tmps) = true := by simp [Region.wanted, hg]
  rw [if_pos hw]
  obtain ⟨v', w', hrun, r1, r2⟩ := run_apdStr w base o.type v l hown news b1 hb
  unfold Oper.wp
  simp [execOp, hop, resolve, invoke, builtin, hs, hx, hrun, Result.andThen]
  exact hK v' w' r1 ((Below.refl base w).grown r2 hb (fun k e => (World.ownsRow.lt hown k e).1))
theorem step_apdB {ops : Array Oper} {o : Oper} {a : Act} {w : World} {K : Act → World → Prop} {Q : Exit → Act → World → Prop} {E : Prop}
    (hg : o.guard = none) (s x : Operand) (hop : o.op = Op.call { callee := Callee.builtin Builtin.append, args := #[s, x], argTypes := #[22, 22] })
    (base : Nat) (v : Value) (l : List UInt8) (hs : a.eval s = v) (hown : OwnE encB 5 base v l w) (xv : Value) (news : List UInt8) (hx : a.eval x = xv) (hr : ReadB xv news w)
    (b1 : l.length + news.length ≤ 1000000) (hb : base ≤ w.heap.size)
    (hK : ∀ v' w', OwnE encB 5 base v' (l ++ news) w' → Below base w w' → K (a.put o.dst v') w') :
    if Region.wanted o (yielded ops a.tmps) = true then Oper.wp Try.prog o a w K Q else E := by
  have hw : Region.wanted o (yielded ops a.tmps) = true := by simp [Region.wanted, hg]
  rw [if_pos hw]
  obtain ⟨v', w', hrun, r1, r2, _⟩ := run_apdB (P := Try.prog) w base 22 o.type 5 Try.underlying22 infoByte v l hown xv news hr b1 hb
  unfold Oper.wp
  simp [execOp, hop, resolve, invoke, builtin, hs, hx, hrun, Result.andThen]
  exact hK v' w' r1 r2.below

theorem readB_drop {g off n cap k : Nat} {l : List UInt8} {W : World} (h : ReadB (.slice (some ⟨g, off, none⟩) n cap) l W) (hk : k ≤ l.length) (c' : Nat) : ReadB (.slice (some ⟨g, off + k, none⟩) (n - k) c') (l.drop k) W := by
  obtain ⟨ao, c, e, hc⟩ := h.form
  cases e
  refine ⟨_, c', by rw [List.length_drop], fun j hj => ⟨g, off + k, rfl, ?_⟩⟩
  rw [List.length_drop] at hj
  obtain ⟨b, o, e, h1⟩ := hc (k + j) (by omega)
  cases e
  rw [List.getElem_drop, Nat.add_assoc]
  exact h1
theorem readB_take {g off n cap k : Nat} {l : List UInt8} {W : World} (h : ReadB (.slice (some ⟨g, off, none⟩) n cap) l W) (hk : k ≤ l.length) (c' : Nat) : ReadB (.slice (some ⟨g, off, none⟩) k c') (l.take k) W := by
  obtain ⟨ao, c, e, hc⟩ := h.form
  cases e
  refine ⟨_, c', by rw [List.length_take, Nat.min_eq_left hk], fun j hj => ⟨g, off, rfl, ?_⟩⟩
  rw [List.length_take] at hj
  obtain ⟨b, o, e, h1⟩ := hc j (by omega)
  cases e
  rw [List.getElem_take]
  exact h1
theorem ownE_new0 (W : World) (base : Nat) (hb : base ≤ W.heap.size) : OwnE encB 5 base (.slice (some ⟨W.heap.size, 0, none⟩) 0 0) [] (W.alloc (.cells #[] 5)) :=
  ⟨rfl, .inr ⟨W.heap.size, 0, #[], rfl, hb, World.alloc_heap_new W _, Nat.le_refl _, by decide, rfl, rfl⟩⟩
end Go.Proofs.Ytfmghbmbahembaa

/- MessageCounts, MessageNames: the mathematics. -/
namespace Go.Proofs.Ytfmghbmbahembaa.Ms
open Go.Proofs.Ytfmghbmbahembaa

theorem head_pre {m : M} (hc : check m = true) (hs : (wAll m).size ≤ 4096) : Pre (head m) (wAll m).out := by
  obtain ⟨_, _, _, _, hqs, han, hns, had⟩ := check_split hc
  unfold wAll at hs ⊢
  obtain ⟨k0, k1, k2⟩ := okw_head m
  obtain ⟨S0, e0⟩ : ∃ S0, (WS.new 4096).put (head m) = S0 := ⟨_, rfl⟩
  rw [e0] at k0 k1 k2 hs ⊢
  have m1 := wQs_mono m.qs S0
  have m2 := wRs_mono m.an (m.qs.foldl wQ S0)
  have m3 := wRs_mono m.ns (m.an.foldl wR (m.qs.foldl wQ S0))
  have m4 := wRs_mono m.ad (m.ns.foldl wR (m.an.foldl wR (m.qs.foldl wQ S0)))
  have m5 := wE_mono (m.ad.foldl wR (m.ns.foldl wR (m.an.foldl wR (m.qs.foldl wQ S0)))) m
  obtain ⟨a1, a2, _⟩ := wQs_read m.qs k0 hqs (by omega)
  obtain ⟨b1, b2, _⟩ := wRs_read 0 m.an a1 han.2 (by omega)
  obtain ⟨c1, c2, _⟩ := wRs_read 1 m.ns b1 hns.2 (by omega)
  obtain ⟨d1, d2, _⟩ := wRs_read 2 m.ad c1 had.2 (by omega)
  rw [← k2]
  refine ((a2.trans b2).trans (c2.trans d2)).trans ?_
  unfold wE at hs ⊢
  cases he : m.edns with
  | false => exact Pre.refl _
  | true =>
    rw [he] at hs
    obtain ⟨p1, p2, p3⟩ := okw_put d1 (x := opt m.size) (by rw [opt_len]; exact hs)
    show Pre _ (WS.put _ _).out
    rw [p3]
    exact pre_app _ _
theorem cnt_bytes {a b c : Nat} {e : Bool} (ha : a ≤ 64) (hb : b ≤ 64) (hc : c ≤ 64) {l : List UInt8} (hl : l = (wAll (oneOf a b c e 0 false)).out) (hck : check (oneOf a b c e 0 false) = true) (hs : (wAll (oneOf a b c e 0 false)).size ≤ 4096) :
    (l.getD 7 0).toNat = a ∧ (l.getD 9 0).toNat = b ∧ (l.getD 11 0).toNat = c + (if e then 1 else 0) := by
  have hp := head_pre hck hs
  rw [← hl] at hp
  have e0 : head (oneOf a b c e 0 false) = two 5 ++ two (flags (oneOf a b c e 0 false)) ++ two 1 ++ two ((a : Nat) : Int) ++ two ((b : Nat) : Int) ++ two ((c : Int) + bit e 1) := by
    unfold head oneOf
    simp only [List.length_replicate, List.length_cons, List.length_nil]
    rfl
  rw [e0] at hp
  have p3 := hp
  have p2 := (pre_app _ _).trans p3
  have p1 := (pre_app _ _).trans p2
  have t1 := two_bytes p1 (by omega) (by omega)
  have t2 := two_bytes p2 (by omega) (by omega)
  have hbit : bit e 1 = if e then 1 else 0 := by cases e <;> rfl
  have t3 := two_bytes p3 (by cases e <;> simp [hbit] <;> omega) (by cases e <;> simp [hbit] <;> omega)
  have l1 : (two 5 ++ two (flags (oneOf a b c e 0 false)) ++ two 1).length = 6 := rfl
  have l2 : (two 5 ++ two (flags (oneOf a b c e 0 false)) ++ two 1 ++ two ((a : Nat) : Int)).length = 8 := rfl
  have l3 : (two 5 ++ two (flags (oneOf a b c e 0 false)) ++ two 1 ++ two ((a : Nat) : Int) ++ two ((b : Nat) : Int)).length = 10 := rfl
  rw [l1, show (6 : Nat) + 1 = 7 from rfl] at t1
  rw [l2, show (8 : Nat) + 1 = 9 from rfl] at t2
  rw [l3, hbit, show (10 : Nat) + 1 = 11 from rfl] at t3
  have u1 := (l.getD 7 0).toNat_lt
  have u2 := (l.getD 9 0).toNat_lt
  have u3 := (l.getD 11 0).toNat_lt
  refine ⟨by omega, by omega, ?_⟩
  cases e
  · simp only [Bool.false_eq_true, if_false] at t3 ⊢; omega
  · simp only [if_true] at t3 ⊢; omega
theorem oneOf_all {a b c : Nat} (ha : a ≤ 64) (hb : b ≤ 64) (hc : c ≤ 64) (e : Bool) : check (oneOf a b c e 0 false) = true ∧ (wAll (oneOf a b c e 0 false)).size = 19 + 15 * (a + b + c) + (if e then 11 else 0) ∧ enc (oneOf a b c e 0 false) = ((wAll (oneOf a b c e 0 false)).out, 0) ∧ (wAll (oneOf a b c e 0 false)).out.length = 19 + 15 * (a + b + c) + (if e then 11 else 0) ∧ dec (wAll (oneOf a b c e 0 false)).out = (oneOf a b c e 0 false, true, true) := by
  have hck : check (oneOf a b c e 0 false) = true := by
    rw [oneOf_check a b c ⟨by omega, by omega⟩ (.inl rfl) false, decide_eq_true_eq]; exact ⟨ha, hb, hc⟩
  have hz := oneOf_size a b c e 0 false
  have hs : (wAll (oneOf a b c e 0 false)).size ≤ 4096 := by rw [hz]; split <;> omega
  obtain ⟨_, h2, h3, h4, h5⟩ := back hck hs
  refine ⟨hck, hz, (enc_yes hck hs).1, by rw [h2, hz], ?_⟩
  unfold dec
  rw [if_neg (by omega), h4]
end Go.Proofs.Ytfmghbmbahembaa.Ms

/- A message that is filled by appends to its lists: for the laws of messages. -/
namespace Go.Proofs.Ytfmghbmbahembaa
open Go.RowKit Go.Shelf Go.Maps
attribute [local go_sem] Oper.semAt_some

/-- A message's box B (what lies below it is as it was in W0) and a record's box R; what lies below hi is as it was in Wi, but for B. -/
structure Cn (W0 : World) (B R : Nat) (Wi : World) (hi : Nat) (cs rs : List Value) (W : World) : Prop where
  blk : Block W B cs.toArray 27
  rcd : Block W R rs.toArray 45
  was : B = W0.heap.size
  bR : B < R
  lt : R < hi
  his : hi ≤ W.heap.size
  bel : Below B W0 W
  chg : ∀ k, k < hi → k ≠ B → W.heap[k]? = Wi.heap[k]?
section
variable {W0 : World} {B R : Nat} {Wi : World} {hi : Nat} {cs rs : List Value} {W W' : World}
theorem Cn.below (h : Cn W0 B R Wi hi cs rs W) (hb : Below W.heap.size W W') : Cn W0 B R Wi hi cs rs W' :=
  ⟨h.blk.below hb, h.rcd.below hb, h.was, h.bR, h.lt, Nat.le_trans h.his hb.size, h.bel.trans (hb.mono (by have := h.his; have := h.lt; have := h.bR; omega)), fun k hk hB => (hb.block k (Nat.lt_of_lt_of_le hk h.his)).trans (h.chg k hk hB)⟩
theorem Cn.alloc (h : Cn W0 B R Wi hi cs rs W) (o : Obj) : Cn W0 B R Wi hi cs rs (W.alloc o) := h.below ((Below.refl _ W).alloc (Nat.le_refl _) o)
theorem Cn.set (h : Cn W0 B R Wi hi cs rs W) (i : Nat) (v : Value) : Cn W0 B R Wi hi (cs.set i v) rs (W.setCell ⟨B, i, none⟩ v) := by
  have hs : (W.setCell ⟨B, i, none⟩ v).heap.size = W.heap.size := by simp [World.setCell]
  refine ⟨?_, h.rcd.other (by have := h.bR; omega) i v, h.was, h.bR, h.lt, by have := h.his; omega, h.bel.setCell (p := ⟨B, i, none⟩) (Nat.le_refl _) v, fun k hk hB => (Below.heap_setCell W ⟨B, i, none⟩ v k hB).trans (h.chg k hk hB)⟩
  have := h.blk.set i v
  rwa [show cs.toArray.setIfInBounds i v = (cs.set i v).toArray by simp] at this
theorem Cn.apd {α : Type} {enc : α → List Value} {k : Nat} {e : TypeId} {v : Value} {l : List α} (h : Cn W0 B R Wi hi cs rs W) (ho : OwnK enc k e hi v l W) (hg : W.grownBy W' v.ownBlock) : Cn W0 B R Wi hi cs rs W' := by
  have hbl := below_ownK ho hg h.his
  have h1 := h.lt
  have h2 := h.bR
  exact ⟨(hbl.block B (by omega)).trans h.blk, (hbl.block R (by omega)).trans h.rcd, h.was, h.bR, h.lt, Nat.le_trans h.his hg.size, h.bel.trans (hbl.mono (by omega)), fun j hj hB => (hbl.block j hj).trans (h.chg j hj hB)⟩
/-- A new beginning: all that lies there now counts as what was. -/
theorem Cn.again (h : Cn W0 B R Wi hi cs rs W) : Cn W0 B R W W.heap.size cs rs W := ⟨h.blk, h.rcd, h.was, h.bR, Nat.lt_of_lt_of_le h.lt h.his, Nat.le_refl _, h.bel, fun _ _ _ => rfl⟩
theorem Cn.own {α : Type} {enc : α → List Value} {k : Nat} {e : TypeId} {base : Nat} {v : Value} {l : List α} (h : Cn W0 B R Wi hi cs rs W) (hh : Wi.heap.size = hi) (ho : OwnK enc k e base v l Wi) (hB : B < base) : OwnK enc k e base v l W :=
  ownK_of_block ho fun g hg hlt => h.chg g (by omega) (by have := ownK_base ho hg; omega)
theorem Cn.b_lt (h : Cn W0 B R Wi hi cs rs W) : B < hi := Nat.lt_trans h.bR h.lt
end
theorem readR_blk1 {W : World} {g : Nat} {r : Rd.RR} (h : Block W g (encRR r).toArray 45) : ReadR (.slice (some ⟨g, 0, none⟩) 1 1) [r] W :=
  ⟨_, _, rfl, fun j hj => by
    have hj0 : j = 0 := by simp at hj; exact hj
    subst hj0
    exact ⟨g, 0, rfl, h.cell (i := 0) rfl, h.cell (i := 1) rfl, h.cell (i := 2) rfl, h.cell (i := 3) rfl, h.cell (i := 4) rfl⟩⟩
theorem few_rep {n top : Nat} (h : n ≤ top) (ht : 4 ≤ top) : FewR (List.replicate n Ms.rootR) top :=
  ⟨by rw [List.length_replicate]; exact h, fun r hr => by
    rw [List.eq_of_mem_replicate hr]
    exact ⟨by show 1 ≤ top; omega, by show 4 ≤ top; omega⟩⟩
theorem slim_oneOf {a b c : Nat} (ha : a ≤ 3000) (hb : b ≤ 3000) (hc : c ≤ 3000) (e : Bool) (z : Int) (cut : Bool) : Slim (Ms.oneOf a b c e z cut) :=
  ⟨slim_one.1, slim_one.2, (few_rep ha (by omega)).mono (by omega), (few_rep hb (by omega)).mono (by omega), (few_rep hc (by omega)).mono (by omega)⟩
theorem short_oneOf {a b c : Nat} (ha : a ≤ 3000) (hb : b ≤ 3000) (hc : c ≤ 3000) (e : Bool) (z : Int) (cut : Bool) : Short (Ms.oneOf a b c e z cut) :=
  ⟨short_one.1, by show (List.replicate a _).length ≤ _; rw [List.length_replicate]; omega, by show (List.replicate b _).length ≤ _; rw [List.length_replicate]; omega, by show (List.replicate c _).length ≤ _; rw [List.length_replicate]; omega⟩
theorem root_made : Rd.makeA [0] 5 7 = Ms.rootR := by decide
end Go.Proofs.Ytfmghbmbahembaa

/- MessageCounts. -/
namespace Go.Proofs.Ytfmghbmbahembaa
open Go.RowKit Go.Shelf Go.Maps
attribute [local go_sem] Oper.semAt_some

set_option maxRecDepth 100000 in
set_option maxHeartbeats 8000000 in
theorem counts_any (AW : ∀ W, Calls Try.prog 11 #[] W fun e w' => e = .returned (.bool true) ∧ Below W.heap.size W w') (z0 z1 z2 : Int) (ed : Bool) (w : World) :
    Calls Try.prog 7 #[.int .i64 z0, .int .i64 z1, .int .i64 z2, .bool ed] w fun e w' => e = .returned (.bool true) ∧ Below w.heap.size w w' := by
  have HAW := Lib.hid AW
  clear AW
  have e0 : (0 ≤ z0 ∧ z0 ≤ 66 ∧ 0 ≤ z1 ∧ z1 ≤ 66 ∧ 0 ≤ z2 ∧ z2 ≤ 66) ∨ z0 < 0 ∨ (0 ≤ z0 ∧ 66 < z0) ∨ (0 ≤ z0 ∧ z0 ≤ 66 ∧ z1 < 0) ∨ (0 ≤ z0 ∧ z0 ≤ 66 ∧ 0 ≤ z1 ∧ 66 < z1) ∨ (0 ≤ z0 ∧ z0 ≤ 66 ∧ 0 ≤ z1 ∧ z1 ≤ 66 ∧ z2 < 0) ∨ (0 ≤ z0 ∧ z0 ≤ 66 ∧ 0 ≤ z1 ∧ z1 ≤ 66 ∧ 0 ≤ z2 ∧ 66 < z2) := by omega
  rcases e0 with ⟨a1, a2, a3, a4, a5, a6⟩ | a1 | ⟨a1, a2⟩ | ⟨a1, a2, a3⟩ | ⟨a1, a2, a3, a4⟩ | ⟨a1, a2, a3, a4, a5⟩ | ⟨a1, a2, a3, a4, a5, a6⟩
  · obtain ⟨a, rfl⟩ := Int.eq_ofNat_of_zero_le a1
    obtain ⟨b, rfl⟩ := Int.eq_ofNat_of_zero_le a3
    obtain ⟨c, rfl⟩ := Int.eq_ofNat_of_zero_le a5
    have ha : a ≤ 66 := by omega
    have hb : b ≤ 66 := by omega
    have hc : c ≤ 66 := by omega
    go_enter Try.func7, Try.ntmps7
    go_wp2_with fail
    refine (one_any _).mono ?_
    rintro e w1 ⟨vq, rfl, hL1, b1⟩
    obtain ⟨aq, cq, rfl, _⟩ := hL1.qs.form
    have HL1 := Lib.hid hL1
    have HB1 := Lib.hid b1
    clear hL1 b1
    simp only [msgV, oneM, Ms.M.zero, qA, List.length_cons, List.length_nil, Nat.zero_add]
    go_wp2_with fail
    obtain ⟨wA, hwA⟩ : ∃ W, w1.alloc (.cells #[.int .i64 5, .bool false, .int .i64 0, .bool false, .bool false, .bool true, .bool false, .int .i64 0, .slice aq 1 cq, .slice none 0 0, .slice none 0 0, .slice none 0 0, .bool ed, .int .i64 0] 27) = W := ⟨_, rfl⟩
    have bA : Below w1.heap.size w1 wA := by rw [← hwA]; exact (Below.refl _ _).alloc (Nat.le_refl _) _
    have kA : Block wA w1.heap.size #[.int .i64 5, .bool false, .int .i64 0, .bool false, .bool false, .bool true, .bool false, .int .i64 0, .slice aq 1 cq, .slice none 0 0, .slice none 0 0, .slice none 0 0, .bool ed, .int .i64 0] 27 := by rw [← hwA]; exact Block.new _ _ _
    have hsA : wA.heap.size = w1.heap.size + 1 := by rw [← hwA]; simp
    rw [hwA]
    clear hwA
    refine (rmakeA_any [0] 5 7 wA (by decide) (by decide) (by decide)).mono ?_
    rw [root_made]
    rintro e w2 ⟨rfl, b2⟩
    have bA2 := Lib.hid (bA.trans (b2.mono bA.size))
    have k2 := kA.below b2
    have h2s : w1.heap.size < w2.heap.size := by have := b2.size; omega
    simp only [rrV, Ms.rootR, show Rd.four 7 = [0, 0, 0, 7] from by decide]
    clear bA kA b2 hsA
    go_wp2_with fail
    obtain ⟨W1, hW1⟩ : ∃ W, w2.alloc (.cells #[.string ⟨#[0]⟩, .int .i64 1, .int .i64 1, .int .i64 5, .string ⟨#[0, 0, 0, 7]⟩] 45) = W := ⟨_, rfl⟩
    have bW : Below w2.heap.size w2 W1 := by rw [← hW1]; exact (Below.refl _ _).alloc (Nat.le_refl _) _
    have kR : Block W1 w2.heap.size #[.string ⟨#[0]⟩, .int .i64 1, .int .i64 1, .int .i64 5, .string ⟨#[0, 0, 0, 7]⟩] 45 := by rw [← hW1]; exact Block.new _ _ _
    have hsW : W1.heap.size = w2.heap.size + 1 := by rw [← hW1]; simp
    have HC : Hid (Cn w1 w1.heap.size w2.heap.size W1 (w2.heap.size + 1) [.int .i64 5, .bool false, .int .i64 0, .bool false, .bool false, .bool true, .bool false, .int .i64 0, .slice aq 1 cq, .slice none 0 0, .slice none 0 0, .slice none 0 0, .bool ed, .int .i64 0] [.string ⟨#[0]⟩, .int .i64 1, .int .i64 1, .int .i64 5, .string ⟨#[0, 0, 0, 7]⟩] W1) := Lib.hid ⟨k2.below bW, kR, rfl, h2s, Nat.lt_succ_self _, by omega, bA2.out.trans (bW.mono bA2.out.size), fun _ _ _ => rfl⟩
    rw [hW1]
    clear hW1 bW kR k2 bA2
    obtain ⟨B, hB⟩ : ∃ B, w1.heap.size = B := ⟨_, rfl⟩
    obtain ⟨R, hR⟩ : ∃ R, w2.heap.size = R := ⟨_, rfl⟩
    obtain ⟨H0, hH0⟩ : ∃ H, R + 1 = H := ⟨_, rfl⟩
    rw [hB, hR, hH0] at HC
    rw [hB, hR] at h2s
    rw [hB, hR]
    have HC0 := HC
    have hBH0 := HC0.out.b_lt
    clear HC hsW hR hH0
    go_loopw [11] (fun i wx => ∃ (k : Nat) (v : Value), i = .int .i64 (k : Int) ∧ k ≤ a ∧ Hid (OwnK encRR 5 45 H0 v (List.replicate k Ms.rootR) wx) ∧ Hid (Cn w1 B R W1 H0 [.int .i64 5, .bool false, .int .i64 0, .bool false, .bool false, .bool true, .bool false, .int .i64 0, .slice aq 1 cq, v, .slice none 0 0, .slice none 0 0, .bool ed, .int .i64 0] [.string ⟨#[0]⟩, .int .i64 1, .int .i64 1, .int .i64 5, .string ⟨#[0, 0, 0, 7]⟩] wx)) (fun i _ => a + 1 - (intOf i).toNat)
    case atStart => exact ⟨0, _, rfl, by omega, Lib.hid (ownK_nil _ _ _ _ _), HC0⟩
    case round =>
      obtain ⟨k, v, rfl, hk, ho, hb⟩ := hrel
      by_cases hlt : k < a
      · obtain ⟨ao, cp, rfl, _⟩ := ownK_form ho.out
        simp only [List.length_replicate] at ho hb
        have hlt' := hb.out.lt
        have hbR' := hb.out.bR
        have c9 := hb.out.blk.cell (i := 9) (v := .slice ao k cp) rfl
        have r0 := hb.out.rcd.cell (i := 0) (v := .string ⟨#[0]⟩) rfl
        have r1 := hb.out.rcd.cell (i := 1) (v := .int .i64 1) rfl
        have r2 := hb.out.rcd.cell (i := 2) (v := .int .i64 1) rfl
        have r3 := hb.out.rcd.cell (i := 3) (v := .int .i64 5) rfl
        have r4 := hb.out.rcd.cell (i := 4) (v := .string ⟨#[0, 0, 0, 7]⟩) rfl
        clear HC0
        go_wp2_with (at_builtin; refine wpList_apR _ rfl _ _ rfl H0 _ _ rfl (ownK_alloc ho.out _) _ [Ms.rootR] rfl (readR_blk1 (Block.new _ _ _)) (by simp; omega) (hb.out.alloc _).his ?_; intro v8 w8 ho8 hg8 _; obtain ⟨ao8, cp8, rfl, _⟩ := ownK_form ho8; simp only [List.length_append, List.length_replicate, List.length_cons, List.length_nil, Nat.zero_add] at ho8 hg8 ⊢; have B8 := Lib.hid ((hb.out.alloc _).apd (ownK_alloc ho.out _) hg8); have O8 := Lib.hid ho8; have c98 := B8.out.blk.cell (i := 9) (v := .slice ao k cp) rfl; have f98 := B8.out.blk.frozen 9; clear ho8 hg8)
        go_roundw
        case rel => exact ⟨k + 1, _, by go_num, by omega, Lib.hid (by rw [List.replicate_succ']; exact ownK_set O8.out (by omega)), Lib.hid (B8.out.set 9 _)⟩
        case measure => simp [intOf]; omega
      · obtain rfl : a = k := by omega
        obtain ⟨ao0, cp0, rfl, _⟩ := ownK_form ho.out
        simp only [List.length_replicate] at ho hb
        have HP0 := ho
        obtain ⟨H1, hH1⟩ : ∃ H, wr.heap.size = H := ⟨_, rfl⟩
        have HC1 : Hid (Cn w1 B R wr H1 [.int .i64 5, .bool false, .int .i64 0, .bool false, .bool false, .bool true, .bool false, .int .i64 0, .slice aq 1 cq, (.slice ao0 a cp0), .slice none 0 0, .slice none 0 0, .bool ed, .int .i64 0] [.string ⟨#[0]⟩, .int .i64 1, .int .i64 1, .int .i64 5, .string ⟨#[0, 0, 0, 7]⟩] wr) := Lib.hid (hH1 ▸ hb.out.again)
        have hBH1 := HC1.out.b_lt
        clear hb ho hlt hk HC0
        go_wp2_with fail
        go_loopw [12] (fun i wx => ∃ (k : Nat) (v : Value), i = .int .i64 (k : Int) ∧ k ≤ b ∧ Hid (OwnK encRR 5 45 H1 v (List.replicate k Ms.rootR) wx) ∧ Hid (Cn w1 B R wr H1 [.int .i64 5, .bool false, .int .i64 0, .bool false, .bool false, .bool true, .bool false, .int .i64 0, .slice aq 1 cq, (.slice ao0 a cp0), v, .slice none 0 0, .bool ed, .int .i64 0] [.string ⟨#[0]⟩, .int .i64 1, .int .i64 1, .int .i64 5, .string ⟨#[0, 0, 0, 7]⟩] wx)) (fun i _ => b + 1 - (intOf i).toNat)
        case atStart => exact ⟨0, _, rfl, by omega, Lib.hid (ownK_nil _ _ _ _ _), HC1⟩
        case round =>
          obtain ⟨k, v, rfl, hk, ho, hb⟩ := hrel
          by_cases hlt : k < b
          · obtain ⟨ao, cp, rfl, _⟩ := ownK_form ho.out
            simp only [List.length_replicate] at ho hb
            have hlt' := hb.out.lt
            have hbR' := hb.out.bR
            have c9 := hb.out.blk.cell (i := 10) (v := .slice ao k cp) rfl
            have r0 := hb.out.rcd.cell (i := 0) (v := .string ⟨#[0]⟩) rfl
            have r1 := hb.out.rcd.cell (i := 1) (v := .int .i64 1) rfl
            have r2 := hb.out.rcd.cell (i := 2) (v := .int .i64 1) rfl
            have r3 := hb.out.rcd.cell (i := 3) (v := .int .i64 5) rfl
            have r4 := hb.out.rcd.cell (i := 4) (v := .string ⟨#[0, 0, 0, 7]⟩) rfl
            clear HC1
            go_wp2_with (at_builtin; refine wpList_apR _ rfl _ _ rfl H1 _ _ rfl (ownK_alloc ho.out _) _ [Ms.rootR] rfl (readR_blk1 (Block.new _ _ _)) (by simp; omega) (hb.out.alloc _).his ?_; intro v8 w8 ho8 hg8 _; obtain ⟨ao8, cp8, rfl, _⟩ := ownK_form ho8; simp only [List.length_append, List.length_replicate, List.length_cons, List.length_nil, Nat.zero_add] at ho8 hg8 ⊢; have B8 := Lib.hid ((hb.out.alloc _).apd (ownK_alloc ho.out _) hg8); have O8 := Lib.hid ho8; have c98 := B8.out.blk.cell (i := 10) (v := .slice ao k cp) rfl; have f98 := B8.out.blk.frozen 10; clear ho8 hg8)
            go_roundw
            case rel => exact ⟨k + 1, _, by go_num, by omega, Lib.hid (by rw [List.replicate_succ']; exact ownK_set O8.out (by omega)), Lib.hid (B8.out.set 10 _)⟩
            case measure => simp [intOf]; omega
          · obtain rfl : b = k := by omega
            obtain ⟨ao1, cp1, rfl, _⟩ := ownK_form ho.out
            simp only [List.length_replicate] at ho hb
            have HP1 := ho
            have HP0 := Lib.hid (hb.out.own hH1 HP0.out hBH0)
            obtain ⟨H2, hH2⟩ : ∃ H, wr.heap.size = H := ⟨_, rfl⟩
            have HC2 : Hid (Cn w1 B R wr H2 [.int .i64 5, .bool false, .int .i64 0, .bool false, .bool false, .bool true, .bool false, .int .i64 0, .slice aq 1 cq, (.slice ao0 a cp0), (.slice ao1 b cp1), .slice none 0 0, .bool ed, .int .i64 0] [.string ⟨#[0]⟩, .int .i64 1, .int .i64 1, .int .i64 5, .string ⟨#[0, 0, 0, 7]⟩] wr) := Lib.hid (hH2 ▸ hb.out.again)
            have hBH2 := HC2.out.b_lt
            clear hb ho hlt hk HC1
            go_wp2_with fail
            go_loopw [13] (fun i wx => ∃ (k : Nat) (v : Value), i = .int .i64 (k : Int) ∧ k ≤ c ∧ Hid (OwnK encRR 5 45 H2 v (List.replicate k Ms.rootR) wx) ∧ Hid (Cn w1 B R wr H2 [.int .i64 5, .bool false, .int .i64 0, .bool false, .bool false, .bool true, .bool false, .int .i64 0, .slice aq 1 cq, (.slice ao0 a cp0), (.slice ao1 b cp1), v, .bool ed, .int .i64 0] [.string ⟨#[0]⟩, .int .i64 1, .int .i64 1, .int .i64 5, .string ⟨#[0, 0, 0, 7]⟩] wx)) (fun i _ => c + 1 - (intOf i).toNat)
            case atStart => exact ⟨0, _, rfl, by omega, Lib.hid (ownK_nil _ _ _ _ _), HC2⟩
            case round =>
              obtain ⟨k, v, rfl, hk, ho, hb⟩ := hrel
              by_cases hlt : k < c
              · obtain ⟨ao, cp, rfl, _⟩ := ownK_form ho.out
                simp only [List.length_replicate] at ho hb
                have hlt' := hb.out.lt
                have hbR' := hb.out.bR
                have c9 := hb.out.blk.cell (i := 11) (v := .slice ao k cp) rfl
                have r0 := hb.out.rcd.cell (i := 0) (v := .string ⟨#[0]⟩) rfl
                have r1 := hb.out.rcd.cell (i := 1) (v := .int .i64 1) rfl
                have r2 := hb.out.rcd.cell (i := 2) (v := .int .i64 1) rfl
                have r3 := hb.out.rcd.cell (i := 3) (v := .int .i64 5) rfl
                have r4 := hb.out.rcd.cell (i := 4) (v := .string ⟨#[0, 0, 0, 7]⟩) rfl
                clear HC2
                go_wp2_with (at_builtin; refine wpList_apR _ rfl _ _ rfl H2 _ _ rfl (ownK_alloc ho.out _) _ [Ms.rootR] rfl (readR_blk1 (Block.new _ _ _)) (by simp; omega) (hb.out.alloc _).his ?_; intro v8 w8 ho8 hg8 _; obtain ⟨ao8, cp8, rfl, _⟩ := ownK_form ho8; simp only [List.length_append, List.length_replicate, List.length_cons, List.length_nil, Nat.zero_add] at ho8 hg8 ⊢; have B8 := Lib.hid ((hb.out.alloc _).apd (ownK_alloc ho.out _) hg8); have O8 := Lib.hid ho8; have c98 := B8.out.blk.cell (i := 11) (v := .slice ao k cp) rfl; have f98 := B8.out.blk.frozen 11; clear ho8 hg8)
                go_roundw
                case rel => exact ⟨k + 1, _, by go_num, by omega, Lib.hid (by rw [List.replicate_succ']; exact ownK_set O8.out (by omega)), Lib.hid (B8.out.set 11 _)⟩
                case measure => simp [intOf]; omega
              · obtain rfl : c = k := by omega
                obtain ⟨ao2, cp2, rfl, _⟩ := ownK_form ho.out
                simp only [List.length_replicate] at ho hb
                have P0 := Lib.hid (hb.out.own hH2 HP0.out hBH0)
                have P1 := Lib.hid (hb.out.own hH2 HP1.out hBH1)
                have bW : Below w1.heap.size w1 wr := by rw [hB]; exact hb.out.bel
                have LW : Lists (Ms.oneOf a b c ed 0 false) (.slice aq 1 cq) (.slice ao0 a cp0) (.slice ao1 b cp1) (.slice ao2 c cp2) wr := ⟨(HL1.out.below bW).qs, readR_own P0.out, readR_own P1.out, readR_own ho.out⟩
                have BW := Lib.hid (HB1.out.trans (bW.mono HB1.out.size))
                have KW : Block wr B #[.int .i64 5, .bool false, .int .i64 0, .bool false, .bool false, .bool true, .bool false, .int .i64 0, .slice aq 1 cq, .slice ao0 a cp0, .slice ao1 b cp1, .slice ao2 c cp2, .bool ed, .int .i64 0] 27 := hb.out.blk
                have KH := Lib.hid KW
                have c0 := KW.cell (i := 0) (v := .int .i64 5) rfl
                have c1 := KW.cell (i := 1) (v := .bool false) rfl
                have c2 := KW.cell (i := 2) (v := .int .i64 0) rfl
                have c3 := KW.cell (i := 3) (v := .bool false) rfl
                have c4 := KW.cell (i := 4) (v := .bool false) rfl
                have c5 := KW.cell (i := 5) (v := .bool true) rfl
                have c6 := KW.cell (i := 6) (v := .bool false) rfl
                have c7 := KW.cell (i := 7) (v := .int .i64 0) rfl
                have c8 := KW.cell (i := 8) (v := .slice aq 1 cq) rfl
                have c9 := KW.cell (i := 9) (v := .slice ao0 a cp0) rfl
                have c10 := KW.cell (i := 10) (v := .slice ao1 b cp1) rfl
                have c11 := KW.cell (i := 11) (v := .slice ao2 c cp2) rfl
                have c12 := KW.cell (i := 12) (v := .bool ed) rfl
                have c13 := KW.cell (i := 13) (v := .int .i64 0) rfl
                clear hb ho HP0 HP1 P0 P1 bW KW hlt hk HL1 HB1 HC2
                by_cases hall : a ≤ 64 ∧ b ≤ 64 ∧ c ≤ 64
                · obtain ⟨ha4, hb4, hc4⟩ := hall
                  obtain ⟨k1, k2, k3, k4, k5⟩ := Ms.oneOf_all ha4 hb4 hc4 ed
                  have k6 := Ms.cnt_bytes (e := ed) ha4 hb4 hc4 rfl k1 (by rw [k2]; split <;> omega)
                  go_wp2_with fail
                  refine (enc_any (Ms.oneOf a b c ed 0 false) _ _ _ _ wr LW (slim_oneOf (by omega) (by omega) (by omega) ed 0 false) (few_rep (by omega) (by omega)) (few_rep (by omega) (by omega)) (few_rep (by omega) (by omega))).mono ?_
                  unfold EncRet
                  rw [k3]
                  obtain ⟨l, hl⟩ : ∃ l, (Ms.wAll (Ms.oneOf a b c ed 0 false)).out = l := ⟨_, rfl⟩
                  rw [hl] at k4 k5 k6 ⊢
                  rintro e w2 ⟨v, rfl, ho2, b2⟩
                  replace ho2 : OwnE encB 5 wr.heap.size v l w2 := ho2
                  have hge : 19 ≤ l.length := by rw [k4]; omega
                  obtain ⟨g, cap, rfl, _, cur, hcur, _, hcl⟩ := own_lit ho2 (by intro e; rw [e] at hge; simp at hge)
                  have y7 : w2.cell? ⟨g, 7, none⟩ = some (.int .u8 (a : Int)) := by
                    have h := ownE_cell ho2 (j := 7) (by omega)
                    rw [Nat.zero_add] at h
                    rw [h, ← k6.1, List.getD_eq_getElem?_getD, List.getElem?_eq_getElem (by omega)]; rfl
                  have y9 : w2.cell? ⟨g, 9, none⟩ = some (.int .u8 (b : Int)) := by
                    have h := ownE_cell ho2 (j := 9) (by omega)
                    rw [Nat.zero_add] at h
                    rw [h, ← k6.2.1, List.getD_eq_getElem?_getD, List.getElem?_eq_getElem (by omega)]; rfl
                  have y11 : w2.cell? ⟨g, 11, none⟩ = some (.int .u8 ((c + (if ed then 1 else 0) : Nat) : Int)) := by
                    have h := ownE_cell ho2 (j := 11) (by omega)
                    rw [Nat.zero_add] at h
                    rw [h, ← k6.2.2, List.getD_eq_getElem?_getD, List.getElem?_eq_getElem (by omega)]; rfl
                  have hgl : g < w2.heap.size := blk_lt hcur
                  have HO := Lib.hid ho2
                  have K2 := Lib.hid (KH.out.below b2)
                  have L2 := Lib.hid (LW.below b2)
                  have B2 := Lib.hid (BW.out.trans (b2.mono BW.out.size))
                  have hd := readB_own ho2
                  have hca := capOk_own ho2
                  have hll : l.length ≤ 100000 := by rw [k4]; split <;> omega
                  obtain ⟨n, hn⟩ : ∃ n, l.length = n := ⟨_, rfl⟩
                  have HN := Lib.hid hn
                  rw [hn] at k4 hcl hd hca HO ⊢
                  have D := Lib.hid (fun W (hb : Below w2.heap.size w2 W) => decode_any l _ W (readB_below hd hb) hca hll)
                  unfold DecRet at D
                  rw [k5] at D
                  clear ho2 b2 LW KH BW k1 k2 k3 k5 k6 hl hd hca hn hll c0 c1 c2 c3 c4 c5 c6 c7 c8 c9 c10 c11 c12 c13
                  cases ed
                  all_goals
                    simp only [Bool.false_eq_true, if_false, if_true, Nat.add_zero, Int.natCast_add, Int.cast_ofNat_Int] at k4 y11 D K2 L2
                    subst k4
                    go_wp2_with fail
                    refine (D.out w2 (Below.refl _ _)).mono ?_
                    rintro e w8 ⟨vq8, va8, vn8, vd8, rfl, hL8, b8⟩
                    have bo := fun o => b8.trans (((Below.refl _ w8).alloc (Nat.le_refl _) o).mono b8.size)
                    have L8 := Lib.hid (L2.out.below b8)
                    have K8 := K2.out.below b8
                    have B8 := Lib.hid (B2.out.trans (b8.mono B2.out.size))
                    obtain ⟨a08, c08, a18, c18, a28, c28, a38, c38, rfl, rfl, rfl, rfl⟩ := lists_form hL8
                    have x7 : ∀ o, (w8.alloc o).cell? ⟨g, 7, none⟩ = _ := fun o => ((bo o).cell (p := ⟨g, 7, none⟩) hgl).trans y7
                    have x9 : ∀ o, (w8.alloc o).cell? ⟨g, 9, none⟩ = _ := fun o => ((bo o).cell (p := ⟨g, 9, none⟩) hgl).trans y9
                    have x11 : ∀ o, (w8.alloc o).cell? ⟨g, 11, none⟩ = _ := fun o => ((bo o).cell (p := ⟨g, 11, none⟩) hgl).trans y11
                    have r0 := fun o => (K8.alloc o).cell (i := 0) (v := .int .i64 5) rfl
                    have r1 := fun o => (K8.alloc o).cell (i := 1) (v := .bool false) rfl
                    have r2 := fun o => (K8.alloc o).cell (i := 2) (v := .int .i64 0) rfl
                    have r3 := fun o => (K8.alloc o).cell (i := 3) (v := .bool false) rfl
                    have r4 := fun o => (K8.alloc o).cell (i := 4) (v := .bool false) rfl
                    have r5 := fun o => (K8.alloc o).cell (i := 5) (v := .bool true) rfl
                    have r6 := fun o => (K8.alloc o).cell (i := 6) (v := .bool false) rfl
                    have r7 := fun o => (K8.alloc o).cell (i := 7) (v := .int .i64 0) rfl
                    have r8 := fun o => (K8.alloc o).cell (i := 8) (v := .slice aq 1 cq) rfl
                    have r9 := fun o => (K8.alloc o).cell (i := 9) (v := .slice ao0 a cp0) rfl
                    have r10 := fun o => (K8.alloc o).cell (i := 10) (v := .slice ao1 b cp1) rfl
                    have r11 := fun o => (K8.alloc o).cell (i := 11) (v := .slice ao2 c cp2) rfl
                    have r12 := fun o => (K8.alloc o).cell (i := 12) (v := .bool _) rfl
                    have r13 := fun o => (K8.alloc o).cell (i := 13) (v := .int .i64 0) rfl
                    rw [show (Ms.oneOf a b c _ 0 false).an.length = a from List.length_replicate, show (Ms.oneOf a b c _ 0 false).ns.length = b from List.length_replicate, show (Ms.oneOf a b c _ 0 false).ad.length = c from List.length_replicate] at hL8
                    have LX := Lib.hid hL8
                    clear hL8 b8 bo K8 y7 y9 y11 D
                    simp only [msgV, errOf_true, Ms.oneOf, List.length_replicate, List.length_nil, List.length_cons, Nat.zero_add] at r0 ⊢
                    go_wp2_with fail
                    refine (message_same (Ms.oneOf a b c _ 0 false) (.slice a08 1 c08) (.slice a18 a c18) (.slice a28 b c28) (.slice a38 c c38) (.slice aq 1 cq) (.slice ao0 a cp0) (.slice ao1 b cp1) (.slice ao2 c cp2) _ (LX.out.below ((Below.refl _ _).alloc (Nat.le_refl _) _)) (L8.out.below ((Below.refl _ _).alloc (Nat.le_refl _) _)) (short_oneOf (by omega) (by omega) (by omega) _ 0 false)).mono ?_
                    rintro e w9 ⟨rfl, b9⟩
                    have B9 := Lib.hid ((B8.out.alloc B8.out.size _).trans (b9.mono ((B8.out.alloc B8.out.size _)).size))
                    clear b9 x7 x9 x11 r0 r1 r2 r3 r4 r5 r6 r7 r8 r9 r10 r11 r12 r13
                    go_wp2_with fail
                    refine (HAW.out _).mono ?_
                    rintro e w11 ⟨rfl, b11⟩
                    go_wp2_with fail
                    go_ret
                    exact ⟨rfl, B9.out.trans (b11.mono B9.out.size)⟩
                · have hck : Ms.check (Ms.oneOf a b c ed 0 false) = false := by
                    rw [Ms.oneOf_check a b c ⟨by omega, by omega⟩ (.inl rfl) false, decide_eq_false_iff_not]; exact hall
                  have hen := Ms.enc_arg hck
                  have hcs : 64 < a ∨ (a ≤ 64 ∧ 64 < b) ∨ (a ≤ 64 ∧ b ≤ 64 ∧ 64 < c) := by omega
                  go_wp2_with fail
                  refine (enc_any (Ms.oneOf a b c ed 0 false) _ _ _ _ wr LW (slim_oneOf (by omega) (by omega) (by omega) ed 0 false) (few_rep (by omega) (by omega)) (few_rep (by omega) (by omega)) (few_rep (by omega) (by omega))).mono ?_
                  unfold EncRet
                  rw [hen]
                  rintro e w2 ⟨v, rfl, ho2, b2⟩
                  have K2 := KH.out.below b2
                  have L2 := LW.below b2
                  have B2 := Lib.hid (BW.out.trans (b2.mono BW.out.size))
                  have CK := Lib.hid (mcheck_any (Ms.oneOf a b c ed 0 false) _ _ _ _ w2 L2 (slim_oneOf (by omega) (by omega) (by omega) ed 0 false))
                  rw [hck] at CK
                  clear c0 c1 c2 c3 c4 c5 c6 c7 c8 c9 c10 c11 c12 c13
                  have c0 := K2.cell (i := 0) (v := .int .i64 5) rfl
                  have c1 := K2.cell (i := 1) (v := .bool false) rfl
                  have c2 := K2.cell (i := 2) (v := .int .i64 0) rfl
                  have c3 := K2.cell (i := 3) (v := .bool false) rfl
                  have c4 := K2.cell (i := 4) (v := .bool false) rfl
                  have c5 := K2.cell (i := 5) (v := .bool true) rfl
                  have c6 := K2.cell (i := 6) (v := .bool false) rfl
                  have c7 := K2.cell (i := 7) (v := .int .i64 0) rfl
                  have c8 := K2.cell (i := 8) (v := .slice aq 1 cq) rfl
                  have c9 := K2.cell (i := 9) (v := .slice ao0 a cp0) rfl
                  have c10 := K2.cell (i := 10) (v := .slice ao1 b cp1) rfl
                  have c11 := K2.cell (i := 11) (v := .slice ao2 c cp2) rfl
                  have c12 := K2.cell (i := 12) (v := .bool ed) rfl
                  have c13 := K2.cell (i := 13) (v := .int .i64 0) rfl
                  obtain ⟨av, nv, cv, rfl⟩ := own_shape ho2
                  clear ho2 b2 LW KH BW K2 L2 hen hck hall
                  rcases hcs with h1 | ⟨h1, h2⟩ | ⟨h1, h2, h3⟩
                  all_goals
                    go_wp2_with fail
                    refine CK.out.mono ?_
                    rintro e w9 ⟨rfl, b9⟩
                    have B9 := Lib.hid (B2.out.trans (b9.mono B2.out.size))
                    clear b9
                    go_wp2_with fail
                    refine (HAW.out _).mono ?_
                    rintro e w11 ⟨rfl, b11⟩
                    go_wp2_with fail
                    go_ret
                    exact ⟨rfl, B9.out.trans (b11.mono B9.out.size)⟩
  all_goals
    go_enter Try.func7, Try.ntmps7
    go_wp2_with fail
    refine (HAW.out _).mono ?_
    rintro e w1 ⟨rfl, b1⟩
    go_wp2_with fail
    go_ret
    exact ⟨rfl, b1⟩
end Go.Proofs.Ytfmghbmbahembaa

/- MessageCounts of package freshetlaw4 (as many records as there are of each section are counted in the head, one more for EDNS, and more than 64 of one section are refused) returns true at every three ints and bool.
   Conditions: those of the row, none beside. -/
namespace Go.Proofs.Ytfmghbmbahembaa.messageCounts
open Go.ChangeShapes Go.WideShapes Go.ChangeAt Go.RowKit

set_option maxRecDepth 100000 in
theorem contract (H : Type) (enc : TypeId × Value → H) (W : World) (base : Nat) (args : Array Value) (ds gs : List (DataW H)) (before : List MemPlace)
    (hval : ∀ (j : Nat) t v, Try.f7.params[j]? = some t → args[j]? = some v → Value.okWide Try.prog W .any base t v)
    (hW : DataW.Whole enc Try.prog Try.f7.params.toList Rows.messageCountsSpec.vars false W args.toList ds gs before) (_hL : laidMetH Try.prog laidList W) :
    Calls Try.prog 7 args W fun e W' => ∃ v, e = .returned v ∧ Rows.messageCountsSpec.post enc Try.prog Try.f7 false true false false W args v W' := by
  have hW' := hW
  obtain ⟨p, q, hA0, hV, rfl, _, _⟩ := hW
  have hA : DataW.TrodAll enc Try.prog W 0 (fun _ => true) true Try.f7.params.toList args.toList ds p := hA0
  clear hA0
  rw [Try.params7] at hA hval
  obtain ⟨v0, vs0, d0, ds0, p0, q0, hargs0, rfl, rfl, h0, r0⟩ := trodAll_cons hA
  obtain ⟨v1, vs1, d1, ds1, p1, q1, hargs1, rfl, rfl, h1, r1⟩ := trodAll_cons r0
  subst hargs1
  obtain ⟨v2, vs2, d2, ds2, p2, q2, hargs2, rfl, rfl, h2, r2⟩ := trodAll_cons r1
  subst hargs2
  obtain ⟨v3, vs3, d3, ds3, p3, q3, hargs3, rfl, rfl, h3, r3⟩ := trodAll_cons r2
  subst hargs3
  obtain ⟨rfl, rfl, rfl⟩ := trodAll_nil r3
  obtain rfl : args = #[v0, v1, v2, v3] := by cases args; simp_all
  obtain ⟨rfl, rfl⟩ := trodVars_none hV
  obtain ⟨z0, rfl, hz0⟩ := arg_int (hval 0 _ _ rfl rfl) h0
  obtain ⟨z1, rfl, hz1⟩ := arg_int (hval 1 _ _ rfl rfl) h1
  obtain ⟨z2, rfl, hz2⟩ := arg_int (hval 2 _ _ rfl rfl) h2
  obtain ⟨o3, rfl⟩ := arg_bool (hval 3 _ _ rfl rfl) h3
  refine (counts_any awake_any z0 z1 z2 o3 W).mono fun e W' ⟨he, hbl⟩ => ?_
  exact ⟨_, he, law_post hW' rfl hbl rfl rfl (fun t ht => readT t (by rw [Try.params7] at ht; exact (show ∀ t ∈ (#[3, 3, 3, 4] : Array TypeId).toList, t ∈ [9, 3, 4, 22, 27] by decide) t ht))⟩

set_option maxRecDepth 100000 in
theorem reads (os : Os) {H : Type} (enc : TypeId × Value → H) : ∃ places, DataW.whole enc Try.prog ((laidWorld os).forCall (fun _ _ => 0) ⟨#[], #[.int .i64 0, .int .i64 0, .int .i64 0, .bool false], []⟩).memory Try.f7.params.toList Rows.messageCountsSpec.vars false (#[.int .i64 0, .int .i64 0, .int .i64 0, .bool false] : Array Value).toList 8 = some ([.lit (.int .i64 0), .lit (.int .i64 0), .lit (.int .i64 0), .lit (.bool false)], [], places) :=
  ⟨[], by kernel_rfl⟩

set_option maxRecDepth 100000 in
theorem lifted (os : Os) (started : os.Started) (H : Type) (enc : TypeId × Value → H) (F : Stop.Interp) :
    ReturnsInHanded {} Try.checked os 7 .any ((OpenSpec.ofChange Rows.messageCountsSpec).preRow enc Try.prog Try.f7 Rows.messageCountsRow.domain false Rows.messageCountsRow.laid) (((OpenSpec.ofChange Rows.messageCountsSpec).at F).post enc Try.prog Try.f7 false true false false) := by
  obtain ⟨places, hx⟩ := reads os enc
  refine returnsInHanded_of_row (C := Try.checked) (s := OpenSpec.ofChange Rows.messageCountsSpec) own started (by kernel_rfl) Try.func7
    (witness_row_atRef (enc := enc) (C := Try.checked) false (laidWorld os) #[.int .i64 0, .int .i64 0, .int .i64 0, .bool false] rfl (by kernel_rfl) (by kernel_rfl) (by kernel_rfl)
      (OpenSpec.preRow_of_cond 8 hx (by kernel_rfl) (fun k hk => by cases hk) (by kernel_rfl) (laid_met os _))) ?_
  intro W base args ds gs before hval hW _ _ _ hL _ _
  exact contract H enc W base args ds gs before hval hW hL

theorem said : Rows.MessageCountsSaid :=
  OpenClaim.holds_of_cond 7 Try.f7 rfl rfl rfl rfl rfl rfl rfl ⟨rfl, rfl, rfl, rfl, rfl⟩ rfl rfl rfl rfl rfl (by kernel_rfl) Try.func7 (by kernel_rfl)
    (of_decide_eq_true (by kernel_rfl)) (by unfold Func.isWrapper; first | (rw [if_pos (by decide +kernel)]; kernel_rfl) | (rw [if_neg (by decide +kernel)]; exact ⟨rfl, rfl⟩))
    (fun os started H enc _ F => by rw [OpenClaim.pre_eq_preRow]; exact lifted os started H enc F)
end Go.Proofs.Ytfmghbmbahembaa.messageCounts
