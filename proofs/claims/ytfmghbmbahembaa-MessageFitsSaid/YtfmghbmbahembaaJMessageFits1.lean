/- MessageFits of package freshetlaw4 (what fits is told whole; else what is least needed goes first and the message says that it is cut; what is told is never longer than it may be) returns true at every four ints.
   Conditions: those of the row, none beside. -/
import Derived.Test.YtfmghbmbahembaaJB38
import Derived.Test.YtfmghbmbahembaaJB39
import Derived.Test.YtfmghbmbahembaaJB22
import Derived.Test.YtfmghbmbahembaaJB9
import Derived.Test.YtfmghbmbahembaaJB40
/- append of a string, and slices of bytes that are read: for the laws of messages. -/
namespace Go.Proofs.Ytfmghbmbahembaa
open Go.RowKit Go.Shelf Go.Maps
attribute [local go_sem] Oper.semAt_some

theorem run_apdStr (w : World) (base : Nat) (ty : TypeId) (v : Value) (l : List UInt8) (hown : OwnE encB 5 base v l w) (news : List UInt8) (b1 : l.length + news.length ≤ 1000000) (hb : base ≤ w.heap.size) :
    ∃ v' w', (Builtin.append_ #[22, 9] ty #[v, .string ⟨news.toArray⟩]).run Try.prog w = .ok v' w' ∧ OwnE encB 5 base v' (l ++ news) w' ∧ w.grownBy w' v.ownBlock := by
  obtain ⟨i, hi, hz0, hz1, hz2⟩ := info_parts infoByte
  have hsz : (⟨news.toArray⟩ : ByteArray).size = news.length := by show news.toArray.size = _; simp
  obtain ⟨v', w', hrun, r1, r2, r3⟩ := Lib.run_append_own_string (P := Try.prog) w base 22 9 ty 5 i Try.underlying22 Try.underlying9 hi hz0 hz1 hz2 v l.length (l.map encB) hown ⟨news.toArray⟩ (by rw [hsz]; exact Nat.le_trans b1 (by unfold maxLen; decide)) (by rw [hsz]; omega) hb
  rw [hsz, strCells_enc] at r1
  exact ⟨v', w', hrun, by unfold OwnE; rw [List.map_append, List.length_append]; exact r1, r2⟩
theorem wpList_apdStr (w : World) {ops : Array Oper} {rest : List Oper} {o : Oper} {a : Act} {Q : Exit → Act → World → Prop} (hg : o.guard = none) (s x : Operand)
    (hop : o.op = Op.call { callee := Callee.builtin Builtin.append, args := #[s, x], argTypes := #[22, 9] })
    (base : Nat) (v : Value) (l : List UInt8) (hs : a.eval s = v) (hown : OwnE encB 5 base v l w) (news : List UInt8) (hx : a.eval x = .string ⟨news.toArray⟩)
    (b1 : l.length + news.length ≤ 1000000) (hb : base ≤ w.heap.size)
    (hK : ∀ v' w', OwnE encB 5 base v' (l ++ news) w' → Below base w w' → wpList Try.prog ops Q rest (a.put o.dst v') w') :
    wpList Try.prog ops Q (o :: rest) a w := by
  refine wpList_plain hg fun K hK' => ?_
  obtain ⟨v', w', hrun, r1, r2⟩ := run_apdStr w base o.type v l hown news b1 hb
  unfold Oper.wp
  simp [execOp, hop, resolve, invoke, builtin, hs, hx, hrun, Result.andThen]
  exact hK' _ _ (hK v' w' r1 ((Below.refl base w).grown r2 hb (fun k e => (World.ownsRow.lt hown k e).1)))
theorem step_apdStr {ops : Array Oper} {o : Oper} {a : Act} {w : World} {K : Act → World → Prop} {Q : Exit → Act → World → Prop} {E : Prop}
    (hg : o.guard = none) (s x : Operand) (hop : o.op = Op.call { callee := Callee.builtin Builtin.append, args := #[s, x], argTypes := #[22, 9] })
    (base : Nat) (v : Value) (l : List UInt8) (hs : a.eval s = v) (hown : OwnE encB 5 base v l w) (news : List UInt8) (hx : a.eval x = .string ⟨news.toArray⟩)
    (b1 : l.length + news.length ≤ 1000000) (hb : base ≤ w.heap.size)
    (hK : ∀ v' w', OwnE encB 5 base v' (l ++ news) w' → Below base w w' → K (a.put o.dst v') w') :
    if Region.wanted o (yielded ops a.tmps) = true then Oper.wp Try.prog o a w K Q else E := by
  have hw : Region.wanted o (yielded ops a.tmps) = true := by simp [Region.wanted, hg]
  rw [if_pos hw]
  obtain ⟨v', w', hrun, r1, r2⟩ := run_apdStr w base o.type v l hown news b1 hb
  unfold Oper.wp
  simp [execOp, hop, resolve, invoke, builtin, hs, hx, hrun, Result.andThen]
  exact hK v' w' r1 ((Below.refl base w).grown r2 hb (fun k e => (World.ownsRow.lt hown k e).1))
theorem step_apdB {ops : Array Oper} {o : Oper} {a : Act} {w : World} {K : Act → World → Prop} {Q : Exit → Act → World → Prop} {E : Prop}
    (hg : o.guard = none) (s x : Operand) (hop : o.op = Op.call { callee := Callee.builtin Builtin.append, args := #[s, x], argTypes := #[22, 22] })
    (base : Nat) (v : Value) (l : List UInt8) (hs : a.eval s = v) (hown : OwnE encB 5 base v l w) (xv : Value) (news : List UInt8) (hx : a.eval x = xv) (hr : ReadB xv news w)
    (b1 : l.length + news.length ≤ 1000000) (hb : base ≤ w.heap.size)
    (hK : ∀ v' w', OwnE encB 5 base v' (l ++ news) w' → Below base w w' → K (a.put o.dst v') w') :
    if Region.wanted o (yielded ops a.tmps) = true then Oper.wp Try.prog o a w K Q else E := by
  have hw : Region.wanted o (yielded ops a.tmps) = true := by simp [Region.wanted, hg]
  rw [if_pos hw]
  obtain ⟨v', w', hrun, r1, r2, _⟩ := run_apdB (P := Try.prog) w base 22 o.type 5 Try.underlying22 infoByte v l hown xv news hr b1 hb
  unfold Oper.wp
  simp [execOp, hop, resolve, invoke, builtin, hs, hx, hrun, Result.andThen]
  exact hK v' w' r1 r2.below

theorem readB_drop {g off n cap k : Nat} {l : List UInt8} {W : World} (h : ReadB (.slice (some ⟨g, off, none⟩) n cap) l W) (hk : k ≤ l.length) (c' : Nat) : ReadB (.slice (some ⟨g, off + k, none⟩) (n - k) c') (l.drop k) W := by
  obtain ⟨ao, c, e, hc⟩ := h.form
  cases e
  refine ⟨_, c', by rw [List.length_drop], fun j hj => ⟨g, off + k, rfl, ?_⟩⟩
  rw [List.length_drop] at hj
  obtain ⟨b, o, e, h1⟩ := hc (k + j) (by omega)
  cases e
  rw [List.getElem_drop, Nat.add_assoc]
  exact h1
theorem readB_take {g off n cap k : Nat} {l : List UInt8} {W : World} (h : ReadB (.slice (some ⟨g, off, none⟩) n cap) l W) (hk : k ≤ l.length) (c' : Nat) : ReadB (.slice (some ⟨g, off, none⟩) k c') (l.take k) W := by
  obtain ⟨ao, c, e, hc⟩ := h.form
  cases e
  refine ⟨_, c', by rw [List.length_take, Nat.min_eq_left hk], fun j hj => ⟨g, off, rfl, ?_⟩⟩
  rw [List.length_take] at hj
  obtain ⟨b, o, e, h1⟩ := hc j (by omega)
  cases e
  rw [List.getElem_take]
  exact h1
theorem ownE_new0 (W : World) (base : Nat) (hb : base ≤ W.heap.size) : OwnE encB 5 base (.slice (some ⟨W.heap.size, 0, none⟩) 0 0) [] (W.alloc (.cells #[] 5)) :=
  ⟨rfl, .inr ⟨W.heap.size, 0, #[], rfl, hb, World.alloc_heap_new W _, Nat.le_refl _, by decide, rfl, rfl⟩⟩
end Go.Proofs.Ytfmghbmbahembaa

/- MessageCounts, MessageNames: the mathematics. -/
namespace Go.Proofs.Ytfmghbmbahembaa.Ms
open Go.Proofs.Ytfmghbmbahembaa

theorem head_pre {m : M} (hc : check m = true) (hs : (wAll m).size ≤ 4096) : Pre (head m) (wAll m).out := by
  obtain ⟨_, _, _, _, hqs, han, hns, had⟩ := check_split hc
  unfold wAll at hs ⊢
  obtain ⟨k0, k1, k2⟩ := okw_head m
  obtain ⟨S0, e0⟩ : ∃ S0, (WS.new 4096).put (head m) = S0 := ⟨_, rfl⟩
  rw [e0] at k0 k1 k2 hs ⊢
  have m1 := wQs_mono m.qs S0
  have m2 := wRs_mono m.an (m.qs.foldl wQ S0)
  have m3 := wRs_mono m.ns (m.an.foldl wR (m.qs.foldl wQ S0))
  have m4 := wRs_mono m.ad (m.ns.foldl wR (m.an.foldl wR (m.qs.foldl wQ S0)))
  have m5 := wE_mono (m.ad.foldl wR (m.ns.foldl wR (m.an.foldl wR (m.qs.foldl wQ S0)))) m
  obtain ⟨a1, a2, _⟩ := wQs_read m.qs k0 hqs (by omega)
  obtain ⟨b1, b2, _⟩ := wRs_read 0 m.an a1 han.2 (by omega)
  obtain ⟨c1, c2, _⟩ := wRs_read 1 m.ns b1 hns.2 (by omega)
  obtain ⟨d1, d2, _⟩ := wRs_read 2 m.ad c1 had.2 (by omega)
  rw [← k2]
  refine ((a2.trans b2).trans (c2.trans d2)).trans ?_
  unfold wE at hs ⊢
  cases he : m.edns with
  | false => exact Pre.refl _
  | true =>
    rw [he] at hs
    obtain ⟨p1, p2, p3⟩ := okw_put d1 (x := opt m.size) (by rw [opt_len]; exact hs)
    show Pre _ (WS.put _ _).out
    rw [p3]
    exact pre_app _ _
theorem cnt_bytes {a b c : Nat} {e : Bool} (ha : a ≤ 64) (hb : b ≤ 64) (hc : c ≤ 64) {l : List UInt8} (hl : l = (wAll (oneOf a b c e 0 false)).out) (hck : check (oneOf a b c e 0 false) = true) (hs : (wAll (oneOf a b c e 0 false)).size ≤ 4096) :
    (l.getD 7 0).toNat = a ∧ (l.getD 9 0).toNat = b ∧ (l.getD 11 0).toNat = c + (if e then 1 else 0) := by
  have hp := head_pre hck hs
  rw [← hl] at hp
  have e0 : head (oneOf a b c e 0 false) = two 5 ++ two (flags (oneOf a b c e 0 false)) ++ two 1 ++ two ((a : Nat) : Int) ++ two ((b : Nat) : Int) ++ two ((c : Int) + bit e 1) := by
    unfold head oneOf
    simp only [List.length_replicate, List.length_cons, List.length_nil]
    rfl
  rw [e0] at hp
  have p3 := hp
  have p2 := (pre_app _ _).trans p3
  have p1 := (pre_app _ _).trans p2
  have t1 := two_bytes p1 (by omega) (by omega)
  have t2 := two_bytes p2 (by omega) (by omega)
  have hbit : bit e 1 = if e then 1 else 0 := by cases e <;> rfl
  have t3 := two_bytes p3 (by cases e <;> simp [hbit] <;> omega) (by cases e <;> simp [hbit] <;> omega)
  have l1 : (two 5 ++ two (flags (oneOf a b c e 0 false)) ++ two 1).length = 6 := rfl
  have l2 : (two 5 ++ two (flags (oneOf a b c e 0 false)) ++ two 1 ++ two ((a : Nat) : Int)).length = 8 := rfl
  have l3 : (two 5 ++ two (flags (oneOf a b c e 0 false)) ++ two 1 ++ two ((a : Nat) : Int) ++ two ((b : Nat) : Int)).length = 10 := rfl
  rw [l1, show (6 : Nat) + 1 = 7 from rfl] at t1
  rw [l2, show (8 : Nat) + 1 = 9 from rfl] at t2
  rw [l3, hbit, show (10 : Nat) + 1 = 11 from rfl] at t3
  have u1 := (l.getD 7 0).toNat_lt
  have u2 := (l.getD 9 0).toNat_lt
  have u3 := (l.getD 11 0).toNat_lt
  refine ⟨by omega, by omega, ?_⟩
  cases e
  · simp only [Bool.false_eq_true, if_false] at t3 ⊢; omega
  · simp only [if_true] at t3 ⊢; omega
theorem oneOf_all {a b c : Nat} (ha : a ≤ 64) (hb : b ≤ 64) (hc : c ≤ 64) (e : Bool) : check (oneOf a b c e 0 false) = true ∧ (wAll (oneOf a b c e 0 false)).size = 19 + 15 * (a + b + c) + (if e then 11 else 0) ∧ enc (oneOf a b c e 0 false) = ((wAll (oneOf a b c e 0 false)).out, 0) ∧ (wAll (oneOf a b c e 0 false)).out.length = 19 + 15 * (a + b + c) + (if e then 11 else 0) ∧ dec (wAll (oneOf a b c e 0 false)).out = (oneOf a b c e 0 false, true, true) := by
  have hck : check (oneOf a b c e 0 false) = true := by
    rw [oneOf_check a b c ⟨by omega, by omega⟩ (.inl rfl) false, decide_eq_true_eq]; exact ⟨ha, hb, hc⟩
  have hz := oneOf_size a b c e 0 false
  have hs : (wAll (oneOf a b c e 0 false)).size ≤ 4096 := by rw [hz]; split <;> omega
  obtain ⟨_, h2, h3, h4, h5⟩ := back hck hs
  refine ⟨hck, hz, (enc_yes hck hs).1, by rw [h2, hz], ?_⟩
  unfold dec
  rw [if_neg (by omega), h4]
end Go.Proofs.Ytfmghbmbahembaa.Ms

/- A message that is filled by appends to its lists: for the laws of messages. -/
namespace Go.Proofs.Ytfmghbmbahembaa
open Go.RowKit Go.Shelf Go.Maps
attribute [local go_sem] Oper.semAt_some

/-- A message's box B (what lies below it is as it was in W0) and a record's box R; what lies below hi is as it was in Wi, but for B. -/
structure Cn (W0 : World) (B R : Nat) (Wi : World) (hi : Nat) (cs rs : List Value) (W : World) : Prop where
  blk : Block W B cs.toArray 27
  rcd : Block W R rs.toArray 45
  was : B = W0.heap.size
  bR : B < R
  lt : R < hi
  his : hi ≤ W.heap.size
  bel : Below B W0 W
  chg : ∀ k, k < hi → k ≠ B → W.heap[k]? = Wi.heap[k]?
section
variable {W0 : World} {B R : Nat} {Wi : World} {hi : Nat} {cs rs : List Value} {W W' : World}
theorem Cn.below (h : Cn W0 B R Wi hi cs rs W) (hb : Below W.heap.size W W') : Cn W0 B R Wi hi cs rs W' :=
  ⟨h.blk.below hb, h.rcd.below hb, h.was, h.bR, h.lt, Nat.le_trans h.his hb.size, h.bel.trans (hb.mono (by have := h.his; have := h.lt; have := h.bR; omega)), fun k hk hB => (hb.block k (Nat.lt_of_lt_of_le hk h.his)).trans (h.chg k hk hB)⟩
theorem Cn.alloc (h : Cn W0 B R Wi hi cs rs W) (o : Obj) : Cn W0 B R Wi hi cs rs (W.alloc o) := h.below ((Below.refl _ W).alloc (Nat.le_refl _) o)
theorem Cn.set (h : Cn W0 B R Wi hi cs rs W) (i : Nat) (v : Value) : Cn W0 B R Wi hi (cs.set i v) rs (W.setCell ⟨B, i, none⟩ v) := by
  have hs : (W.setCell ⟨B, i, none⟩ v).heap.size = W.heap.size := by simp [World.setCell]
  refine ⟨?_, h.rcd.other (by have := h.bR; omega) i v, h.was, h.bR, h.lt, by have := h.his; omega, h.bel.setCell (p := ⟨B, i, none⟩) (Nat.le_refl _) v, fun k hk hB => (Below.heap_setCell W ⟨B, i, none⟩ v k hB).trans (h.chg k hk hB)⟩
  have := h.blk.set i v
  rwa [show cs.toArray.setIfInBounds i v = (cs.set i v).toArray by simp] at this
theorem Cn.apd {α : Type} {enc : α → List Value} {k : Nat} {e : TypeId} {v : Value} {l : List α} (h : Cn W0 B R Wi hi cs rs W) (ho : OwnK enc k e hi v l W) (hg : W.grownBy W' v.ownBlock) : Cn W0 B R Wi hi cs rs W' := by
  have hbl := below_ownK ho hg h.his
  have h1 := h.lt
  have h2 := h.bR
  exact ⟨(hbl.block B (by omega)).trans h.blk, (hbl.block R (by omega)).trans h.rcd, h.was, h.bR, h.lt, Nat.le_trans h.his hg.size, h.bel.trans (hbl.mono (by omega)), fun j hj hB => (hbl.block j hj).trans (h.chg j hj hB)⟩
/-- A new beginning: all that lies there now counts as what was. -/
theorem Cn.again (h : Cn W0 B R Wi hi cs rs W) : Cn W0 B R W W.heap.size cs rs W := ⟨h.blk, h.rcd, h.was, h.bR, Nat.lt_of_lt_of_le h.lt h.his, Nat.le_refl _, h.bel, fun _ _ _ => rfl⟩
theorem Cn.own {α : Type} {enc : α → List Value} {k : Nat} {e : TypeId} {base : Nat} {v : Value} {l : List α} (h : Cn W0 B R Wi hi cs rs W) (hh : Wi.heap.size = hi) (ho : OwnK enc k e base v l Wi) (hB : B < base) : OwnK enc k e base v l W :=
  ownK_of_block ho fun g hg hlt => h.chg g (by omega) (by have := ownK_base ho hg; omega)
theorem Cn.b_lt (h : Cn W0 B R Wi hi cs rs W) : B < hi := Nat.lt_trans h.bR h.lt
end
theorem readR_blk1 {W : World} {g : Nat} {r : Rd.RR} (h : Block W g (encRR r).toArray 45) : ReadR (.slice (some ⟨g, 0, none⟩) 1 1) [r] W :=
  ⟨_, _, rfl, fun j hj => by
    have hj0 : j = 0 := by simp at hj; exact hj
    subst hj0
    exact ⟨g, 0, rfl, h.cell (i := 0) rfl, h.cell (i := 1) rfl, h.cell (i := 2) rfl, h.cell (i := 3) rfl, h.cell (i := 4) rfl⟩⟩
theorem few_rep {n top : Nat} (h : n ≤ top) (ht : 4 ≤ top) : FewR (List.replicate n Ms.rootR) top :=
  ⟨by rw [List.length_replicate]; exact h, fun r hr => by
    rw [List.eq_of_mem_replicate hr]
    exact ⟨by show 1 ≤ top; omega, by show 4 ≤ top; omega⟩⟩
theorem slim_oneOf {a b c : Nat} (ha : a ≤ 3000) (hb : b ≤ 3000) (hc : c ≤ 3000) (e : Bool) (z : Int) (cut : Bool) : Slim (Ms.oneOf a b c e z cut) :=
  ⟨slim_one.1, slim_one.2, (few_rep ha (by omega)).mono (by omega), (few_rep hb (by omega)).mono (by omega), (few_rep hc (by omega)).mono (by omega)⟩
theorem short_oneOf {a b c : Nat} (ha : a ≤ 3000) (hb : b ≤ 3000) (hc : c ≤ 3000) (e : Bool) (z : Int) (cut : Bool) : Short (Ms.oneOf a b c e z cut) :=
  ⟨short_one.1, by show (List.replicate a _).length ≤ _; rw [List.length_replicate]; omega, by show (List.replicate b _).length ≤ _; rw [List.length_replicate]; omega, by show (List.replicate c _).length ≤ _; rw [List.length_replicate]; omega⟩
theorem root_made : Rd.makeA [0] 5 7 = Ms.rootR := by decide
end Go.Proofs.Ytfmghbmbahembaa

/- message.Fit is the mathematics' fit, of a message of few and short records. -/
namespace Go.Proofs.Ytfmghbmbahembaa
open Go.RowKit Go.Shelf Go.Maps
attribute [local go_sem] Oper.semAt_some

theorem own_len {v : Value} {l : List UInt8} {base : Nat} {W : World} (h : OwnE encB 5 base v l W) : ∃ ao cp, v = .slice ao l.length cp := by
  rcases ownE_form h with ⟨rfl, rfl⟩ | ⟨g, cap, rfl⟩
  · exact ⟨none, 0, rfl⟩
  · exact ⟨_, _, rfl⟩
theorem slim_drops {m : Ms.M} (h : Slim m) (k : Nat) : Slim (Ms.drops m k) := by
  unfold Ms.drops
  split
  · exact ⟨h.qs, h.names, h.an, h.ns, few_nil _⟩
  · exact ⟨h.qs, h.names, h.an, few_nil _, few_nil _⟩
  · exact ⟨h.qs, h.names, few_nil _, few_nil _, few_nil _⟩
theorem few_drops {m : Ms.M} (h : FewR m.an 3000 ∧ FewR m.ns 3000 ∧ FewR m.ad 3000) (k : Nat) : FewR (Ms.drops m k).an 3000 ∧ FewR (Ms.drops m k).ns 3000 ∧ FewR (Ms.drops m k).ad 3000 := by
  unfold Ms.drops
  split
  · exact ⟨h.1, h.2.1, few_nil _⟩
  · exact ⟨h.1, few_nil _, few_nil _⟩
  · exact ⟨few_nil _, few_nil _, few_nil _⟩
def fitRest : Nat → List Nat
  | 0 => [0, 1, 2]
  | 1 => [1, 2]
  | 2 => [2]
  | _ => []
def FitRet (m : Ms.M) (most : Int) (w : World) (e : Ending) (w' : World) : Prop := ∃ v, e = .returned (.tuple #[v, .int .i64 (Ms.fit m most).2]) ∧ OwnE encB 5 w.heap.size v (Ms.fit m most).1 w' ∧ Below w.heap.size w w'
def fitCells (m : Ms.M) (vq va vn vd : Value) (k : Nat) : Array Value := match k with
  | 0 => #[.int .i64 m.id, .bool m.resp, .int .i64 m.opc, .bool m.auth, .bool true, .bool m.des, .bool m.avl, .int .i64 m.code, vq, va, vn, vd, .bool m.edns, .int .i64 m.size]
  | 1 => #[.int .i64 m.id, .bool m.resp, .int .i64 m.opc, .bool m.auth, .bool true, .bool m.des, .bool m.avl, .int .i64 m.code, vq, va, vn, (.slice none 0 0), .bool m.edns, .int .i64 m.size]
  | 2 => #[.int .i64 m.id, .bool m.resp, .int .i64 m.opc, .bool m.auth, .bool true, .bool m.des, .bool m.avl, .int .i64 m.code, vq, va, (.slice none 0 0), (.slice none 0 0), .bool m.edns, .int .i64 m.size]
  | _ => #[.int .i64 m.id, .bool m.resp, .int .i64 m.opc, .bool m.auth, .bool true, .bool m.des, .bool m.avl, .int .i64 m.code, vq, (.slice none 0 0), (.slice none 0 0), (.slice none 0 0), .bool m.edns, .int .i64 m.size]

set_option maxRecDepth 100000 in
set_option maxHeartbeats 8000000 in
theorem fit_any (m : Ms.M) (vq va vn vd : Value) (most : Int) (w : World) (hL : Lists m vq va vn vd w) (hs : Slim m) (h3 : FewR m.an 3000 ∧ FewR m.ns 3000 ∧ FewR m.ad 3000) :
    Calls Try.prog 24 #[msgV m vq va vn vd, .int .i64 most] w (FitRet m most w) := by
  have HL := Lib.hid hL
  have HS := Lib.hid hs
  have H3 := Lib.hid h3
  obtain ⟨aq, cq, rfl, _⟩ := hL.qs.form
  obtain ⟨aa, ca, rfl, _⟩ := hL.an.form
  obtain ⟨an, cn, rfl, _⟩ := hL.ns.form
  obtain ⟨ad, cd, rfl, _⟩ := hL.ad.form
  clear hL hs h3
  obtain ⟨w0, hw0⟩ : ∃ w0, w.alloc (.cells #[.int .i64 m.id, .bool m.resp, .int .i64 m.opc, .bool m.auth, .bool m.cut, .bool m.des, .bool m.avl, .int .i64 m.code, (.slice aq m.qs.length cq), (.slice aa m.an.length ca), (.slice an m.ns.length cn), (.slice ad m.ad.length cd), .bool m.edns, .int .i64 m.size] 27) = w0 := ⟨_, rfl⟩
  have hb0 : Below w.heap.size w w0 := by rw [← hw0]; exact (Below.refl _ _).alloc (Nat.le_refl _) _
  have hsz0 : w0.heap.size = w.heap.size + 1 := by rw [← hw0]; simp
  have K0 : Hid (Block w0 w.heap.size #[.int .i64 m.id, .bool m.resp, .int .i64 m.opc, .bool m.auth, .bool m.cut, .bool m.des, .bool m.avl, .int .i64 m.code, (.slice aq m.qs.length cq), (.slice aa m.an.length ca), (.slice an m.ns.length cn), (.slice ad m.ad.length cd), .bool m.edns, .int .i64 m.size] 27) := Lib.hid (by rw [← hw0]; exact Block.new _ _ _)
  have EM := Lib.hid (enc_any m _ _ _ _ w0 (HL.out.below hb0) HS.out H3.out.1 H3.out.2.1 H3.out.2.2)
  have HW0 := Lib.hid hw0
  unfold EncRet at EM
  unfold msgV at EM ⊢
  obtain ⟨l, c, hlc⟩ : ∃ l c, Ms.enc m = (l, c) := ⟨_, _, rfl⟩
  have HFT : Hid (Ms.fit m most = if c = 1 then ([], 1) else if c = 0 ∧ (l.length : Int) ≤ most then (l, 0) else Ms.fitF m most [0, 1, 2]) := Lib.hid (by unfold Ms.fit; rw [hlc])
  rw [hlc] at EM
  simp only at EM
  clear hw0 hlc
  go_enter Try.func24, Try.ntmps24
  go_wp2_with fail
  rw [HW0.out]
  refine EM.out.mono ?_
  rintro e w2 ⟨v, rfl, ho, b2⟩
  obtain ⟨av, cv, rfl⟩ := own_len ho
  have K2 := Lib.hid (K0.out.below b2)
  have B2 := Lib.hid (hb0.trans (b2.mono hb0.size))
  have HO := Lib.hid (show OwnE encB 5 w.heap.size _ l w2 from ownE_lower ho (by omega))
  clear ho b2 hb0 hsz0 EM K0 HW0
  by_cases hc1 : c = 1
  · subst hc1
    have HF3 : Hid (Ms.fit m most = ([], 1)) := Lib.hid (by rw [HFT.out, if_pos rfl])
    go_wp2_with fail
    refine bodyPost_ret (results_tmp2 rfl _ _ _) rfl ?_
    refine ⟨.slice none 0 0, ?_, ?_, B2.out⟩
    · rw [HF3.out]; rfl
    · rw [HF3.out]; exact ownE_nil _ _ _ _
  have hb1 : (c == 1) = false := by rw [beq_eq_false_iff_ne]; exact hc1
  have hcs : (c = 0 ∧ (l.length : Int) ≤ most) ∨ (c = 0 ∧ most < (l.length : Int)) ∨ (c ≠ 0) := by omega
  rcases hcs with ⟨rfl, hle⟩ | ⟨rfl, hle⟩ | hc
  · have HF3 : Hid (Ms.fit m most = (l, 0)) := Lib.hid (by rw [HFT.out, if_neg (by decide), if_pos ⟨rfl, hle⟩])
    go_wp2_with fail
    refine bodyPost_ret (results_tmp2 rfl _ _ _) rfl ?_
    refine ⟨.slice av l.length cv, ?_, ?_, B2.out⟩
    · rw [HF3.out]; rfl
    · rw [HF3.out]; exact HO.out
  · have HF0 : Hid (Ms.fit m most = Ms.fitF m most (fitRest 0)) := Lib.hid (by rw [HFT.out, if_neg (by decide), if_neg (fun h => by omega)]; rfl)
    have c0 := K2.out.cell (i := 0) (v := .int .i64 m.id) rfl
    have c1 := K2.out.cell (i := 1) (v := .bool m.resp) rfl
    have c2 := K2.out.cell (i := 2) (v := .int .i64 m.opc) rfl
    have c3 := K2.out.cell (i := 3) (v := .bool m.auth) rfl
    have c4 := K2.out.cell (i := 4) (v := .bool m.cut) rfl
    have c5 := K2.out.cell (i := 5) (v := .bool m.des) rfl
    have c6 := K2.out.cell (i := 6) (v := .bool m.avl) rfl
    have c7 := K2.out.cell (i := 7) (v := .int .i64 m.code) rfl
    have c8 := K2.out.cell (i := 8) (v := (.slice aq m.qs.length cq)) rfl
    have c9 := K2.out.cell (i := 9) (v := (.slice aa m.an.length ca)) rfl
    have c10 := K2.out.cell (i := 10) (v := (.slice an m.ns.length cn)) rfl
    have c11 := K2.out.cell (i := 11) (v := (.slice ad m.ad.length cd)) rfl
    have c12 := K2.out.cell (i := 12) (v := .bool m.edns) rfl
    have c13 := K2.out.cell (i := 13) (v := .int .i64 m.size) rfl
    have f4 := K2.out.frozen 4
    go_wp2_with fail
    have KS : Hid (Block (w2.setCell ⟨w.heap.size, 4, none⟩ (.bool true)) w.heap.size (fitCells m (.slice aq m.qs.length cq) (.slice aa m.an.length ca) (.slice an m.ns.length cn) (.slice ad m.ad.length cd) 0) 27) := Lib.hid (K2.out.set 4 (.bool true))
    have BS := Lib.hid (B2.out.setCell (p := ⟨w.heap.size, 4, none⟩) (Nat.le_refl _) (.bool true))
    clear K2 B2 HO HFT c0 c1 c2 c3 c4 c5 c6 c7 c8 c9 c10 c11 c12 c13 f4
    go_loopw [35] (fun i wx => ∃ k : Nat, i = .int .i64 (k : Int) ∧ k ≤ 3 ∧ Hid (Block wx w.heap.size (fitCells m (.slice aq m.qs.length cq) (.slice aa m.an.length ca) (.slice an m.ns.length cn) (.slice ad m.ad.length cd) k) 27) ∧ Hid (Below w.heap.size w wx) ∧ Hid (Ms.fit m most = Ms.fitF m most (fitRest k))) (fun i _ => 4 - (intOf i).toNat)
    case atStart => exact ⟨0, rfl, by omega, KS, BS, HF0⟩
    case round =>
      clear KS BS HF0
      obtain ⟨k, rfl, hk, hb, BR, hf⟩ := hrel
      have hkk : k = 0 ∨ k = 1 ∨ k = 2 ∨ k = 3 := by omega
      clear hk
      rcases hkk with rfl | rfl | rfl | rfl
      · have KB : Block wr w.heap.size #[.int .i64 m.id, .bool m.resp, .int .i64 m.opc, .bool m.auth, .bool true, .bool m.des, .bool m.avl, .int .i64 m.code, (.slice aq m.qs.length cq), (.slice aa m.an.length ca), (.slice an m.ns.length cn), (.slice ad m.ad.length cd), .bool m.edns, .int .i64 m.size] 27 := hb.out
        have c0 := KB.cell (i := 0) (v := .int .i64 m.id) rfl
        have c1 := KB.cell (i := 1) (v := .bool m.resp) rfl
        have c2 := KB.cell (i := 2) (v := .int .i64 m.opc) rfl
        have c3 := KB.cell (i := 3) (v := .bool m.auth) rfl
        have c4 := KB.cell (i := 4) (v := .bool true) rfl
        have c5 := KB.cell (i := 5) (v := .bool m.des) rfl
        have c6 := KB.cell (i := 6) (v := .bool m.avl) rfl
        have c7 := KB.cell (i := 7) (v := .int .i64 m.code) rfl
        have c8 := KB.cell (i := 8) (v := (.slice aq m.qs.length cq)) rfl
        have c9 := KB.cell (i := 9) (v := (.slice aa m.an.length ca)) rfl
        have c10 := KB.cell (i := 10) (v := (.slice an m.ns.length cn)) rfl
        have c11 := KB.cell (i := 11) (v := (.slice ad m.ad.length cd)) rfl
        have c12 := KB.cell (i := 12) (v := .bool m.edns) rfl
        have c13 := KB.cell (i := 13) (v := .int .i64 m.size) rfl
        have f0 := KB.frozen 11
        have ix := fun W => idx_p0 W (.pointer (some ⟨w.heap.size, 11, none⟩)) (.pointer (some ⟨w.heap.size, 10, none⟩)) (.pointer (some ⟨w.heap.size, 9, none⟩))
        have BX := Lib.hid (BR.out.setCell (p := ⟨w.heap.size, 11, none⟩) (Nat.le_refl _) (.slice none 0 0))
        have KX : Block (wr.setCell ⟨w.heap.size, 11, none⟩ (.slice none 0 0)) w.heap.size #[.int .i64 m.id, .bool m.resp, .int .i64 m.opc, .bool m.auth, .bool true, .bool m.des, .bool m.avl, .int .i64 m.code, (.slice aq m.qs.length cq), (.slice aa m.an.length ca), (.slice an m.ns.length cn), (.slice none 0 0), .bool m.edns, .int .i64 m.size] 27 := KB.set 11 (.slice none 0 0)
        have EK := Lib.hid (enc_any (Ms.drops m 0) (.slice aq m.qs.length cq) (.slice aa m.an.length ca) (.slice an m.ns.length cn) (.slice none 0 0) (wr.setCell ⟨w.heap.size, 11, none⟩ (.slice none 0 0)) ⟨(HL.out.below BX.out).qs, (HL.out.below BX.out).an, (HL.out.below BX.out).ns, readR_nil _⟩ (slim_drops HS.out 0) (few_drops H3.out 0).1 (few_drops H3.out 0).2.1 (few_drops H3.out 0).2.2)
        unfold EncRet at EK
        have HF2 : Hid (Ms.fit m most = if (Ms.enc (Ms.drops m 0)).2 = 0 ∧ ((Ms.enc (Ms.drops m 0)).1.length : Int) ≤ most then ((Ms.enc (Ms.drops m 0)).1, 0) else Ms.fitF m most [1, 2]) := Lib.hid hf.out
        obtain ⟨l, c, hlc⟩ : ∃ l c, Ms.enc (Ms.drops m 0) = (l, c) := ⟨_, _, rfl⟩
        rw [hlc] at EK HF2
        simp only at EK HF2
        have KX' := Lib.hid KX
        clear hlc KX KB hf hb
        by_cases hc : c = 0
        · subst hc
          by_cases hle : (l.length : Int) ≤ most
          · have HF3 : Hid (Ms.fit m most = (l, 0)) := Lib.hid (by rw [HF2.out, if_pos ⟨rfl, hle⟩])
            go_wp2_with fail
            refine EK.out.mono ?_
            rintro e w3 ⟨v, rfl, ho, b3⟩
            obtain ⟨av, cv, rfl⟩ := own_len ho
            have HO := Lib.hid (show OwnE encB 5 w.heap.size _ l w3 from ownE_lower ho (by have := BX.out.size; omega))
            have B3 := Lib.hid (BX.out.trans (b3.mono BX.out.size))
            clear ho b3
            go_wp2_with fail
            refine bodyPost_ret (results_tmp2 rfl _ _ _) rfl ?_
            refine ⟨.slice av l.length cv, ?_, ?_, B3.out⟩
            · rw [HF3.out]; rfl
            · rw [HF3.out]; exact HO.out
          · have hle' : most < (l.length : Int) := by omega
            have HF3 : Hid (Ms.fit m most = Ms.fitF m most [1, 2]) := Lib.hid (by rw [HF2.out, if_neg (fun h => by omega)])
            go_wp2_with fail
            refine EK.out.mono ?_
            rintro e w3 ⟨v, rfl, ho, b3⟩
            obtain ⟨av, cv, rfl⟩ := own_len ho
            have B3 := Lib.hid (BX.out.trans (b3.mono BX.out.size))
            have K3 := Lib.hid (KX'.out.below b3)
            clear ho b3
            go_wp2_with fail
            go_roundw
            case rel => exact ⟨1, by go_num, by omega, K3, B3, HF3⟩
            case measure => simp [intOf]
        · have hcb : (c == 0) = false := by rw [beq_eq_false_iff_ne]; exact hc
          have HF3 : Hid (Ms.fit m most = Ms.fitF m most [1, 2]) := Lib.hid (by rw [HF2.out, if_neg (fun h => hc h.1)])
          go_wp2_with fail
          refine EK.out.mono ?_
          rintro e w3 ⟨v, rfl, ho, b3⟩
          obtain ⟨av, cv, rfl⟩ := own_len ho
          have B3 := Lib.hid (BX.out.trans (b3.mono BX.out.size))
          have K3 := Lib.hid (KX'.out.below b3)
          clear ho b3
          go_wp2_with fail
          go_roundw
          case rel => exact ⟨1, by go_num, by omega, K3, B3, HF3⟩
          case measure => simp [intOf]
      · have KB : Block wr w.heap.size #[.int .i64 m.id, .bool m.resp, .int .i64 m.opc, .bool m.auth, .bool true, .bool m.des, .bool m.avl, .int .i64 m.code, (.slice aq m.qs.length cq), (.slice aa m.an.length ca), (.slice an m.ns.length cn), (.slice none 0 0), .bool m.edns, .int .i64 m.size] 27 := hb.out
        have c0 := KB.cell (i := 0) (v := .int .i64 m.id) rfl
        have c1 := KB.cell (i := 1) (v := .bool m.resp) rfl
        have c2 := KB.cell (i := 2) (v := .int .i64 m.opc) rfl
        have c3 := KB.cell (i := 3) (v := .bool m.auth) rfl
        have c4 := KB.cell (i := 4) (v := .bool true) rfl
        have c5 := KB.cell (i := 5) (v := .bool m.des) rfl
        have c6 := KB.cell (i := 6) (v := .bool m.avl) rfl
        have c7 := KB.cell (i := 7) (v := .int .i64 m.code) rfl
        have c8 := KB.cell (i := 8) (v := (.slice aq m.qs.length cq)) rfl
        have c9 := KB.cell (i := 9) (v := (.slice aa m.an.length ca)) rfl
        have c10 := KB.cell (i := 10) (v := (.slice an m.ns.length cn)) rfl
        have c11 := KB.cell (i := 11) (v := (.slice none 0 0)) rfl
        have c12 := KB.cell (i := 12) (v := .bool m.edns) rfl
        have c13 := KB.cell (i := 13) (v := .int .i64 m.size) rfl
        have f0 := KB.frozen 10
        have ix := fun W => idx_p1 W (.pointer (some ⟨w.heap.size, 11, none⟩)) (.pointer (some ⟨w.heap.size, 10, none⟩)) (.pointer (some ⟨w.heap.size, 9, none⟩))
        have BX := Lib.hid (BR.out.setCell (p := ⟨w.heap.size, 10, none⟩) (Nat.le_refl _) (.slice none 0 0))
        have KX : Block (wr.setCell ⟨w.heap.size, 10, none⟩ (.slice none 0 0)) w.heap.size #[.int .i64 m.id, .bool m.resp, .int .i64 m.opc, .bool m.auth, .bool true, .bool m.des, .bool m.avl, .int .i64 m.code, (.slice aq m.qs.length cq), (.slice aa m.an.length ca), (.slice none 0 0), (.slice none 0 0), .bool m.edns, .int .i64 m.size] 27 := KB.set 10 (.slice none 0 0)
        have EK := Lib.hid (enc_any (Ms.drops m 1) (.slice aq m.qs.length cq) (.slice aa m.an.length ca) (.slice none 0 0) (.slice none 0 0) (wr.setCell ⟨w.heap.size, 10, none⟩ (.slice none 0 0)) ⟨(HL.out.below BX.out).qs, (HL.out.below BX.out).an, readR_nil _, readR_nil _⟩ (slim_drops HS.out 1) (few_drops H3.out 1).1 (few_drops H3.out 1).2.1 (few_drops H3.out 1).2.2)
        unfold EncRet at EK
        have HF2 : Hid (Ms.fit m most = if (Ms.enc (Ms.drops m 1)).2 = 0 ∧ ((Ms.enc (Ms.drops m 1)).1.length : Int) ≤ most then ((Ms.enc (Ms.drops m 1)).1, 0) else Ms.fitF m most [2]) := Lib.hid hf.out
        obtain ⟨l, c, hlc⟩ : ∃ l c, Ms.enc (Ms.drops m 1) = (l, c) := ⟨_, _, rfl⟩
        rw [hlc] at EK HF2
        simp only at EK HF2
        have KX' := Lib.hid KX
        clear hlc KX KB hf hb
        by_cases hc : c = 0
        · subst hc
          by_cases hle : (l.length : Int) ≤ most
          · have HF3 : Hid (Ms.fit m most = (l, 0)) := Lib.hid (by rw [HF2.out, if_pos ⟨rfl, hle⟩])
            go_wp2_with fail
            refine EK.out.mono ?_
            rintro e w3 ⟨v, rfl, ho, b3⟩
            obtain ⟨av, cv, rfl⟩ := own_len ho
            have HO := Lib.hid (show OwnE encB 5 w.heap.size _ l w3 from ownE_lower ho (by have := BX.out.size; omega))
            have B3 := Lib.hid (BX.out.trans (b3.mono BX.out.size))
            clear ho b3
            go_wp2_with fail
            refine bodyPost_ret (results_tmp2 rfl _ _ _) rfl ?_
            refine ⟨.slice av l.length cv, ?_, ?_, B3.out⟩
            · rw [HF3.out]; rfl
            · rw [HF3.out]; exact HO.out
          · have hle' : most < (l.length : Int) := by omega
            have HF3 : Hid (Ms.fit m most = Ms.fitF m most [2]) := Lib.hid (by rw [HF2.out, if_neg (fun h => by omega)])
            go_wp2_with fail
            refine EK.out.mono ?_
            rintro e w3 ⟨v, rfl, ho, b3⟩
            obtain ⟨av, cv, rfl⟩ := own_len ho
            have B3 := Lib.hid (BX.out.trans (b3.mono BX.out.size))
            have K3 := Lib.hid (KX'.out.below b3)
            clear ho b3
            go_wp2_with fail
            go_roundw
            case rel => exact ⟨2, by go_num, by omega, K3, B3, HF3⟩
            case measure => simp [intOf]
        · have hcb : (c == 0) = false := by rw [beq_eq_false_iff_ne]; exact hc
          have HF3 : Hid (Ms.fit m most = Ms.fitF m most [2]) := Lib.hid (by rw [HF2.out, if_neg (fun h => hc h.1)])
          go_wp2_with fail
          refine EK.out.mono ?_
          rintro e w3 ⟨v, rfl, ho, b3⟩
          obtain ⟨av, cv, rfl⟩ := own_len ho
          have B3 := Lib.hid (BX.out.trans (b3.mono BX.out.size))
          have K3 := Lib.hid (KX'.out.below b3)
          clear ho b3
          go_wp2_with fail
          go_roundw
          case rel => exact ⟨2, by go_num, by omega, K3, B3, HF3⟩
          case measure => simp [intOf]
      · have KB : Block wr w.heap.size #[.int .i64 m.id, .bool m.resp, .int .i64 m.opc, .bool m.auth, .bool true, .bool m.des, .bool m.avl, .int .i64 m.code, (.slice aq m.qs.length cq), (.slice aa m.an.length ca), (.slice none 0 0), (.slice none 0 0), .bool m.edns, .int .i64 m.size] 27 := hb.out
        have c0 := KB.cell (i := 0) (v := .int .i64 m.id) rfl
        have c1 := KB.cell (i := 1) (v := .bool m.resp) rfl
        have c2 := KB.cell (i := 2) (v := .int .i64 m.opc) rfl
        have c3 := KB.cell (i := 3) (v := .bool m.auth) rfl
        have c4 := KB.cell (i := 4) (v := .bool true) rfl
        have c5 := KB.cell (i := 5) (v := .bool m.des) rfl
        have c6 := KB.cell (i := 6) (v := .bool m.avl) rfl
        have c7 := KB.cell (i := 7) (v := .int .i64 m.code) rfl
        have c8 := KB.cell (i := 8) (v := (.slice aq m.qs.length cq)) rfl
        have c9 := KB.cell (i := 9) (v := (.slice aa m.an.length ca)) rfl
        have c10 := KB.cell (i := 10) (v := (.slice none 0 0)) rfl
        have c11 := KB.cell (i := 11) (v := (.slice none 0 0)) rfl
        have c12 := KB.cell (i := 12) (v := .bool m.edns) rfl
        have c13 := KB.cell (i := 13) (v := .int .i64 m.size) rfl
        have f0 := KB.frozen 9
        have ix := fun W => idx_p2 W (.pointer (some ⟨w.heap.size, 11, none⟩)) (.pointer (some ⟨w.heap.size, 10, none⟩)) (.pointer (some ⟨w.heap.size, 9, none⟩))
        have BX := Lib.hid (BR.out.setCell (p := ⟨w.heap.size, 9, none⟩) (Nat.le_refl _) (.slice none 0 0))
        have KX : Block (wr.setCell ⟨w.heap.size, 9, none⟩ (.slice none 0 0)) w.heap.size #[.int .i64 m.id, .bool m.resp, .int .i64 m.opc, .bool m.auth, .bool true, .bool m.des, .bool m.avl, .int .i64 m.code, (.slice aq m.qs.length cq), (.slice none 0 0), (.slice none 0 0), (.slice none 0 0), .bool m.edns, .int .i64 m.size] 27 := KB.set 9 (.slice none 0 0)
        have EK := Lib.hid (enc_any (Ms.drops m 2) (.slice aq m.qs.length cq) (.slice none 0 0) (.slice none 0 0) (.slice none 0 0) (wr.setCell ⟨w.heap.size, 9, none⟩ (.slice none 0 0)) ⟨(HL.out.below BX.out).qs, readR_nil _, readR_nil _, readR_nil _⟩ (slim_drops HS.out 2) (few_drops H3.out 2).1 (few_drops H3.out 2).2.1 (few_drops H3.out 2).2.2)
        unfold EncRet at EK
        have HF2 : Hid (Ms.fit m most = if (Ms.enc (Ms.drops m 2)).2 = 0 ∧ ((Ms.enc (Ms.drops m 2)).1.length : Int) ≤ most then ((Ms.enc (Ms.drops m 2)).1, 0) else Ms.fitF m most []) := Lib.hid hf.out
        obtain ⟨l, c, hlc⟩ : ∃ l c, Ms.enc (Ms.drops m 2) = (l, c) := ⟨_, _, rfl⟩
        rw [hlc] at EK HF2
        simp only at EK HF2
        have KX' := Lib.hid KX
        clear hlc KX KB hf hb
        by_cases hc : c = 0
        · subst hc
          by_cases hle : (l.length : Int) ≤ most
          · have HF3 : Hid (Ms.fit m most = (l, 0)) := Lib.hid (by rw [HF2.out, if_pos ⟨rfl, hle⟩])
            go_wp2_with fail
            refine EK.out.mono ?_
            rintro e w3 ⟨v, rfl, ho, b3⟩
            obtain ⟨av, cv, rfl⟩ := own_len ho
            have HO := Lib.hid (show OwnE encB 5 w.heap.size _ l w3 from ownE_lower ho (by have := BX.out.size; omega))
            have B3 := Lib.hid (BX.out.trans (b3.mono BX.out.size))
            clear ho b3
            go_wp2_with fail
            refine bodyPost_ret (results_tmp2 rfl _ _ _) rfl ?_
            refine ⟨.slice av l.length cv, ?_, ?_, B3.out⟩
            · rw [HF3.out]; rfl
            · rw [HF3.out]; exact HO.out
          · have hle' : most < (l.length : Int) := by omega
            have HF3 : Hid (Ms.fit m most = Ms.fitF m most []) := Lib.hid (by rw [HF2.out, if_neg (fun h => by omega)])
            go_wp2_with fail
            refine EK.out.mono ?_
            rintro e w3 ⟨v, rfl, ho, b3⟩
            obtain ⟨av, cv, rfl⟩ := own_len ho
            have B3 := Lib.hid (BX.out.trans (b3.mono BX.out.size))
            have K3 := Lib.hid (KX'.out.below b3)
            clear ho b3
            go_wp2_with fail
            go_roundw
            case rel => exact ⟨3, by go_num, by omega, K3, B3, HF3⟩
            case measure => simp [intOf]
        · have hcb : (c == 0) = false := by rw [beq_eq_false_iff_ne]; exact hc
          have HF3 : Hid (Ms.fit m most = Ms.fitF m most []) := Lib.hid (by rw [HF2.out, if_neg (fun h => hc h.1)])
          go_wp2_with fail
          refine EK.out.mono ?_
          rintro e w3 ⟨v, rfl, ho, b3⟩
          obtain ⟨av, cv, rfl⟩ := own_len ho
          have B3 := Lib.hid (BX.out.trans (b3.mono BX.out.size))
          have K3 := Lib.hid (KX'.out.below b3)
          clear ho b3
          go_wp2_with fail
          go_roundw
          case rel => exact ⟨3, by go_num, by omega, K3, B3, HF3⟩
          case measure => simp [intOf]
      · have HF3 : Hid (Ms.fit m most = ([], 3)) := Lib.hid hf.out
        go_wp2_with fail
        refine bodyPost_ret (results_tmp2 rfl _ _ _) rfl ?_
        refine ⟨.slice none 0 0, ?_, ?_, BR.out⟩
        · rw [HF3.out]; rfl
        · rw [HF3.out]; exact ownE_nil _ _ _ _
  · have hb2 : (c == 0) = false := by rw [beq_eq_false_iff_ne]; exact hc
    have HF0 : Hid (Ms.fit m most = Ms.fitF m most (fitRest 0)) := Lib.hid (by rw [HFT.out, if_neg hc1, if_neg (fun h => hc h.1)]; rfl)
    have c0 := K2.out.cell (i := 0) (v := .int .i64 m.id) rfl
    have c1 := K2.out.cell (i := 1) (v := .bool m.resp) rfl
    have c2 := K2.out.cell (i := 2) (v := .int .i64 m.opc) rfl
    have c3 := K2.out.cell (i := 3) (v := .bool m.auth) rfl
    have c4 := K2.out.cell (i := 4) (v := .bool m.cut) rfl
    have c5 := K2.out.cell (i := 5) (v := .bool m.des) rfl
    have c6 := K2.out.cell (i := 6) (v := .bool m.avl) rfl
    have c7 := K2.out.cell (i := 7) (v := .int .i64 m.code) rfl
    have c8 := K2.out.cell (i := 8) (v := (.slice aq m.qs.length cq)) rfl
    have c9 := K2.out.cell (i := 9) (v := (.slice aa m.an.length ca)) rfl
    have c10 := K2.out.cell (i := 10) (v := (.slice an m.ns.length cn)) rfl
    have c11 := K2.out.cell (i := 11) (v := (.slice ad m.ad.length cd)) rfl
    have c12 := K2.out.cell (i := 12) (v := .bool m.edns) rfl
    have c13 := K2.out.cell (i := 13) (v := .int .i64 m.size) rfl
    have f4 := K2.out.frozen 4
    go_wp2_with fail
    have KS : Hid (Block (w2.setCell ⟨w.heap.size, 4, none⟩ (.bool true)) w.heap.size (fitCells m (.slice aq m.qs.length cq) (.slice aa m.an.length ca) (.slice an m.ns.length cn) (.slice ad m.ad.length cd) 0) 27) := Lib.hid (K2.out.set 4 (.bool true))
    have BS := Lib.hid (B2.out.setCell (p := ⟨w.heap.size, 4, none⟩) (Nat.le_refl _) (.bool true))
    clear K2 B2 HO HFT c0 c1 c2 c3 c4 c5 c6 c7 c8 c9 c10 c11 c12 c13 f4
    go_loopw [35] (fun i wx => ∃ k : Nat, i = .int .i64 (k : Int) ∧ k ≤ 3 ∧ Hid (Block wx w.heap.size (fitCells m (.slice aq m.qs.length cq) (.slice aa m.an.length ca) (.slice an m.ns.length cn) (.slice ad m.ad.length cd) k) 27) ∧ Hid (Below w.heap.size w wx) ∧ Hid (Ms.fit m most = Ms.fitF m most (fitRest k))) (fun i _ => 4 - (intOf i).toNat)
    case atStart => exact ⟨0, rfl, by omega, KS, BS, HF0⟩
    case round =>
      clear KS BS HF0
      obtain ⟨k, rfl, hk, hb, BR, hf⟩ := hrel
      have hkk : k = 0 ∨ k = 1 ∨ k = 2 ∨ k = 3 := by omega
      clear hk
      rcases hkk with rfl | rfl | rfl | rfl
      · have KB : Block wr w.heap.size #[.int .i64 m.id, .bool m.resp, .int .i64 m.opc, .bool m.auth, .bool true, .bool m.des, .bool m.avl, .int .i64 m.code, (.slice aq m.qs.length cq), (.slice aa m.an.length ca), (.slice an m.ns.length cn), (.slice ad m.ad.length cd), .bool m.edns, .int .i64 m.size] 27 := hb.out
        have c0 := KB.cell (i := 0) (v := .int .i64 m.id) rfl
        have c1 := KB.cell (i := 1) (v := .bool m.resp) rfl
        have c2 := KB.cell (i := 2) (v := .int .i64 m.opc) rfl
        have c3 := KB.cell (i := 3) (v := .bool m.auth) rfl
        have c4 := KB.cell (i := 4) (v := .bool true) rfl
        have c5 := KB.cell (i := 5) (v := .bool m.des) rfl
        have c6 := KB.cell (i := 6) (v := .bool m.avl) rfl
        have c7 := KB.cell (i := 7) (v := .int .i64 m.code) rfl
        have c8 := KB.cell (i := 8) (v := (.slice aq m.qs.length cq)) rfl
        have c9 := KB.cell (i := 9) (v := (.slice aa m.an.length ca)) rfl
        have c10 := KB.cell (i := 10) (v := (.slice an m.ns.length cn)) rfl
        have c11 := KB.cell (i := 11) (v := (.slice ad m.ad.length cd)) rfl
        have c12 := KB.cell (i := 12) (v := .bool m.edns) rfl
        have c13 := KB.cell (i := 13) (v := .int .i64 m.size) rfl
        have f0 := KB.frozen 11
        have ix := fun W => idx_p0 W (.pointer (some ⟨w.heap.size, 11, none⟩)) (.pointer (some ⟨w.heap.size, 10, none⟩)) (.pointer (some ⟨w.heap.size, 9, none⟩))
        have BX := Lib.hid (BR.out.setCell (p := ⟨w.heap.size, 11, none⟩) (Nat.le_refl _) (.slice none 0 0))
        have KX : Block (wr.setCell ⟨w.heap.size, 11, none⟩ (.slice none 0 0)) w.heap.size #[.int .i64 m.id, .bool m.resp, .int .i64 m.opc, .bool m.auth, .bool true, .bool m.des, .bool m.avl, .int .i64 m.code, (.slice aq m.qs.length cq), (.slice aa m.an.length ca), (.slice an m.ns.length cn), (.slice none 0 0), .bool m.edns, .int .i64 m.size] 27 := KB.set 11 (.slice none 0 0)
        have EK := Lib.hid (enc_any (Ms.drops m 0) (.slice aq m.qs.length cq) (.slice aa m.an.length ca) (.slice an m.ns.length cn) (.slice none 0 0) (wr.setCell ⟨w.heap.size, 11, none⟩ (.slice none 0 0)) ⟨(HL.out.below BX.out).qs, (HL.out.below BX.out).an, (HL.out.below BX.out).ns, readR_nil _⟩ (slim_drops HS.out 0) (few_drops H3.out 0).1 (few_drops H3.out 0).2.1 (few_drops H3.out 0).2.2)
        unfold EncRet at EK
        have HF2 : Hid (Ms.fit m most = if (Ms.enc (Ms.drops m 0)).2 = 0 ∧ ((Ms.enc (Ms.drops m 0)).1.length : Int) ≤ most then ((Ms.enc (Ms.drops m 0)).1, 0) else Ms.fitF m most [1, 2]) := Lib.hid hf.out
        obtain ⟨l, c, hlc⟩ : ∃ l c, Ms.enc (Ms.drops m 0) = (l, c) := ⟨_, _, rfl⟩
        rw [hlc] at EK HF2
        simp only at EK HF2
        have KX' := Lib.hid KX
        clear hlc KX KB hf hb
        by_cases hc : c = 0
        · subst hc
          by_cases hle : (l.length : Int) ≤ most
          · have HF3 : Hid (Ms.fit m most = (l, 0)) := Lib.hid (by rw [HF2.out, if_pos ⟨rfl, hle⟩])
            go_wp2_with fail
            refine EK.out.mono ?_
            rintro e w3 ⟨v, rfl, ho, b3⟩
            obtain ⟨av, cv, rfl⟩ := own_len ho
            have HO := Lib.hid (show OwnE encB 5 w.heap.size _ l w3 from ownE_lower ho (by have := BX.out.size; omega))
            have B3 := Lib.hid (BX.out.trans (b3.mono BX.out.size))
            clear ho b3
            go_wp2_with fail
            refine bodyPost_ret (results_tmp2 rfl _ _ _) rfl ?_
            refine ⟨.slice av l.length cv, ?_, ?_, B3.out⟩
            · rw [HF3.out]; rfl
            · rw [HF3.out]; exact HO.out
          · have hle' : most < (l.length : Int) := by omega
            have HF3 : Hid (Ms.fit m most = Ms.fitF m most [1, 2]) := Lib.hid (by rw [HF2.out, if_neg (fun h => by omega)])
            go_wp2_with fail
            refine EK.out.mono ?_
            rintro e w3 ⟨v, rfl, ho, b3⟩
            obtain ⟨av, cv, rfl⟩ := own_len ho
            have B3 := Lib.hid (BX.out.trans (b3.mono BX.out.size))
            have K3 := Lib.hid (KX'.out.below b3)
            clear ho b3
            go_wp2_with fail
            go_roundw
            case rel => exact ⟨1, by go_num, by omega, K3, B3, HF3⟩
            case measure => simp [intOf]
        · have hcb : (c == 0) = false := by rw [beq_eq_false_iff_ne]; exact hc
          have HF3 : Hid (Ms.fit m most = Ms.fitF m most [1, 2]) := Lib.hid (by rw [HF2.out, if_neg (fun h => hc h.1)])
          go_wp2_with fail
          refine EK.out.mono ?_
          rintro e w3 ⟨v, rfl, ho, b3⟩
          obtain ⟨av, cv, rfl⟩ := own_len ho
          have B3 := Lib.hid (BX.out.trans (b3.mono BX.out.size))
          have K3 := Lib.hid (KX'.out.below b3)
          clear ho b3
          go_wp2_with fail
          go_roundw
          case rel => exact ⟨1, by go_num, by omega, K3, B3, HF3⟩
          case measure => simp [intOf]
      · have KB : Block wr w.heap.size #[.int .i64 m.id, .bool m.resp, .int .i64 m.opc, .bool m.auth, .bool true, .bool m.des, .bool m.avl, .int .i64 m.code, (.slice aq m.qs.length cq), (.slice aa m.an.length ca), (.slice an m.ns.length cn), (.slice none 0 0), .bool m.edns, .int .i64 m.size] 27 := hb.out
        have c0 := KB.cell (i := 0) (v := .int .i64 m.id) rfl
        have c1 := KB.cell (i := 1) (v := .bool m.resp) rfl
        have c2 := KB.cell (i := 2) (v := .int .i64 m.opc) rfl
        have c3 := KB.cell (i := 3) (v := .bool m.auth) rfl
        have c4 := KB.cell (i := 4) (v := .bool true) rfl
        have c5 := KB.cell (i := 5) (v := .bool m.des) rfl
        have c6 := KB.cell (i := 6) (v := .bool m.avl) rfl
        have c7 := KB.cell (i := 7) (v := .int .i64 m.code) rfl
        have c8 := KB.cell (i := 8) (v := (.slice aq m.qs.length cq)) rfl
        have c9 := KB.cell (i := 9) (v := (.slice aa m.an.length ca)) rfl
        have c10 := KB.cell (i := 10) (v := (.slice an m.ns.length cn)) rfl
        have c11 := KB.cell (i := 11) (v := (.slice none 0 0)) rfl
        have c12 := KB.cell (i := 12) (v := .bool m.edns) rfl
        have c13 := KB.cell (i := 13) (v := .int .i64 m.size) rfl
        have f0 := KB.frozen 10
        have ix := fun W => idx_p1 W (.pointer (some ⟨w.heap.size, 11, none⟩)) (.pointer (some ⟨w.heap.size, 10, none⟩)) (.pointer (some ⟨w.heap.size, 9, none⟩))
        have BX := Lib.hid (BR.out.setCell (p := ⟨w.heap.size, 10, none⟩) (Nat.le_refl _) (.slice none 0 0))
        have KX : Block (wr.setCell ⟨w.heap.size, 10, none⟩ (.slice none 0 0)) w.heap.size #[.int .i64 m.id, .bool m.resp, .int .i64 m.opc, .bool m.auth, .bool true, .bool m.des, .bool m.avl, .int .i64 m.code, (.slice aq m.qs.length cq), (.slice aa m.an.length ca), (.slice none 0 0), (.slice none 0 0), .bool m.edns, .int .i64 m.size] 27 := KB.set 10 (.slice none 0 0)
        have EK := Lib.hid (enc_any (Ms.drops m 1) (.slice aq m.qs.length cq) (.slice aa m.an.length ca) (.slice none 0 0) (.slice none 0 0) (wr.setCell ⟨w.heap.size, 10, none⟩ (.slice none 0 0)) ⟨(HL.out.below BX.out).qs, (HL.out.below BX.out).an, readR_nil _, readR_nil _⟩ (slim_drops HS.out 1) (few_drops H3.out 1).1 (few_drops H3.out 1).2.1 (few_drops H3.out 1).2.2)
        unfold EncRet at EK
        have HF2 : Hid (Ms.fit m most = if (Ms.enc (Ms.drops m 1)).2 = 0 ∧ ((Ms.enc (Ms.drops m 1)).1.length : Int) ≤ most then ((Ms.enc (Ms.drops m 1)).1, 0) else Ms.fitF m most [2]) := Lib.hid hf.out
        obtain ⟨l, c, hlc⟩ : ∃ l c, Ms.enc (Ms.drops m 1) = (l, c) := ⟨_, _, rfl⟩
        rw [hlc] at EK HF2
        simp only at EK HF2
        have KX' := Lib.hid KX
        clear hlc KX KB hf hb
        by_cases hc : c = 0
        · subst hc
          by_cases hle : (l.length : Int) ≤ most
          · have HF3 : Hid (Ms.fit m most = (l, 0)) := Lib.hid (by rw [HF2.out, if_pos ⟨rfl, hle⟩])
            go_wp2_with fail
            refine EK.out.mono ?_
            rintro e w3 ⟨v, rfl, ho, b3⟩
            obtain ⟨av, cv, rfl⟩ := own_len ho
            have HO := Lib.hid (show OwnE encB 5 w.heap.size _ l w3 from ownE_lower ho (by have := BX.out.size; omega))
            have B3 := Lib.hid (BX.out.trans (b3.mono BX.out.size))
            clear ho b3
            go_wp2_with fail
            refine bodyPost_ret (results_tmp2 rfl _ _ _) rfl ?_
            refine ⟨.slice av l.length cv, ?_, ?_, B3.out⟩
            · rw [HF3.out]; rfl
            · rw [HF3.out]; exact HO.out
          · have hle' : most < (l.length : Int) := by omega
            have HF3 : Hid (Ms.fit m most = Ms.fitF m most [2]) := Lib.hid (by rw [HF2.out, if_neg (fun h => by omega)])
            go_wp2_with fail
            refine EK.out.mono ?_
            rintro e w3 ⟨v, rfl, ho, b3⟩
            obtain ⟨av, cv, rfl⟩ := own_len ho
            have B3 := Lib.hid (BX.out.trans (b3.mono BX.out.size))
            have K3 := Lib.hid (KX'.out.below b3)
            clear ho b3
            go_wp2_with fail
            go_roundw
            case rel => exact ⟨2, by go_num, by omega, K3, B3, HF3⟩
            case measure => simp [intOf]
        · have hcb : (c == 0) = false := by rw [beq_eq_false_iff_ne]; exact hc
          have HF3 : Hid (Ms.fit m most = Ms.fitF m most [2]) := Lib.hid (by rw [HF2.out, if_neg (fun h => hc h.1)])
          go_wp2_with fail
          refine EK.out.mono ?_
          rintro e w3 ⟨v, rfl, ho, b3⟩
          obtain ⟨av, cv, rfl⟩ := own_len ho
          have B3 := Lib.hid (BX.out.trans (b3.mono BX.out.size))
          have K3 := Lib.hid (KX'.out.below b3)
          clear ho b3
          go_wp2_with fail
          go_roundw
          case rel => exact ⟨2, by go_num, by omega, K3, B3, HF3⟩
          case measure => simp [intOf]
      · have KB : Block wr w.heap.size #[.int .i64 m.id, .bool m.resp, .int .i64 m.opc, .bool m.auth, .bool true, .bool m.des, .bool m.avl, .int .i64 m.code, (.slice aq m.qs.length cq), (.slice aa m.an.length ca), (.slice none 0 0), (.slice none 0 0), .bool m.edns, .int .i64 m.size] 27 := hb.out
        have c0 := KB.cell (i := 0) (v := .int .i64 m.id) rfl
        have c1 := KB.cell (i := 1) (v := .bool m.resp) rfl
        have c2 := KB.cell (i := 2) (v := .int .i64 m.opc) rfl
        have c3 := KB.cell (i := 3) (v := .bool m.auth) rfl
        have c4 := KB.cell (i := 4) (v := .bool true) rfl
        have c5 := KB.cell (i := 5) (v := .bool m.des) rfl
        have c6 := KB.cell (i := 6) (v := .bool m.avl) rfl
        have c7 := KB.cell (i := 7) (v := .int .i64 m.code) rfl
        have c8 := KB.cell (i := 8) (v := (.slice aq m.qs.length cq)) rfl
        have c9 := KB.cell (i := 9) (v := (.slice aa m.an.length ca)) rfl
        have c10 := KB.cell (i := 10) (v := (.slice none 0 0)) rfl
        have c11 := KB.cell (i := 11) (v := (.slice none 0 0)) rfl
        have c12 := KB.cell (i := 12) (v := .bool m.edns) rfl
        have c13 := KB.cell (i := 13) (v := .int .i64 m.size) rfl
        have f0 := KB.frozen 9
        have ix := fun W => idx_p2 W (.pointer (some ⟨w.heap.size, 11, none⟩)) (.pointer (some ⟨w.heap.size, 10, none⟩)) (.pointer (some ⟨w.heap.size, 9, none⟩))
        have BX := Lib.hid (BR.out.setCell (p := ⟨w.heap.size, 9, none⟩) (Nat.le_refl _) (.slice none 0 0))
        have KX : Block (wr.setCell ⟨w.heap.size, 9, none⟩ (.slice none 0 0)) w.heap.size #[.int .i64 m.id, .bool m.resp, .int .i64 m.opc, .bool m.auth, .bool true, .bool m.des, .bool m.avl, .int .i64 m.code, (.slice aq m.qs.length cq), (.slice none 0 0), (.slice none 0 0), (.slice none 0 0), .bool m.edns, .int .i64 m.size] 27 := KB.set 9 (.slice none 0 0)
        have EK := Lib.hid (enc_any (Ms.drops m 2) (.slice aq m.qs.length cq) (.slice none 0 0) (.slice none 0 0) (.slice none 0 0) (wr.setCell ⟨w.heap.size, 9, none⟩ (.slice none 0 0)) ⟨(HL.out.below BX.out).qs, readR_nil _, readR_nil _, readR_nil _⟩ (slim_drops HS.out 2) (few_drops H3.out 2).1 (few_drops H3.out 2).2.1 (few_drops H3.out 2).2.2)
        unfold EncRet at EK
        have HF2 : Hid (Ms.fit m most = if (Ms.enc (Ms.drops m 2)).2 = 0 ∧ ((Ms.enc (Ms.drops m 2)).1.length : Int) ≤ most then ((Ms.enc (Ms.drops m 2)).1, 0) else Ms.fitF m most []) := Lib.hid hf.out
        obtain ⟨l, c, hlc⟩ : ∃ l c, Ms.enc (Ms.drops m 2) = (l, c) := ⟨_, _, rfl⟩
        rw [hlc] at EK HF2
        simp only at EK HF2
        have KX' := Lib.hid KX
        clear hlc KX KB hf hb
        by_cases hc : c = 0
        · subst hc
          by_cases hle : (l.length : Int) ≤ most
          · have HF3 : Hid (Ms.fit m most = (l, 0)) := Lib.hid (by rw [HF2.out, if_pos ⟨rfl, hle⟩])
            go_wp2_with fail
            refine EK.out.mono ?_
            rintro e w3 ⟨v, rfl, ho, b3⟩
            obtain ⟨av, cv, rfl⟩ := own_len ho
            have HO := Lib.hid (show OwnE encB 5 w.heap.size _ l w3 from ownE_lower ho (by have := BX.out.size; omega))
            have B3 := Lib.hid (BX.out.trans (b3.mono BX.out.size))
            clear ho b3
            go_wp2_with fail
            refine bodyPost_ret (results_tmp2 rfl _ _ _) rfl ?_
            refine ⟨.slice av l.length cv, ?_, ?_, B3.out⟩
            · rw [HF3.out]; rfl
            · rw [HF3.out]; exact HO.out
          · have hle' : most < (l.length : Int) := by omega
            have HF3 : Hid (Ms.fit m most = Ms.fitF m most []) := Lib.hid (by rw [HF2.out, if_neg (fun h => by omega)])
            go_wp2_with fail
            refine EK.out.mono ?_
            rintro e w3 ⟨v, rfl, ho, b3⟩
            obtain ⟨av, cv, rfl⟩ := own_len ho
            have B3 := Lib.hid (BX.out.trans (b3.mono BX.out.size))
            have K3 := Lib.hid (KX'.out.below b3)
            clear ho b3
            go_wp2_with fail
            go_roundw
            case rel => exact ⟨3, by go_num, by omega, K3, B3, HF3⟩
            case measure => simp [intOf]
        · have hcb : (c == 0) = false := by rw [beq_eq_false_iff_ne]; exact hc
          have HF3 : Hid (Ms.fit m most = Ms.fitF m most []) := Lib.hid (by rw [HF2.out, if_neg (fun h => hc h.1)])
          go_wp2_with fail
          refine EK.out.mono ?_
          rintro e w3 ⟨v, rfl, ho, b3⟩
          obtain ⟨av, cv, rfl⟩ := own_len ho
          have B3 := Lib.hid (BX.out.trans (b3.mono BX.out.size))
          have K3 := Lib.hid (KX'.out.below b3)
          clear ho b3
          go_wp2_with fail
          go_roundw
          case rel => exact ⟨3, by go_num, by omega, K3, B3, HF3⟩
          case measure => simp [intOf]
      · have HF3 : Hid (Ms.fit m most = ([], 3)) := Lib.hid hf.out
        go_wp2_with fail
        refine bodyPost_ret (results_tmp2 rfl _ _ _) rfl ?_
        refine ⟨.slice none 0 0, ?_, ?_, BR.out⟩
        · rw [HF3.out]; rfl
        · rw [HF3.out]; exact ownE_nil _ _ _ _
end Go.Proofs.Ytfmghbmbahembaa

/- MessageFits. -/
namespace Go.Proofs.Ytfmghbmbahembaa
open Go.RowKit Go.Shelf Go.Maps
attribute [local go_sem] Oper.semAt_some

theorem fits_cases {a b c : Nat} (ha : a ≤ 64) (hb : b ≤ 64) (hc : c ≤ 64) {most : Int} (h : 19 ≤ most) : ∃ l, Ms.fit (Ms.oneOf a b c false 0 false) most = (l, 0) ∧ (l.length : Int) ≤ most ∧
    ((19 + 15 * ((a : Int) + b + c) ≤ most ∧ Ms.dec l = (Ms.oneOf a b c false 0 false, true, true)) ∨
     (¬ 19 + 15 * ((a : Int) + b + c) ≤ most ∧ 19 + 15 * ((a : Int) + b) ≤ most ∧ Ms.dec l = (Ms.oneOf a b 0 false 0 true, true, true)) ∨
     (¬ 19 + 15 * ((a : Int) + b + c) ≤ most ∧ ¬ 19 + 15 * ((a : Int) + b) ≤ most ∧ 19 + 15 * (a : Int) ≤ most ∧ Ms.dec l = (Ms.oneOf a 0 0 false 0 true, true, true)) ∨
     (¬ 19 + 15 * ((a : Int) + b + c) ≤ most ∧ ¬ 19 + 15 * ((a : Int) + b) ≤ most ∧ ¬ 19 + 15 * (a : Int) ≤ most ∧ Ms.dec l = (Ms.oneOf 0 0 0 false 0 true, true, true))) := by
  obtain ⟨m', e1, e2, e3, e4⟩ := Ms.fit_big ha hb hc h
  refine ⟨_, e1, e2, ?_⟩
  rw [e3]
  by_cases h1 : 19 + 15 * ((a : Int) + b + c) ≤ most
  · rw [if_pos h1] at e4; exact .inl ⟨h1, by rw [e4]⟩
  · rw [if_neg h1] at e4
    by_cases h2 : 19 + 15 * ((a : Int) + b) ≤ most
    · rw [if_pos h2] at e4; exact .inr (.inl ⟨h1, h2, by rw [e4]⟩)
    · rw [if_neg h2] at e4
      by_cases h3 : 19 + 15 * (a : Int) ≤ most
      · rw [if_pos h3] at e4; exact .inr (.inr (.inl ⟨h1, h2, h3, by rw [e4]⟩))
      · rw [if_neg h3] at e4; exact .inr (.inr (.inr ⟨h1, h2, h3, by rw [e4]⟩))

set_option maxRecDepth 100000 in
set_option maxHeartbeats 8000000 in
theorem msgFits_any (AW : ∀ W, Calls Try.prog 11 #[] W fun e w' => e = .returned (.bool true) ∧ Below W.heap.size W w') (z0 z1 z2 most : Int) (w : World) :
    Calls Try.prog 8 #[.int .i64 z0, .int .i64 z1, .int .i64 z2, .int .i64 most] w fun e w' => e = .returned (.bool true) ∧ Below w.heap.size w w' := by
  have HAW := Lib.hid AW
  clear AW
  have e0 : (0 ≤ z0 ∧ z0 ≤ 40 ∧ 0 ≤ z1 ∧ z1 ≤ 40 ∧ 0 ≤ z2 ∧ z2 ≤ 40 ∧ 0 ≤ most ∧ most ≤ 5000) ∨ (z0 < 0) ∨ (0 ≤ z0 ∧ 40 < z0) ∨ (0 ≤ z0 ∧ z0 ≤ 40 ∧ z1 < 0) ∨ (0 ≤ z0 ∧ z0 ≤ 40 ∧ 0 ≤ z1 ∧ 40 < z1) ∨ (0 ≤ z0 ∧ z0 ≤ 40 ∧ 0 ≤ z1 ∧ z1 ≤ 40 ∧ z2 < 0) ∨ (0 ≤ z0 ∧ z0 ≤ 40 ∧ 0 ≤ z1 ∧ z1 ≤ 40 ∧ 0 ≤ z2 ∧ 40 < z2) ∨ (0 ≤ z0 ∧ z0 ≤ 40 ∧ 0 ≤ z1 ∧ z1 ≤ 40 ∧ 0 ≤ z2 ∧ z2 ≤ 40 ∧ most < 0) ∨ (0 ≤ z0 ∧ z0 ≤ 40 ∧ 0 ≤ z1 ∧ z1 ≤ 40 ∧ 0 ≤ z2 ∧ z2 ≤ 40 ∧ 0 ≤ most ∧ 5000 < most) := by omega
  rcases e0 with ⟨a1, a2, a3, a4, a5, a6, a7, a8⟩ | a1 | ⟨a1, a2⟩ | ⟨a1, a2, a3⟩ | ⟨a1, a2, a3, a4⟩ | ⟨a1, a2, a3, a4, a5⟩ | ⟨a1, a2, a3, a4, a5, a6⟩ | ⟨a1, a2, a3, a4, a5, a6, a7⟩ | ⟨a1, a2, a3, a4, a5, a6, a7, a8⟩
  · obtain ⟨a, rfl⟩ := Int.eq_ofNat_of_zero_le a1
    obtain ⟨b, rfl⟩ := Int.eq_ofNat_of_zero_le a3
    obtain ⟨c, rfl⟩ := Int.eq_ofNat_of_zero_le a5
    have ha : a ≤ 40 := by omega
    have hb : b ≤ 40 := by omega
    have hc : c ≤ 40 := by omega
    go_enter Try.func8, Try.ntmps8
    go_wp2_with fail
    refine (one_any _).mono ?_
    rintro e w1 ⟨vq, rfl, hL1, b1⟩
    obtain ⟨aq, cq, rfl, _⟩ := hL1.qs.form
    have HL1 := Lib.hid hL1
    have HB1 := Lib.hid b1
    clear hL1 b1
    simp only [msgV, oneM, Ms.M.zero, qA, List.length_cons, List.length_nil, Nat.zero_add]
    go_wp2_with fail
    obtain ⟨wA, hwA⟩ : ∃ W, w1.alloc (.cells #[.int .i64 5, .bool false, .int .i64 0, .bool false, .bool false, .bool true, .bool false, .int .i64 0, .slice aq 1 cq, .slice none 0 0, .slice none 0 0, .slice none 0 0, .bool false, .int .i64 0] 27) = W := ⟨_, rfl⟩
    have bA : Below w1.heap.size w1 wA := by rw [← hwA]; exact (Below.refl _ _).alloc (Nat.le_refl _) _
    have kA : Block wA w1.heap.size #[.int .i64 5, .bool false, .int .i64 0, .bool false, .bool false, .bool true, .bool false, .int .i64 0, .slice aq 1 cq, .slice none 0 0, .slice none 0 0, .slice none 0 0, .bool false, .int .i64 0] 27 := by rw [← hwA]; exact Block.new _ _ _
    have hsA : wA.heap.size = w1.heap.size + 1 := by rw [← hwA]; simp
    rw [hwA]
    clear hwA
    refine (rmakeA_any [0] 5 7 wA (by decide) (by decide) (by decide)).mono ?_
    rw [root_made]
    rintro e w2 ⟨rfl, b2⟩
    have bA2 := Lib.hid (bA.trans (b2.mono bA.size))
    have k2 := kA.below b2
    have h2s : w1.heap.size < w2.heap.size := by have := b2.size; omega
    simp only [rrV, Ms.rootR, show Rd.four 7 = [0, 0, 0, 7] from by decide]
    clear bA kA b2 hsA
    go_wp2_with fail
    obtain ⟨W1, hW1⟩ : ∃ W, w2.alloc (.cells #[.string ⟨#[0]⟩, .int .i64 1, .int .i64 1, .int .i64 5, .string ⟨#[0, 0, 0, 7]⟩] 45) = W := ⟨_, rfl⟩
    have bW : Below w2.heap.size w2 W1 := by rw [← hW1]; exact (Below.refl _ _).alloc (Nat.le_refl _) _
    have kR : Block W1 w2.heap.size #[.string ⟨#[0]⟩, .int .i64 1, .int .i64 1, .int .i64 5, .string ⟨#[0, 0, 0, 7]⟩] 45 := by rw [← hW1]; exact Block.new _ _ _
    have hsW : W1.heap.size = w2.heap.size + 1 := by rw [← hW1]; simp
    have HC : Hid (Cn w1 w1.heap.size w2.heap.size W1 (w2.heap.size + 1) [.int .i64 5, .bool false, .int .i64 0, .bool false, .bool false, .bool true, .bool false, .int .i64 0, .slice aq 1 cq, .slice none 0 0, .slice none 0 0, .slice none 0 0, .bool false, .int .i64 0] [.string ⟨#[0]⟩, .int .i64 1, .int .i64 1, .int .i64 5, .string ⟨#[0, 0, 0, 7]⟩] W1) := Lib.hid ⟨k2.below bW, kR, rfl, h2s, Nat.lt_succ_self _, by omega, bA2.out.trans (bW.mono bA2.out.size), fun _ _ _ => rfl⟩
    rw [hW1]
    clear hW1 bW kR k2 bA2
    obtain ⟨B, hB⟩ : ∃ B, w1.heap.size = B := ⟨_, rfl⟩
    obtain ⟨R, hR⟩ : ∃ R, w2.heap.size = R := ⟨_, rfl⟩
    obtain ⟨H0, hH0⟩ : ∃ H, R + 1 = H := ⟨_, rfl⟩
    rw [hB, hR, hH0] at HC
    rw [hB, hR] at h2s
    rw [hB, hR]
    have HC0 := HC
    have hBH0 := HC0.out.b_lt
    clear HC hsW hR hH0
    go_loopw [11] (fun i wx => ∃ (k : Nat) (v : Value), i = .int .i64 (k : Int) ∧ k ≤ a ∧ Hid (OwnK encRR 5 45 H0 v (List.replicate k Ms.rootR) wx) ∧ Hid (Cn w1 B R W1 H0 [.int .i64 5, .bool false, .int .i64 0, .bool false, .bool false, .bool true, .bool false, .int .i64 0, .slice aq 1 cq, v, .slice none 0 0, .slice none 0 0, .bool false, .int .i64 0] [.string ⟨#[0]⟩, .int .i64 1, .int .i64 1, .int .i64 5, .string ⟨#[0, 0, 0, 7]⟩] wx)) (fun i _ => a + 1 - (intOf i).toNat)
    case atStart => exact ⟨0, _, rfl, by omega, Lib.hid (ownK_nil _ _ _ _ _), HC0⟩
    case round =>
      obtain ⟨k, v, rfl, hk, ho, hb⟩ := hrel
      by_cases hlt : k < a
      · obtain ⟨ao, cp, rfl, _⟩ := ownK_form ho.out
        simp only [List.length_replicate] at ho hb
        have hlt' := hb.out.lt
        have hbR' := hb.out.bR
        have c9 := hb.out.blk.cell (i := 9) (v := .slice ao k cp) rfl
        have r0 := hb.out.rcd.cell (i := 0) (v := .string ⟨#[0]⟩) rfl
        have r1 := hb.out.rcd.cell (i := 1) (v := .int .i64 1) rfl
        have r2 := hb.out.rcd.cell (i := 2) (v := .int .i64 1) rfl
        have r3 := hb.out.rcd.cell (i := 3) (v := .int .i64 5) rfl
        have r4 := hb.out.rcd.cell (i := 4) (v := .string ⟨#[0, 0, 0, 7]⟩) rfl
        clear HC0
        go_wp2_with (at_builtin; refine wpList_apR _ rfl _ _ rfl H0 _ _ rfl (ownK_alloc ho.out _) _ [Ms.rootR] rfl (readR_blk1 (Block.new _ _ _)) (by simp; omega) (hb.out.alloc _).his ?_; intro v8 w8 ho8 hg8 _; obtain ⟨ao8, cp8, rfl, _⟩ := ownK_form ho8; simp only [List.length_append, List.length_replicate, List.length_cons, List.length_nil, Nat.zero_add] at ho8 hg8 ⊢; have B8 := Lib.hid ((hb.out.alloc _).apd (ownK_alloc ho.out _) hg8); have O8 := Lib.hid ho8; have c98 := B8.out.blk.cell (i := 9) (v := .slice ao k cp) rfl; have f98 := B8.out.blk.frozen 9; clear ho8 hg8)
        go_roundw
        case rel => exact ⟨k + 1, _, by go_num, by omega, Lib.hid (by rw [List.replicate_succ']; exact ownK_set O8.out (by omega)), Lib.hid (B8.out.set 9 _)⟩
        case measure => simp [intOf]; omega
      · obtain rfl : a = k := by omega
        obtain ⟨ao0, cp0, rfl, _⟩ := ownK_form ho.out
        simp only [List.length_replicate] at ho hb
        have HP0 := ho
        obtain ⟨H1, hH1⟩ : ∃ H, wr.heap.size = H := ⟨_, rfl⟩
        have HC1 : Hid (Cn w1 B R wr H1 [.int .i64 5, .bool false, .int .i64 0, .bool false, .bool false, .bool true, .bool false, .int .i64 0, .slice aq 1 cq, (.slice ao0 a cp0), .slice none 0 0, .slice none 0 0, .bool false, .int .i64 0] [.string ⟨#[0]⟩, .int .i64 1, .int .i64 1, .int .i64 5, .string ⟨#[0, 0, 0, 7]⟩] wr) := Lib.hid (hH1 ▸ hb.out.again)
        have hBH1 := HC1.out.b_lt
        clear hb ho hlt hk HC0
        go_wp2_with fail
        go_loopw [12] (fun i wx => ∃ (k : Nat) (v : Value), i = .int .i64 (k : Int) ∧ k ≤ b ∧ Hid (OwnK encRR 5 45 H1 v (List.replicate k Ms.rootR) wx) ∧ Hid (Cn w1 B R wr H1 [.int .i64 5, .bool false, .int .i64 0, .bool false, .bool false, .bool true, .bool false, .int .i64 0, .slice aq 1 cq, (.slice ao0 a cp0), v, .slice none 0 0, .bool false, .int .i64 0] [.string ⟨#[0]⟩, .int .i64 1, .int .i64 1, .int .i64 5, .string ⟨#[0, 0, 0, 7]⟩] wx)) (fun i _ => b + 1 - (intOf i).toNat)
        case atStart => exact ⟨0, _, rfl, by omega, Lib.hid (ownK_nil _ _ _ _ _), HC1⟩
        case round =>
          obtain ⟨k, v, rfl, hk, ho, hb⟩ := hrel
          by_cases hlt : k < b
          · obtain ⟨ao, cp, rfl, _⟩ := ownK_form ho.out
            simp only [List.length_replicate] at ho hb
            have hlt' := hb.out.lt
            have hbR' := hb.out.bR
            have c9 := hb.out.blk.cell (i := 10) (v := .slice ao k cp) rfl
            have r0 := hb.out.rcd.cell (i := 0) (v := .string ⟨#[0]⟩) rfl
            have r1 := hb.out.rcd.cell (i := 1) (v := .int .i64 1) rfl
            have r2 := hb.out.rcd.cell (i := 2) (v := .int .i64 1) rfl
            have r3 := hb.out.rcd.cell (i := 3) (v := .int .i64 5) rfl
            have r4 := hb.out.rcd.cell (i := 4) (v := .string ⟨#[0, 0, 0, 7]⟩) rfl
            clear HC1
            go_wp2_with (at_builtin; refine wpList_apR _ rfl _ _ rfl H1 _ _ rfl (ownK_alloc ho.out _) _ [Ms.rootR] rfl (readR_blk1 (Block.new _ _ _)) (by simp; omega) (hb.out.alloc _).his ?_; intro v8 w8 ho8 hg8 _; obtain ⟨ao8, cp8, rfl, _⟩ := ownK_form ho8; simp only [List.length_append, List.length_replicate, List.length_cons, List.length_nil, Nat.zero_add] at ho8 hg8 ⊢; have B8 := Lib.hid ((hb.out.alloc _).apd (ownK_alloc ho.out _) hg8); have O8 := Lib.hid ho8; have c98 := B8.out.blk.cell (i := 10) (v := .slice ao k cp) rfl; have f98 := B8.out.blk.frozen 10; clear ho8 hg8)
            go_roundw
            case rel => exact ⟨k + 1, _, by go_num, by omega, Lib.hid (by rw [List.replicate_succ']; exact ownK_set O8.out (by omega)), Lib.hid (B8.out.set 10 _)⟩
            case measure => simp [intOf]; omega
          · obtain rfl : b = k := by omega
            obtain ⟨ao1, cp1, rfl, _⟩ := ownK_form ho.out
            simp only [List.length_replicate] at ho hb
            have HP1 := ho
            have HP0 := Lib.hid (hb.out.own hH1 HP0.out hBH0)
            obtain ⟨H2, hH2⟩ : ∃ H, wr.heap.size = H := ⟨_, rfl⟩
            have HC2 : Hid (Cn w1 B R wr H2 [.int .i64 5, .bool false, .int .i64 0, .bool false, .bool false, .bool true, .bool false, .int .i64 0, .slice aq 1 cq, (.slice ao0 a cp0), (.slice ao1 b cp1), .slice none 0 0, .bool false, .int .i64 0] [.string ⟨#[0]⟩, .int .i64 1, .int .i64 1, .int .i64 5, .string ⟨#[0, 0, 0, 7]⟩] wr) := Lib.hid (hH2 ▸ hb.out.again)
            have hBH2 := HC2.out.b_lt
            clear hb ho hlt hk HC1
            go_wp2_with fail
            go_loopw [13] (fun i wx => ∃ (k : Nat) (v : Value), i = .int .i64 (k : Int) ∧ k ≤ c ∧ Hid (OwnK encRR 5 45 H2 v (List.replicate k Ms.rootR) wx) ∧ Hid (Cn w1 B R wr H2 [.int .i64 5, .bool false, .int .i64 0, .bool false, .bool false, .bool true, .bool false, .int .i64 0, .slice aq 1 cq, (.slice ao0 a cp0), (.slice ao1 b cp1), v, .bool false, .int .i64 0] [.string ⟨#[0]⟩, .int .i64 1, .int .i64 1, .int .i64 5, .string ⟨#[0, 0, 0, 7]⟩] wx)) (fun i _ => c + 1 - (intOf i).toNat)
            case atStart => exact ⟨0, _, rfl, by omega, Lib.hid (ownK_nil _ _ _ _ _), HC2⟩
            case round =>
              obtain ⟨k, v, rfl, hk, ho, hb⟩ := hrel
              by_cases hlt : k < c
              · obtain ⟨ao, cp, rfl, _⟩ := ownK_form ho.out
                simp only [List.length_replicate] at ho hb
                have hlt' := hb.out.lt
                have hbR' := hb.out.bR
                have c9 := hb.out.blk.cell (i := 11) (v := .slice ao k cp) rfl
                have r0 := hb.out.rcd.cell (i := 0) (v := .string ⟨#[0]⟩) rfl
                have r1 := hb.out.rcd.cell (i := 1) (v := .int .i64 1) rfl
                have r2 := hb.out.rcd.cell (i := 2) (v := .int .i64 1) rfl
                have r3 := hb.out.rcd.cell (i := 3) (v := .int .i64 5) rfl
                have r4 := hb.out.rcd.cell (i := 4) (v := .string ⟨#[0, 0, 0, 7]⟩) rfl
                clear HC2
                go_wp2_with (at_builtin; refine wpList_apR _ rfl _ _ rfl H2 _ _ rfl (ownK_alloc ho.out _) _ [Ms.rootR] rfl (readR_blk1 (Block.new _ _ _)) (by simp; omega) (hb.out.alloc _).his ?_; intro v8 w8 ho8 hg8 _; obtain ⟨ao8, cp8, rfl, _⟩ := ownK_form ho8; simp only [List.length_append, List.length_replicate, List.length_cons, List.length_nil, Nat.zero_add] at ho8 hg8 ⊢; have B8 := Lib.hid ((hb.out.alloc _).apd (ownK_alloc ho.out _) hg8); have O8 := Lib.hid ho8; have c98 := B8.out.blk.cell (i := 11) (v := .slice ao k cp) rfl; have f98 := B8.out.blk.frozen 11; clear ho8 hg8)
                go_roundw
                case rel => exact ⟨k + 1, _, by go_num, by omega, Lib.hid (by rw [List.replicate_succ']; exact ownK_set O8.out (by omega)), Lib.hid (B8.out.set 11 _)⟩
                case measure => simp [intOf]; omega
              · obtain rfl : c = k := by omega
                obtain ⟨ao2, cp2, rfl, _⟩ := ownK_form ho.out
                simp only [List.length_replicate] at ho hb
                have P0 := Lib.hid (hb.out.own hH2 HP0.out hBH0)
                have P1 := Lib.hid (hb.out.own hH2 HP1.out hBH1)
                have bW : Below w1.heap.size w1 wr := by rw [hB]; exact hb.out.bel
                have LW : Lists (Ms.oneOf a b c false 0 false) (.slice aq 1 cq) (.slice ao0 a cp0) (.slice ao1 b cp1) (.slice ao2 c cp2) wr := ⟨(HL1.out.below bW).qs, readR_own P0.out, readR_own P1.out, readR_own ho.out⟩
                have BW := Lib.hid (HB1.out.trans (bW.mono HB1.out.size))
                have KW : Block wr B #[.int .i64 5, .bool false, .int .i64 0, .bool false, .bool false, .bool true, .bool false, .int .i64 0, .slice aq 1 cq, .slice ao0 a cp0, .slice ao1 b cp1, .slice ao2 c cp2, .bool false, .int .i64 0] 27 := hb.out.blk
                have KH := Lib.hid KW
                have c0 := KW.cell (i := 0) (v := .int .i64 5) rfl
                have c1 := KW.cell (i := 1) (v := .bool false) rfl
                have c2 := KW.cell (i := 2) (v := .int .i64 0) rfl
                have c3 := KW.cell (i := 3) (v := .bool false) rfl
                have c4 := KW.cell (i := 4) (v := .bool false) rfl
                have c5 := KW.cell (i := 5) (v := .bool true) rfl
                have c6 := KW.cell (i := 6) (v := .bool false) rfl
                have c7 := KW.cell (i := 7) (v := .int .i64 0) rfl
                have c8 := KW.cell (i := 8) (v := .slice aq 1 cq) rfl
                have c9 := KW.cell (i := 9) (v := .slice ao0 a cp0) rfl
                have c10 := KW.cell (i := 10) (v := .slice ao1 b cp1) rfl
                have c11 := KW.cell (i := 11) (v := .slice ao2 c cp2) rfl
                have c12 := KW.cell (i := 12) (v := .bool false) rfl
                have c13 := KW.cell (i := 13) (v := .int .i64 0) rfl
                clear hb ho HP0 HP1 P0 P1 bW KW hlt hk HL1 HB1 HC2
                have FT := Lib.hid (fit_any (Ms.oneOf a b c false 0 false) (.slice aq 1 cq) (.slice ao0 a cp0) (.slice ao1 b cp1) (.slice ao2 c cp2) most wr LW (slim_oneOf (by omega) (by omega) (by omega) false 0 false) ⟨few_rep (by omega) (by omega), few_rep (by omega) (by omega), few_rep (by omega) (by omega)⟩)
                unfold FitRet at FT
                by_cases hsm : most < 19
                · rw [Ms.fit_small (by omega) (by omega) (by omega) hsm] at FT
                  go_wp2_with fail
                  refine FT.out.mono ?_
                  rintro e w2 ⟨v, rfl, ho2, b2⟩
                  obtain ⟨av, cv, rfl⟩ := own_len ho2
                  have B2 := Lib.hid (BW.out.trans (b2.mono BW.out.size))
                  clear ho2 b2
                  go_wp2_with fail
                  refine (HAW.out _).mono ?_
                  rintro e w11 ⟨rfl, b11⟩
                  go_wp2_with fail
                  go_ret
                  exact ⟨rfl, B2.out.trans (b11.mono B2.out.size)⟩
                · obtain ⟨l, e1, e2, e3⟩ := fits_cases (a := a) (b := b) (c := c) (by omega) (by omega) (by omega) (show 19 ≤ most by omega)
                  rw [e1] at FT
                  clear e1
                  go_wp2_with fail
                  refine FT.out.mono ?_
                  rintro e w2 ⟨v, rfl, ho2, b2⟩
                  replace ho2 : OwnE encB 5 wr.heap.size v l w2 := ho2
                  obtain ⟨av, cv, rfl⟩ := own_len ho2
                  have K2 := Lib.hid (KH.out.below b2)
                  have L2 := Lib.hid (LW.below b2)
                  have B2 := Lib.hid (BW.out.trans (b2.mono BW.out.size))
                  have D := Lib.hid (decode_any l _ w2 (readB_own ho2) (capOk_own ho2) (by omega))
                  unfold DecRet at D
                  obtain ⟨n, hn⟩ : ∃ n, l.length = n := ⟨_, rfl⟩
                  rw [hn] at D e2 ⊢
                  clear ho2 b2 LW KH BW FT hn c0 c1 c2 c3 c4 c5 c6 c7 c8 c9 c10 c11 c12 c13
                  rcases e3 with ⟨h1, e3⟩ | ⟨h1, h2, e3⟩ | ⟨h1, h2, h3, e3⟩ | ⟨h1, h2, h3, e3⟩
                  · rw [e3] at D
                    clear e3
                    go_wp2_with fail
                    refine D.out.mono ?_
                    rintro e w8 ⟨vq8, va8, vn8, vd8, rfl, hL8, b8⟩
                    have B8 := Lib.hid (B2.out.trans (b8.mono B2.out.size))
                    have L8 := Lib.hid (L2.out.below b8)
                    have K8 := K2.out.below b8
                    obtain ⟨a08, c08, a18, c18, a28, c28, a38, c38, rfl, rfl, rfl, rfl⟩ := lists_form hL8
                    rw [show (Ms.oneOf a b c false 0 false).an.length = a from List.length_replicate, show (Ms.oneOf a b c false 0 false).ns.length = b from List.length_replicate, show (Ms.oneOf a b c false 0 false).ad.length = c from List.length_replicate] at hL8
                    have LX := Lib.hid hL8
                    have r0 := fun o => (K8.alloc o).cell (i := 0) (v := .int .i64 5) rfl
                    have r1 := fun o => (K8.alloc o).cell (i := 1) (v := .bool false) rfl
                    have r2 := fun o => (K8.alloc o).cell (i := 2) (v := .int .i64 0) rfl
                    have r3 := fun o => (K8.alloc o).cell (i := 3) (v := .bool false) rfl
                    have r4 := fun o => (K8.alloc o).cell (i := 4) (v := .bool false) rfl
                    have r5 := fun o => (K8.alloc o).cell (i := 5) (v := .bool true) rfl
                    have r6 := fun o => (K8.alloc o).cell (i := 6) (v := .bool false) rfl
                    have r7 := fun o => (K8.alloc o).cell (i := 7) (v := .int .i64 0) rfl
                    have r8 := fun o => (K8.alloc o).cell (i := 8) (v := .slice aq 1 cq) rfl
                    have r9 := fun o => (K8.alloc o).cell (i := 9) (v := .slice ao0 a cp0) rfl
                    have r10 := fun o => (K8.alloc o).cell (i := 10) (v := .slice ao1 b cp1) rfl
                    have r11 := fun o => (K8.alloc o).cell (i := 11) (v := .slice ao2 c cp2) rfl
                    have r12 := fun o => (K8.alloc o).cell (i := 12) (v := .bool false) rfl
                    have r13 := fun o => (K8.alloc o).cell (i := 13) (v := .int .i64 0) rfl
                    clear hL8 b8 K8 D
                    simp only [msgV, errOf_true, Ms.oneOf, List.length_replicate, List.length_nil, List.length_cons, Nat.zero_add] at r0 ⊢
                    go_wp2_with fail
                    refine (message_same (Ms.oneOf a b c false 0 false) (.slice a08 1 c08) (.slice a18 a c18) (.slice a28 b c28) (.slice a38 c c38) (.slice aq 1 cq) (.slice ao0 a cp0) (.slice ao1 b cp1) (.slice ao2 c cp2) _ (LX.out.below ((Below.refl _ _).alloc (Nat.le_refl _) _)) (L8.out.below ((Below.refl _ _).alloc (Nat.le_refl _) _)) (short_oneOf (by omega) (by omega) (by omega) false 0 false)).mono ?_
                    rintro e w9 ⟨rfl, b9⟩
                    have B9 := Lib.hid ((B8.out.alloc B8.out.size _).trans (b9.mono ((B8.out.alloc B8.out.size _)).size))
                    clear b9 r0 r1 r2 r3 r4 r5 r6 r7 r8 r9 r10 r11 r12 r13
                    go_wp2_with fail
                    refine (HAW.out _).mono ?_
                    rintro e w11 ⟨rfl, b11⟩
                    go_wp2_with fail
                    go_ret
                    exact ⟨rfl, B9.out.trans (b11.mono B9.out.size)⟩
                  · rw [e3] at D
                    clear e3
                    go_wp2_with fail
                    refine D.out.mono ?_
                    rintro e w8 ⟨vq8, va8, vn8, vd8, rfl, hL8, b8⟩
                    have B8 := Lib.hid (B2.out.trans (b8.mono B2.out.size))
                    have L8 := Lib.hid (L2.out.below b8)
                    have K8 := K2.out.below b8
                    obtain ⟨a08, c08, a18, c18, a28, c28, a38, c38, rfl, rfl, rfl, rfl⟩ := lists_form hL8
                    rw [show (Ms.oneOf a b 0 false 0 true).an.length = a from List.length_replicate, show (Ms.oneOf a b 0 false 0 true).ns.length = b from List.length_replicate, show (Ms.oneOf a b 0 false 0 true).ad.length = 0 from List.length_replicate] at hL8
                    have LX := Lib.hid hL8
                    clear hL8 b8 K8 D L8 LX
                    simp only [msgV, errOf_true, Ms.oneOf, List.length_replicate, List.length_nil, List.length_cons, Nat.zero_add]
                    go_wp2_with fail
                    refine (HAW.out _).mono ?_
                    rintro e w11 ⟨rfl, b11⟩
                    go_wp2_with fail
                    go_ret
                    exact ⟨rfl, (B8.out.alloc B8.out.size _).trans (b11.mono ((B8.out.alloc B8.out.size _)).size)⟩
                  · rw [e3] at D
                    clear e3
                    go_wp2_with fail
                    refine D.out.mono ?_
                    rintro e w8 ⟨vq8, va8, vn8, vd8, rfl, hL8, b8⟩
                    have B8 := Lib.hid (B2.out.trans (b8.mono B2.out.size))
                    have L8 := Lib.hid (L2.out.below b8)
                    have K8 := K2.out.below b8
                    obtain ⟨a08, c08, a18, c18, a28, c28, a38, c38, rfl, rfl, rfl, rfl⟩ := lists_form hL8
                    rw [show (Ms.oneOf a 0 0 false 0 true).an.length = a from List.length_replicate, show (Ms.oneOf a 0 0 false 0 true).ns.length = 0 from List.length_replicate, show (Ms.oneOf a 0 0 false 0 true).ad.length = 0 from List.length_replicate] at hL8
                    have LX := Lib.hid hL8
                    clear hL8 b8 K8 D L8 LX
                    simp only [msgV, errOf_true, Ms.oneOf, List.length_replicate, List.length_nil, List.length_cons, Nat.zero_add]
                    go_wp2_with fail
                    refine (HAW.out _).mono ?_
                    rintro e w11 ⟨rfl, b11⟩
                    go_wp2_with fail
                    go_ret
                    exact ⟨rfl, (B8.out.alloc B8.out.size _).trans (b11.mono ((B8.out.alloc B8.out.size _)).size)⟩
                  · rw [e3] at D
                    clear e3
                    go_wp2_with fail
                    refine D.out.mono ?_
                    rintro e w8 ⟨vq8, va8, vn8, vd8, rfl, hL8, b8⟩
                    have B8 := Lib.hid (B2.out.trans (b8.mono B2.out.size))
                    have L8 := Lib.hid (L2.out.below b8)
                    have K8 := K2.out.below b8
                    obtain ⟨a08, c08, a18, c18, a28, c28, a38, c38, rfl, rfl, rfl, rfl⟩ := lists_form hL8
                    rw [show (Ms.oneOf 0 0 0 false 0 true).an.length = 0 from List.length_replicate, show (Ms.oneOf 0 0 0 false 0 true).ns.length = 0 from List.length_replicate, show (Ms.oneOf 0 0 0 false 0 true).ad.length = 0 from List.length_replicate] at hL8
                    have LX := Lib.hid hL8
                    clear hL8 b8 K8 D L8 LX
                    simp only [msgV, errOf_true, Ms.oneOf, List.length_replicate, List.length_nil, List.length_cons, Nat.zero_add]
                    go_wp2_with fail
                    refine (HAW.out _).mono ?_
                    rintro e w11 ⟨rfl, b11⟩
                    go_wp2_with fail
                    go_ret
                    exact ⟨rfl, (B8.out.alloc B8.out.size _).trans (b11.mono ((B8.out.alloc B8.out.size _)).size)⟩
  all_goals
    go_enter Try.func8, Try.ntmps8
    go_wp2_with fail
    refine (HAW.out _).mono ?_
    rintro e w1 ⟨rfl, b1⟩
    go_wp2_with fail
    go_ret
    exact ⟨rfl, b1⟩
end Go.Proofs.Ytfmghbmbahembaa

/- MessageFits of package freshetlaw4 (what fits is told whole; else what is least needed goes first and the message says that it is cut; what is told is never longer than it may be) returns true at every four ints.
   Conditions: those of the row, none beside. -/
namespace Go.Proofs.Ytfmghbmbahembaa.messageFits
open Go.ChangeShapes Go.WideShapes Go.ChangeAt Go.RowKit

set_option maxRecDepth 100000 in
theorem contract (H : Type) (enc : TypeId × Value → H) (W : World) (base : Nat) (args : Array Value) (ds gs : List (DataW H)) (before : List MemPlace)
    (hval : ∀ (j : Nat) t v, Try.f8.params[j]? = some t → args[j]? = some v → Value.okWide Try.prog W .any base t v)
    (hW : DataW.Whole enc Try.prog Try.f8.params.toList Rows.messageFitsSpec.vars false W args.toList ds gs before) (_hL : laidMetH Try.prog laidList W) :
    Calls Try.prog 8 args W fun e W' => ∃ v, e = .returned v ∧ Rows.messageFitsSpec.post enc Try.prog Try.f8 false true false false W args v W' := by
  have hW' := hW
  obtain ⟨p, q, hA0, hV, rfl, _, _⟩ := hW
  have hA : DataW.TrodAll enc Try.prog W 0 (fun _ => true) true Try.f8.params.toList args.toList ds p := hA0
  clear hA0
  rw [Try.params8] at hA hval
  obtain ⟨v0, vs0, d0, ds0, p0, q0, hargs0, rfl, rfl, h0, r0⟩ := trodAll_cons hA
  obtain ⟨v1, vs1, d1, ds1, p1, q1, hargs1, rfl, rfl, h1, r1⟩ := trodAll_cons r0
  subst hargs1
  obtain ⟨v2, vs2, d2, ds2, p2, q2, hargs2, rfl, rfl, h2, r2⟩ := trodAll_cons r1
  subst hargs2
  obtain ⟨v3, vs3, d3, ds3, p3, q3, hargs3, rfl, rfl, h3, r3⟩ := trodAll_cons r2
  subst hargs3
  obtain ⟨rfl, rfl, rfl⟩ := trodAll_nil r3
  obtain rfl : args = #[v0, v1, v2, v3] := by cases args; simp_all
  obtain ⟨rfl, rfl⟩ := trodVars_none hV
  obtain ⟨z0, rfl, hz0⟩ := arg_int (hval 0 _ _ rfl rfl) h0
  obtain ⟨z1, rfl, hz1⟩ := arg_int (hval 1 _ _ rfl rfl) h1
  obtain ⟨z2, rfl, hz2⟩ := arg_int (hval 2 _ _ rfl rfl) h2
  obtain ⟨z3, rfl, hz3⟩ := arg_int (hval 3 _ _ rfl rfl) h3
  refine (msgFits_any awake_any z0 z1 z2 z3 W).mono fun e W' ⟨he, hbl⟩ => ?_
  exact ⟨_, he, law_post hW' rfl hbl rfl rfl (fun t ht => readT t (by rw [Try.params8] at ht; exact (show ∀ t ∈ (#[3, 3, 3, 3] : Array TypeId).toList, t ∈ [9, 3, 4, 22, 27] by decide) t ht))⟩

set_option maxRecDepth 100000 in
theorem reads (os : Os) {H : Type} (enc : TypeId × Value → H) : ∃ places, DataW.whole enc Try.prog ((laidWorld os).forCall (fun _ _ => 0) ⟨#[], #[.int .i64 0, .int .i64 0, .int .i64 0, .int .i64 0], []⟩).memory Try.f8.params.toList Rows.messageFitsSpec.vars false (#[.int .i64 0, .int .i64 0, .int .i64 0, .int .i64 0] : Array Value).toList 8 = some ([.lit (.int .i64 0), .lit (.int .i64 0), .lit (.int .i64 0), .lit (.int .i64 0)], [], places) :=
  ⟨[], by kernel_rfl⟩

set_option maxRecDepth 100000 in
theorem lifted (os : Os) (started : os.Started) (H : Type) (enc : TypeId × Value → H) (F : Stop.Interp) :
    ReturnsInHanded {} Try.checked os 8 .any ((OpenSpec.ofChange Rows.messageFitsSpec).preRow enc Try.prog Try.f8 Rows.messageFitsRow.domain false Rows.messageFitsRow.laid) (((OpenSpec.ofChange Rows.messageFitsSpec).at F).post enc Try.prog Try.f8 false true false false) := by
  obtain ⟨places, hx⟩ := reads os enc
  refine returnsInHanded_of_row (C := Try.checked) (s := OpenSpec.ofChange Rows.messageFitsSpec) own started (by kernel_rfl) Try.func8
    (witness_row_atRef (enc := enc) (C := Try.checked) false (laidWorld os) #[.int .i64 0, .int .i64 0, .int .i64 0, .int .i64 0] rfl (by kernel_rfl) (by kernel_rfl) (by kernel_rfl)
      (OpenSpec.preRow_of_cond 8 hx (by kernel_rfl) (fun k hk => by cases hk) (by kernel_rfl) (laid_met os _))) ?_
  intro W base args ds gs before hval hW _ _ _ hL _ _
  exact contract H enc W base args ds gs before hval hW hL

theorem said : Rows.MessageFitsSaid :=
  OpenClaim.holds_of_cond 8 Try.f8 rfl rfl rfl rfl rfl rfl rfl ⟨rfl, rfl, rfl, rfl, rfl⟩ rfl rfl rfl rfl rfl (by kernel_rfl) Try.func8 (by kernel_rfl)
    (of_decide_eq_true (by kernel_rfl)) (by unfold Func.isWrapper; first | (rw [if_pos (by decide +kernel)]; kernel_rfl) | (rw [if_neg (by decide +kernel)]; exact ⟨rfl, rfl⟩))
    (fun os started H enc _ F => by rw [OpenClaim.pre_eq_preRow]; exact lifted os started H enc F)
end Go.Proofs.Ytfmghbmbahembaa.messageFits
