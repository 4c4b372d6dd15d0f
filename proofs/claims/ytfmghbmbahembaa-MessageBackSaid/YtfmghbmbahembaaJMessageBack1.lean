/- MessageBack of package freshetlaw4 (what was written is read as it was; cut off, it is none, but its head; turned anywhere it ends, and what is read may be written) returns true at every message and three ints.
   Conditions: those of the row, none beside. -/
import Derived.Test.YtfmghbmbahembaaJB38
import Derived.Test.YtfmghbmbahembaaJB39
import Derived.Test.YtfmghbmbahembaaJB22
import Derived.Test.YtfmghbmbahembaaJB18
import Derived.Test.YtfmghbmbahembaaJB23
import Derived.Test.YtfmghbmbahembaaJB40
/- append of a string, and slices of bytes that are read: for the laws of messages. -/
namespace Go.Proofs.Ytfmghbmbahembaa
open Go.RowKit Go.Shelf Go.Maps
attribute [local go_sem] Oper.semAt_some

theorem run_apdStr (w : World) (base : Nat) (ty : TypeId) (v : Value) (l : List UInt8) (hown : OwnE encB 5 base v l w) (news : List UInt8) (b1 : l.length + news.length ≤ 1000000) (hb : base ≤ w.heap.size) :
    ∃ v' w', (Builtin.append_ #[22, 9] ty #[v, .string ⟨news.toArray⟩]).run Try.prog w = .ok v' w' ∧ OwnE encB 5 base v' (l ++ news) w' ∧ w.grownBy w' v.ownBlock := by
  obtain ⟨i, hi, hz0, hz1, hz2⟩ := info_parts infoByte
  have hsz : (⟨news.toArray⟩ : ByteArray).size = news.length := by show news.toArray.size = _; simp
  obtain ⟨v', w', hrun, r1, r2, r3⟩ := Lib.run_append_own_string (P := Try.prog) w base 22 9 ty 5 i Try.underlying22 Try.underlying9 hi hz0 hz1 hz2 v l.length (l.map encB) hown ⟨news.toArray⟩ (by rw [hsz]; exact Nat.le_trans b1 (by unfold maxLen; decide)) (by rw [hsz]; omega) hb
  rw [hsz, strCells_enc] at r1
  exact ⟨v', w', hrun, by unfold OwnE; rw [List.map_append, List.length_append]; exact r1, r2⟩
theorem wpList_apdStr (w : World) {ops : Array Oper} {rest : List Oper} {o : Oper} {a : Act} {Q : Exit → Act → World → Prop} (hg : o.guard = none) (s x : Operand)
    (hop : o.op = Op.call { callee := Callee.builtin Builtin.append, args := #[s, x], argTypes := #[22, 9] })
    (base : Nat) (v : Value) (l : List UInt8) (hs : a.eval s = v) (hown : OwnE encB 5 base v l w) (news : List UInt8) (hx : a.eval x = .string ⟨news.toArray⟩)
    (b1 : l.length + news.length ≤ 1000000) (hb : base ≤ w.heap.size)
    (hK : ∀ v' w', OwnE encB 5 base v' (l ++ news) w' → Below base w w' → wpList Try.prog ops Q rest (a.put o.dst v') w') :
    wpList Try.prog ops Q (o :: rest) a w := by
  refine wpList_plain hg fun K hK' => ?_
  obtain ⟨v', w', hrun, r1, r2⟩ := run_apdStr w base o.type v l hown news b1 hb
  unfold Oper.wp
  simp [execOp, hop, resolve, invoke, builtin, hs, hx, hrun, Result.andThen]
  exact hK' _ _ (hK v' w' r1 ((Below.refl base w).grown r2 hb (fun k e => (World.ownsRow.lt hown k e).1)))
theorem step_apdStr {ops : Array Oper} {o : Oper} {a : Act} {w : World} {K : Act → World → Prop} {Q : Exit → Act → World → Prop} {E : Prop}
    (hg : o.guard = none) (s x : Operand) (hop : o.op = Op.call { callee := Callee.builtin Builtin.append, args := #[s, x], argTypes := #[22, 9] })
    (base : Nat) (v : Value) (l : List UInt8) (hs : a.eval s = v) (hown : OwnE encB 5 base v l w) (news : List UInt8) (hx : a.eval x = .string ⟨news.toArray⟩)
    (b1 : l.length + news.length ≤ 1000000) (hb : base ≤ w.heap.size)
    (hK : ∀ v' w', OwnE encB 5 base v' (l ++ news) w' → Below base w w' → K (a.put o.dst v') w') :
    if Region.wanted o (yielded ops a.tmps) = true then Oper.wp Try.prog o a w K Q else E := by
  have hw : Region.wanted o (yielded ops a.tmps) = true := by simp [Region.wanted, hg]
  rw [if_pos hw]
  obtain ⟨v', w', hrun, r1, r2⟩ := run_apdStr w base o.type v l hown news b1 hb
  unfold Oper.wp
  simp [execOp, hop, resolve, invoke, builtin, hs, hx, hrun, Result.andThen]
  exact hK v' w' r1 ((Below.refl base w).grown r2 hb (fun k e => (World.ownsRow.lt hown k e).1))
theorem step_apdB {ops : Array Oper} {o : Oper} {a : Act} {w : World} {K : Act → World → Prop} {Q : Exit → Act → World → Prop} {E : Prop}
    (hg : o.guard = none) (s x : Operand) (hop : o.op = Op.call { callee := Callee.builtin Builtin.append, args := #[s, x], argTypes := #[22, 22] })
    (base : Nat) (v : Value) (l : List UInt8) (hs : a.eval s = v) (hown : OwnE encB 5 base v l w) (xv : Value) (news : List UInt8) (hx : a.eval x = xv) (hr : ReadB xv news w)
    (b1 : l.length + news.length ≤ 1000000) (hb : base ≤ w.heap.size)
    (hK : ∀ v' w', OwnE encB 5 base v' (l ++ news) w' → Below base w w' → K (a.put o.dst v') w') :
    if Region.wanted o (yielded ops a.tmps) = true then Oper.wp Try.prog o a w K Q else E := by
  have hw : Region.wanted o (yielded ops a.tmps) = true := by simp [Region.wanted, hg]
  rw [if_pos hw]
  obtain ⟨v', w', hrun, r1, r2, _⟩ := run_apdB (P := Try.prog) w base 22 o.type 5 Try.underlying22 infoByte v l hown xv news hr b1 hb
  unfold Oper.wp
  simp [execOp, hop, resolve, invoke, builtin, hs, hx, hrun, Result.andThen]
  exact hK v' w' r1 r2.below

theorem readB_drop {g off n cap k : Nat} {l : List UInt8} {W : World} (h : ReadB (.slice (some ⟨g, off, none⟩) n cap) l W) (hk : k ≤ l.length) (c' : Nat) : ReadB (.slice (some ⟨g, off + k, none⟩) (n - k) c') (l.drop k) W := by
  obtain ⟨ao, c, e, hc⟩ := h.form
  cases e
  refine ⟨_, c', by rw [List.length_drop], fun j hj => ⟨g, off + k, rfl, ?_⟩⟩
  rw [List.length_drop] at hj
  obtain ⟨b, o, e, h1⟩ := hc (k + j) (by omega)
  cases e
  rw [List.getElem_drop, Nat.add_assoc]
  exact h1
theorem readB_take {g off n cap k : Nat} {l : List UInt8} {W : World} (h : ReadB (.slice (some ⟨g, off, none⟩) n cap) l W) (hk : k ≤ l.length) (c' : Nat) : ReadB (.slice (some ⟨g, off, none⟩) k c') (l.take k) W := by
  obtain ⟨ao, c, e, hc⟩ := h.form
  cases e
  refine ⟨_, c', by rw [List.length_take, Nat.min_eq_left hk], fun j hj => ⟨g, off, rfl, ?_⟩⟩
  rw [List.length_take] at hj
  obtain ⟨b, o, e, h1⟩ := hc j (by omega)
  cases e
  rw [List.getElem_take]
  exact h1
theorem ownE_new0 (W : World) (base : Nat) (hb : base ≤ W.heap.size) : OwnE encB 5 base (.slice (some ⟨W.heap.size, 0, none⟩) 0 0) [] (W.alloc (.cells #[] 5)) :=
  ⟨rfl, .inr ⟨W.heap.size, 0, #[], rfl, hb, World.alloc_heap_new W _, Nat.le_refl _, by decide, rfl, rfl⟩⟩
end Go.Proofs.Ytfmghbmbahembaa

/- MessageCounts, MessageNames: the mathematics. -/
namespace Go.Proofs.Ytfmghbmbahembaa.Ms
open Go.Proofs.Ytfmghbmbahembaa

theorem head_pre {m : M} (hc : check m = true) (hs : (wAll m).size ≤ 4096) : Pre (head m) (wAll m).out := by
  obtain ⟨_, _, _, _, hqs, han, hns, had⟩ := check_split hc
  unfold wAll at hs ⊢
  obtain ⟨k0, k1, k2⟩ := okw_head m
  obtain ⟨S0, e0⟩ : ∃ S0, (WS.new 4096).put (head m) = S0 := ⟨_, rfl⟩
  rw [e0] at k0 k1 k2 hs ⊢
  have m1 := wQs_mono m.qs S0
  have m2 := wRs_mono m.an (m.qs.foldl wQ S0)
  have m3 := wRs_mono m.ns (m.an.foldl wR (m.qs.foldl wQ S0))
  have m4 := wRs_mono m.ad (m.ns.foldl wR (m.an.foldl wR (m.qs.foldl wQ S0)))
  have m5 := wE_mono (m.ad.foldl wR (m.ns.foldl wR (m.an.foldl wR (m.qs.foldl wQ S0)))) m
  obtain ⟨a1, a2, _⟩ := wQs_read m.qs k0 hqs (by omega)
  obtain ⟨b1, b2, _⟩ := wRs_read 0 m.an a1 han.2 (by omega)
  obtain ⟨c1, c2, _⟩ := wRs_read 1 m.ns b1 hns.2 (by omega)
  obtain ⟨d1, d2, _⟩ := wRs_read 2 m.ad c1 had.2 (by omega)
  rw [← k2]
  refine ((a2.trans b2).trans (c2.trans d2)).trans ?_
  unfold wE at hs ⊢
  cases he : m.edns with
  | false => exact Pre.refl _
  | true =>
    rw [he] at hs
    obtain ⟨p1, p2, p3⟩ := okw_put d1 (x := opt m.size) (by rw [opt_len]; exact hs)
    show Pre _ (WS.put _ _).out
    rw [p3]
    exact pre_app _ _
theorem cnt_bytes {a b c : Nat} {e : Bool} (ha : a ≤ 64) (hb : b ≤ 64) (hc : c ≤ 64) {l : List UInt8} (hl : l = (wAll (oneOf a b c e 0 false)).out) (hck : check (oneOf a b c e 0 false) = true) (hs : (wAll (oneOf a b c e 0 false)).size ≤ 4096) :
    (l.getD 7 0).toNat = a ∧ (l.getD 9 0).toNat = b ∧ (l.getD 11 0).toNat = c + (if e then 1 else 0) := by
  have hp := head_pre hck hs
  rw [← hl] at hp
  have e0 : head (oneOf a b c e 0 false) = two 5 ++ two (flags (oneOf a b c e 0 false)) ++ two 1 ++ two ((a : Nat) : Int) ++ two ((b : Nat) : Int) ++ two ((c : Int) + bit e 1) := by
    unfold head oneOf
    simp only [List.length_replicate, List.length_cons, List.length_nil]
    rfl
  rw [e0] at hp
  have p3 := hp
  have p2 := (pre_app _ _).trans p3
  have p1 := (pre_app _ _).trans p2
  have t1 := two_bytes p1 (by omega) (by omega)
  have t2 := two_bytes p2 (by omega) (by omega)
  have hbit : bit e 1 = if e then 1 else 0 := by cases e <;> rfl
  have t3 := two_bytes p3 (by cases e <;> simp [hbit] <;> omega) (by cases e <;> simp [hbit] <;> omega)
  have l1 : (two 5 ++ two (flags (oneOf a b c e 0 false)) ++ two 1).length = 6 := rfl
  have l2 : (two 5 ++ two (flags (oneOf a b c e 0 false)) ++ two 1 ++ two ((a : Nat) : Int)).length = 8 := rfl
  have l3 : (two 5 ++ two (flags (oneOf a b c e 0 false)) ++ two 1 ++ two ((a : Nat) : Int) ++ two ((b : Nat) : Int)).length = 10 := rfl
  rw [l1, show (6 : Nat) + 1 = 7 from rfl] at t1
  rw [l2, show (8 : Nat) + 1 = 9 from rfl] at t2
  rw [l3, hbit, show (10 : Nat) + 1 = 11 from rfl] at t3
  have u1 := (l.getD 7 0).toNat_lt
  have u2 := (l.getD 9 0).toNat_lt
  have u3 := (l.getD 11 0).toNat_lt
  refine ⟨by omega, by omega, ?_⟩
  cases e
  · simp only [Bool.false_eq_true, if_false] at t3 ⊢; omega
  · simp only [if_true] at t3 ⊢; omega
theorem oneOf_all {a b c : Nat} (ha : a ≤ 64) (hb : b ≤ 64) (hc : c ≤ 64) (e : Bool) : check (oneOf a b c e 0 false) = true ∧ (wAll (oneOf a b c e 0 false)).size = 19 + 15 * (a + b + c) + (if e then 11 else 0) ∧ enc (oneOf a b c e 0 false) = ((wAll (oneOf a b c e 0 false)).out, 0) ∧ (wAll (oneOf a b c e 0 false)).out.length = 19 + 15 * (a + b + c) + (if e then 11 else 0) ∧ dec (wAll (oneOf a b c e 0 false)).out = (oneOf a b c e 0 false, true, true) := by
  have hck : check (oneOf a b c e 0 false) = true := by
    rw [oneOf_check a b c ⟨by omega, by omega⟩ (.inl rfl) false, decide_eq_true_eq]; exact ⟨ha, hb, hc⟩
  have hz := oneOf_size a b c e 0 false
  have hs : (wAll (oneOf a b c e 0 false)).size ≤ 4096 := by rw [hz]; split <;> omega
  obtain ⟨_, h2, h3, h4, h5⟩ := back hck hs
  refine ⟨hck, hz, (enc_yes hck hs).1, by rw [h2, hz], ?_⟩
  unfold dec
  rw [if_neg (by omega), h4]
end Go.Proofs.Ytfmghbmbahembaa.Ms

/- message.Fit is the mathematics' fit, of a message of few and short records. -/
namespace Go.Proofs.Ytfmghbmbahembaa
open Go.RowKit Go.Shelf Go.Maps
attribute [local go_sem] Oper.semAt_some

theorem own_len {v : Value} {l : List UInt8} {base : Nat} {W : World} (h : OwnE encB 5 base v l W) : ∃ ao cp, v = .slice ao l.length cp := by
  rcases ownE_form h with ⟨rfl, rfl⟩ | ⟨g, cap, rfl⟩
  · exact ⟨none, 0, rfl⟩
  · exact ⟨_, _, rfl⟩
theorem slim_drops {m : Ms.M} (h : Slim m) (k : Nat) : Slim (Ms.drops m k) := by
  unfold Ms.drops
  split
  · exact ⟨h.qs, h.names, h.an, h.ns, few_nil _⟩
  · exact ⟨h.qs, h.names, h.an, few_nil _, few_nil _⟩
  · exact ⟨h.qs, h.names, few_nil _, few_nil _, few_nil _⟩
theorem few_drops {m : Ms.M} (h : FewR m.an 3000 ∧ FewR m.ns 3000 ∧ FewR m.ad 3000) (k : Nat) : FewR (Ms.drops m k).an 3000 ∧ FewR (Ms.drops m k).ns 3000 ∧ FewR (Ms.drops m k).ad 3000 := by
  unfold Ms.drops
  split
  · exact ⟨h.1, h.2.1, few_nil _⟩
  · exact ⟨h.1, few_nil _, few_nil _⟩
  · exact ⟨few_nil _, few_nil _, few_nil _⟩
def fitRest : Nat → List Nat
  | 0 => [0, 1, 2]
  | 1 => [1, 2]
  | 2 => [2]
  | _ => []
def FitRet (m : Ms.M) (most : Int) (w : World) (e : Ending) (w' : World) : Prop := ∃ v, e = .returned (.tuple #[v, .int .i64 (Ms.fit m most).2]) ∧ OwnE encB 5 w.heap.size v (Ms.fit m most).1 w' ∧ Below w.heap.size w w'
def fitCells (m : Ms.M) (vq va vn vd : Value) (k : Nat) : Array Value := match k with
  | 0 => #[.int .i64 m.id, .bool m.resp, .int .i64 m.opc, .bool m.auth, .bool true, .bool m.des, .bool m.avl, .int .i64 m.code, vq, va, vn, vd, .bool m.edns, .int .i64 m.size]
  | 1 => #[.int .i64 m.id, .bool m.resp, .int .i64 m.opc, .bool m.auth, .bool true, .bool m.des, .bool m.avl, .int .i64 m.code, vq, va, vn, (.slice none 0 0), .bool m.edns, .int .i64 m.size]
  | 2 => #[.int .i64 m.id, .bool m.resp, .int .i64 m.opc, .bool m.auth, .bool true, .bool m.des, .bool m.avl, .int .i64 m.code, vq, va, (.slice none 0 0), (.slice none 0 0), .bool m.edns, .int .i64 m.size]
  | _ => #[.int .i64 m.id, .bool m.resp, .int .i64 m.opc, .bool m.auth, .bool true, .bool m.des, .bool m.avl, .int .i64 m.code, vq, (.slice none 0 0), (.slice none 0 0), (.slice none 0 0), .bool m.edns, .int .i64 m.size]

set_option maxRecDepth 100000 in
set_option maxHeartbeats 8000000 in
theorem fit_any (m : Ms.M) (vq va vn vd : Value) (most : Int) (w : World) (hL : Lists m vq va vn vd w) (hs : Slim m) (h3 : FewR m.an 3000 ∧ FewR m.ns 3000 ∧ FewR m.ad 3000) :
    Calls Try.prog 24 #[msgV m vq va vn vd, .int .i64 most] w (FitRet m most w) := by
  have HL := Lib.hid hL
  have HS := Lib.hid hs
  have H3 := Lib.hid h3
  obtain ⟨aq, cq, rfl, _⟩ := hL.qs.form
  obtain ⟨aa, ca, rfl, _⟩ := hL.an.form
  obtain ⟨an, cn, rfl, _⟩ := hL.ns.form
  obtain ⟨ad, cd, rfl, _⟩ := hL.ad.form
  clear hL hs h3
  obtain ⟨w0, hw0⟩ : ∃ w0, w.alloc (.cells #[.int .i64 m.id, .bool m.resp, .int .i64 m.opc, .bool m.auth, .bool m.cut, .bool m.des, .bool m.avl, .int .i64 m.code, (.slice aq m.qs.length cq), (.slice aa m.an.length ca), (.slice an m.ns.length cn), (.slice ad m.ad.length cd), .bool m.edns, .int .i64 m.size] 27) = w0 := ⟨_, rfl⟩
  have hb0 : Below w.heap.size w w0 := by rw [← hw0]; exact (Below.refl _ _).alloc (Nat.le_refl _) _
  have hsz0 : w0.heap.size = w.heap.size + 1 := by rw [← hw0]; simp
  have K0 : Hid (Block w0 w.heap.size #[.int .i64 m.id, .bool m.resp, .int .i64 m.opc, .bool m.auth, .bool m.cut, .bool m.des, .bool m.avl, .int .i64 m.code, (.slice aq m.qs.length cq), (.slice aa m.an.length ca), (.slice an m.ns.length cn), (.slice ad m.ad.length cd), .bool m.edns, .int .i64 m.size] 27) := Lib.hid (by rw [← hw0]; exact Block.new _ _ _)
  have EM := Lib.hid (enc_any m _ _ _ _ w0 (HL.out.below hb0) HS.out H3.out.1 H3.out.2.1 H3.out.2.2)
  have HW0 := Lib.hid hw0
  unfold EncRet at EM
  unfold msgV at EM ⊢
  obtain ⟨l, c, hlc⟩ : ∃ l c, Ms.enc m = (l, c) := ⟨_, _, rfl⟩
  have HFT : Hid (Ms.fit m most = if c = 1 then ([], 1) else if c = 0 ∧ (l.length : Int) ≤ most then (l, 0) else Ms.fitF m most [0, 1, 2]) := Lib.hid (by unfold Ms.fit; rw [hlc])
  rw [hlc] at EM
  simp only at EM
  clear hw0 hlc
  go_enter Try.func24, Try.ntmps24
  go_wp2_with fail
  rw [HW0.out]
  refine EM.out.mono ?_
  rintro e w2 ⟨v, rfl, ho, b2⟩
  obtain ⟨av, cv, rfl⟩ := own_len ho
  have K2 := Lib.hid (K0.out.below b2)
  have B2 := Lib.hid (hb0.trans (b2.mono hb0.size))
  have HO := Lib.hid (show OwnE encB 5 w.heap.size _ l w2 from ownE_lower ho (by omega))
  clear ho b2 hb0 hsz0 EM K0 HW0
  by_cases hc1 : c = 1
  · subst hc1
    have HF3 : Hid (Ms.fit m most = ([], 1)) := Lib.hid (by rw [HFT.out, if_pos rfl])
    go_wp2_with fail
    refine bodyPost_ret (results_tmp2 rfl _ _ _) rfl ?_
    refine ⟨.slice none 0 0, ?_, ?_, B2.out⟩
    · rw [HF3.out]; rfl
    · rw [HF3.out]; exact ownE_nil _ _ _ _
  have hb1 : (c == 1) = false := by rw [beq_eq_false_iff_ne]; exact hc1
  have hcs : (c = 0 ∧ (l.length : Int) ≤ most) ∨ (c = 0 ∧ most < (l.length : Int)) ∨ (c ≠ 0) := by omega
  rcases hcs with ⟨rfl, hle⟩ | ⟨rfl, hle⟩ | hc
  · have HF3 : Hid (Ms.fit m most = (l, 0)) := Lib.hid (by rw [HFT.out, if_neg (by decide), if_pos ⟨rfl, hle⟩])
    go_wp2_with fail
    refine bodyPost_ret (results_tmp2 rfl _ _ _) rfl ?_
    refine ⟨.slice av l.length cv, ?_, ?_, B2.out⟩
    · rw [HF3.out]; rfl
    · rw [HF3.out]; exact HO.out
  · have HF0 : Hid (Ms.fit m most = Ms.fitF m most (fitRest 0)) := Lib.hid (by rw [HFT.out, if_neg (by decide), if_neg (fun h => by omega)]; rfl)
    have c0 := K2.out.cell (i := 0) (v := .int .i64 m.id) rfl
    have c1 := K2.out.cell (i := 1) (v := .bool m.resp) rfl
    have c2 := K2.out.cell (i := 2) (v := .int .i64 m.opc) rfl
    have c3 := K2.out.cell (i := 3) (v := .bool m.auth) rfl
    have c4 := K2.out.cell (i := 4) (v := .bool m.cut) rfl
    have c5 := K2.out.cell (i := 5) (v := .bool m.des) rfl
    have c6 := K2.out.cell (i := 6) (v := .bool m.avl) rfl
    have c7 := K2.out.cell (i := 7) (v := .int .i64 m.code) rfl
    have c8 := K2.out.cell (i := 8) (v := (.slice aq m.qs.length cq)) rfl
    have c9 := K2.out.cell (i := 9) (v := (.slice aa m.an.length ca)) rfl
    have c10 := K2.out.cell (i := 10) (v := (.slice an m.ns.length cn)) rfl
    have c11 := K2.out.cell (i := 11) (v := (.slice ad m.ad.length cd)) rfl
    have c12 := K2.out.cell (i := 12) (v := .bool m.edns) rfl
    have c13 := K2.out.cell (i := 13) (v := .int .i64 m.size) rfl
    have f4 := K2.out.frozen 4
    go_wp2_with fail
    have KS : Hid (Block (w2.setCell ⟨w.heap.size, 4, none⟩ (.bool true)) w.heap.size (fitCells m (.slice aq m.qs.length cq) (.slice aa m.an.length ca) (.slice an m.ns.length cn) (.slice ad m.ad.length cd) 0) 27) := Lib.hid (K2.out.set 4 (.bool true))
    have BS := Lib.hid (B2.out.setCell (p := ⟨w.heap.size, 4, none⟩) (Nat.le_refl _) (.bool true))
    clear K2 B2 HO HFT c0 c1 c2 c3 c4 c5 c6 c7 c8 c9 c10 c11 c12 c13 f4
    go_loopw [35] (fun i wx => ∃ k : Nat, i = .int .i64 (k : Int) ∧ k ≤ 3 ∧ Hid (Block wx w.heap.size (fitCells m (.slice aq m.qs.length cq) (.slice aa m.an.length ca) (.slice an m.ns.length cn) (.slice ad m.ad.length cd) k) 27) ∧ Hid (Below w.heap.size w wx) ∧ Hid (Ms.fit m most = Ms.fitF m most (fitRest k))) (fun i _ => 4 - (intOf i).toNat)
    case atStart => exact ⟨0, rfl, by omega, KS, BS, HF0⟩
    case round =>
      clear KS BS HF0
      obtain ⟨k, rfl, hk, hb, BR, hf⟩ := hrel
      have hkk : k = 0 ∨ k = 1 ∨ k = 2 ∨ k = 3 := by omega
      clear hk
      rcases hkk with rfl | rfl | rfl | rfl
      · have KB : Block wr w.heap.size #[.int .i64 m.id, .bool m.resp, .int .i64 m.opc, .bool m.auth, .bool true, .bool m.des, .bool m.avl, .int .i64 m.code, (.slice aq m.qs.length cq), (.slice aa m.an.length ca), (.slice an m.ns.length cn), (.slice ad m.ad.length cd), .bool m.edns, .int .i64 m.size] 27 := hb.out
        have c0 := KB.cell (i := 0) (v := .int .i64 m.id) rfl
        have c1 := KB.cell (i := 1) (v := .bool m.resp) rfl
        have c2 := KB.cell (i := 2) (v := .int .i64 m.opc) rfl
        have c3 := KB.cell (i := 3) (v := .bool m.auth) rfl
        have c4 := KB.cell (i := 4) (v := .bool true) rfl
        have c5 := KB.cell (i := 5) (v := .bool m.des) rfl
        have c6 := KB.cell (i := 6) (v := .bool m.avl) rfl
        have c7 := KB.cell (i := 7) (v := .int .i64 m.code) rfl
        have c8 := KB.cell (i := 8) (v := (.slice aq m.qs.length cq)) rfl
        have c9 := KB.cell (i := 9) (v := (.slice aa m.an.length ca)) rfl
        have c10 := KB.cell (i := 10) (v := (.slice an m.ns.length cn)) rfl
        have c11 := KB.cell (i := 11) (v := (.slice ad m.ad.length cd)) rfl
        have c12 := KB.cell (i := 12) (v := .bool m.edns) rfl
        have c13 := KB.cell (i := 13) (v := .int .i64 m.size) rfl
        have f0 := KB.frozen 11
        have ix := fun W => idx_p0 W (.pointer (some ⟨w.heap.size, 11, none⟩)) (.pointer (some ⟨w.heap.size, 10, none⟩)) (.pointer (some ⟨w.heap.size, 9, none⟩))
        have BX := Lib.hid (BR.out.setCell (p := ⟨w.heap.size, 11, none⟩) (Nat.le_refl _) (.slice none 0 0))
        have KX : Block (wr.setCell ⟨w.heap.size, 11, none⟩ (.slice none 0 0)) w.heap.size #[.int .i64 m.id, .bool m.resp, .int .i64 m.opc, .bool m.auth, .bool true, .bool m.des, .bool m.avl, .int .i64 m.code, (.slice aq m.qs.length cq), (.slice aa m.an.length ca), (.slice an m.ns.length cn), (.slice none 0 0), .bool m.edns, .int .i64 m.size] 27 := KB.set 11 (.slice none 0 0)
        have EK := Lib.hid (enc_any (Ms.drops m 0) (.slice aq m.qs.length cq) (.slice aa m.an.length ca) (.slice an m.ns.length cn) (.slice none 0 0) (wr.setCell ⟨w.heap.size, 11, none⟩ (.slice none 0 0)) ⟨(HL.out.below BX.out).qs, (HL.out.below BX.out).an, (HL.out.below BX.out).ns, readR_nil _⟩ (slim_drops HS.out 0) (few_drops H3.out 0).1 (few_drops H3.out 0).2.1 (few_drops H3.out 0).2.2)
        unfold EncRet at EK
        have HF2 : Hid (Ms.fit m most = if (Ms.enc (Ms.drops m 0)).2 = 0 ∧ ((Ms.enc (Ms.drops m 0)).1.length : Int) ≤ most then ((Ms.enc (Ms.drops m 0)).1, 0) else Ms.fitF m most [1, 2]) := Lib.hid hf.out
        obtain ⟨l, c, hlc⟩ : ∃ l c, Ms.enc (Ms.drops m 0) = (l, c) := ⟨_, _, rfl⟩
        rw [hlc] at EK HF2
        simp only at EK HF2
        have KX' := Lib.hid KX
        clear hlc KX KB hf hb
        by_cases hc : c = 0
        · subst hc
          by_cases hle : (l.length : Int) ≤ most
          · have HF3 : Hid (Ms.fit m most = (l, 0)) := Lib.hid (by rw [HF2.out, if_pos ⟨rfl, hle⟩])
            go_wp2_with fail
            refine EK.out.mono ?_
            rintro e w3 ⟨v, rfl, ho, b3⟩
            obtain ⟨av, cv, rfl⟩ := own_len ho
            have HO := Lib.hid (show OwnE encB 5 w.heap.size _ l w3 from ownE_lower ho (by have := BX.out.size; omega))
            have B3 := Lib.hid (BX.out.trans (b3.mono BX.out.size))
            clear ho b3
            go_wp2_with fail
            refine bodyPost_ret (results_tmp2 rfl _ _ _) rfl ?_
            refine ⟨.slice av l.length cv, ?_, ?_, B3.out⟩
            · rw [HF3.out]; rfl
            · rw [HF3.out]; exact HO.out
          · have hle' : most < (l.length : Int) := by omega
            have HF3 : Hid (Ms.fit m most = Ms.fitF m most [1, 2]) := Lib.hid (by rw [HF2.out, if_neg (fun h => by omega)])
            go_wp2_with fail
            refine EK.out.mono ?_
            rintro e w3 ⟨v, rfl, ho, b3⟩
            obtain ⟨av, cv, rfl⟩ := own_len ho
            have B3 := Lib.hid (BX.out.trans (b3.mono BX.out.size))
            have K3 := Lib.hid (KX'.out.below b3)
            clear ho b3
            go_wp2_with fail
            go_roundw
            case rel => exact ⟨1, by go_num, by omega, K3, B3, HF3⟩
            case measure => simp [intOf]
        · have hcb : (c == 0) = false := by rw [beq_eq_false_iff_ne]; exact hc
          have HF3 : Hid (Ms.fit m most = Ms.fitF m most [1, 2]) := Lib.hid (by rw [HF2.out, if_neg (fun h => hc h.1)])
          go_wp2_with fail
          refine EK.out.mono ?_
          rintro e w3 ⟨v, rfl, ho, b3⟩
          obtain ⟨av, cv, rfl⟩ := own_len ho
          have B3 := Lib.hid (BX.out.trans (b3.mono BX.out.size))
          have K3 := Lib.hid (KX'.out.below b3)
          clear ho b3
          go_wp2_with fail
          go_roundw
          case rel => exact ⟨1, by go_num, by omega, K3, B3, HF3⟩
          case measure => simp [intOf]
      · have KB : Block wr w.heap.size #[.int .i64 m.id, .bool m.resp, .int .i64 m.opc, .bool m.auth, .bool true, .bool m.des, .bool m.avl, .int .i64 m.code, (.slice aq m.qs.length cq), (.slice aa m.an.length ca), (.slice an m.ns.length cn), (.slice none 0 0), .bool m.edns, .int .i64 m.size] 27 := hb.out
        have c0 := KB.cell (i := 0) (v := .int .i64 m.id) rfl
        have c1 := KB.cell (i := 1) (v := .bool m.resp) rfl
        have c2 := KB.cell (i := 2) (v := .int .i64 m.opc) rfl
        have c3 := KB.cell (i := 3) (v := .bool m.auth) rfl
        have c4 := KB.cell (i := 4) (v := .bool true) rfl
        have c5 := KB.cell (i := 5) (v := .bool m.des) rfl
        have c6 := KB.cell (i := 6) (v := .bool m.avl) rfl
        have c7 := KB.cell (i := 7) (v := .int .i64 m.code) rfl
        have c8 := KB.cell (i := 8) (v := (.slice aq m.qs.length cq)) rfl
        have c9 := KB.cell (i := 9) (v := (.slice aa m.an.length ca)) rfl
        have c10 := KB.cell (i := 10) (v := (.slice an m.ns.length cn)) rfl
        have c11 := KB.cell (i := 11) (v := (.slice none 0 0)) rfl
        have c12 := KB.cell (i := 12) (v := .bool m.edns) rfl
        have c13 := KB.cell (i := 13) (v := .int .i64 m.size) rfl
        have f0 := KB.frozen 10
        have ix := fun W => idx_p1 W (.pointer (some ⟨w.heap.size, 11, none⟩)) (.pointer (some ⟨w.heap.size, 10, none⟩)) (.pointer (some ⟨w.heap.size, 9, none⟩))
        have BX := Lib.hid (BR.out.setCell (p := ⟨w.heap.size, 10, none⟩) (Nat.le_refl _) (.slice none 0 0))
        have KX : Block (wr.setCell ⟨w.heap.size, 10, none⟩ (.slice none 0 0)) w.heap.size #[.int .i64 m.id, .bool m.resp, .int .i64 m.opc, .bool m.auth, .bool true, .bool m.des, .bool m.avl, .int .i64 m.code, (.slice aq m.qs.length cq), (.slice aa m.an.length ca), (.slice none 0 0), (.slice none 0 0), .bool m.edns, .int .i64 m.size] 27 := KB.set 10 (.slice none 0 0)
        have EK := Lib.hid (enc_any (Ms.drops m 1) (.slice aq m.qs.length cq) (.slice aa m.an.length ca) (.slice none 0 0) (.slice none 0 0) (wr.setCell ⟨w.heap.size, 10, none⟩ (.slice none 0 0)) ⟨(HL.out.below BX.out).qs, (HL.out.below BX.out).an, readR_nil _, readR_nil _⟩ (slim_drops HS.out 1) (few_drops H3.out 1).1 (few_drops H3.out 1).2.1 (few_drops H3.out 1).2.2)
        unfold EncRet at EK
        have HF2 : Hid (Ms.fit m most = if (Ms.enc (Ms.drops m 1)).2 = 0 ∧ ((Ms.enc (Ms.drops m 1)).1.length : Int) ≤ most then ((Ms.enc (Ms.drops m 1)).1, 0) else Ms.fitF m most [2]) := Lib.hid hf.out
        obtain ⟨l, c, hlc⟩ : ∃ l c, Ms.enc (Ms.drops m 1) = (l, c) := ⟨_, _, rfl⟩
        rw [hlc] at EK HF2
        simp only at EK HF2
        have KX' := Lib.hid KX
        clear hlc KX KB hf hb
        by_cases hc : c = 0
        · subst hc
          by_cases hle : (l.length : Int) ≤ most
          · have HF3 : Hid (Ms.fit m most = (l, 0)) := Lib.hid (by rw [HF2.out, if_pos ⟨rfl, hle⟩])
            go_wp2_with fail
            refine EK.out.mono ?_
            rintro e w3 ⟨v, rfl, ho, b3⟩
            obtain ⟨av, cv, rfl⟩ := own_len ho
            have HO := Lib.hid (show OwnE encB 5 w.heap.size _ l w3 from ownE_lower ho (by have := BX.out.size; omega))
            have B3 := Lib.hid (BX.out.trans (b3.mono BX.out.size))
            clear ho b3
            go_wp2_with fail
            refine bodyPost_ret (results_tmp2 rfl _ _ _) rfl ?_
            refine ⟨.slice av l.length cv, ?_, ?_, B3.out⟩
            · rw [HF3.out]; rfl
            · rw [HF3.out]; exact HO.out
          · have hle' : most < (l.length : Int) := by omega
            have HF3 : Hid (Ms.fit m most = Ms.fitF m most [2]) := Lib.hid (by rw [HF2.out, if_neg (fun h => by omega)])
            go_wp2_with fail
            refine EK.out.mono ?_
            rintro e w3 ⟨v, rfl, ho, b3⟩
            obtain ⟨av, cv, rfl⟩ := own_len ho
            have B3 := Lib.hid (BX.out.trans (b3.mono BX.out.size))
            have K3 := Lib.hid (KX'.out.below b3)
            clear ho b3
            go_wp2_with fail
            go_roundw
            case rel => exact ⟨2, by go_num, by omega, K3, B3, HF3⟩
            case measure => simp [intOf]
        · have hcb : (c == 0) = false := by rw [beq_eq_false_iff_ne]; exact hc
          have HF3 : Hid (Ms.fit m most = Ms.fitF m most [2]) := Lib.hid (by rw [HF2.out, if_neg (fun h => hc h.1)])
          go_wp2_with fail
          refine EK.out.mono ?_
          rintro e w3 ⟨v, rfl, ho, b3⟩
          obtain ⟨av, cv, rfl⟩ := own_len ho
          have B3 := Lib.hid (BX.out.trans (b3.mono BX.out.size))
          have K3 := Lib.hid (KX'.out.below b3)
          clear ho b3
          go_wp2_with fail
          go_roundw
          case rel => exact ⟨2, by go_num, by omega, K3, B3, HF3⟩
          case measure => simp [intOf]
      · have KB : Block wr w.heap.size #[.int .i64 m.id, .bool m.resp, .int .i64 m.opc, .bool m.auth, .bool true, .bool m.des, .bool m.avl, .int .i64 m.code, (.slice aq m.qs.length cq), (.slice aa m.an.length ca), (.slice none 0 0), (.slice none 0 0), .bool m.edns, .int .i64 m.size] 27 := hb.out
        have c0 := KB.cell (i := 0) (v := .int .i64 m.id) rfl
        have c1 := KB.cell (i := 1) (v := .bool m.resp) rfl
        have c2 := KB.cell (i := 2) (v := .int .i64 m.opc) rfl
        have c3 := KB.cell (i := 3) (v := .bool m.auth) rfl
        have c4 := KB.cell (i := 4) (v := .bool true) rfl
        have c5 := KB.cell (i := 5) (v := .bool m.des) rfl
        have c6 := KB.cell (i := 6) (v := .bool m.avl) rfl
        have c7 := KB.cell (i := 7) (v := .int .i64 m.code) rfl
        have c8 := KB.cell (i := 8) (v := (.slice aq m.qs.length cq)) rfl
        have c9 := KB.cell (i := 9) (v := (.slice aa m.an.length ca)) rfl
        have c10 := KB.cell (i := 10) (v := (.slice none 0 0)) rfl
        have c11 := KB.cell (i := 11) (v := (.slice none 0 0)) rfl
        have c12 := KB.cell (i := 12) (v := .bool m.edns) rfl
        have c13 := KB.cell (i := 13) (v := .int .i64 m.size) rfl
        have f0 := KB.frozen 9
        have ix := fun W => idx_p2 W (.pointer (some ⟨w.heap.size, 11, none⟩)) (.pointer (some ⟨w.heap.size, 10, none⟩)) (.pointer (some ⟨w.heap.size, 9, none⟩))
        have BX := Lib.hid (BR.out.setCell (p := ⟨w.heap.size, 9, none⟩) (Nat.le_refl _) (.slice none 0 0))
        have KX : Block (wr.setCell ⟨w.heap.size, 9, none⟩ (.slice none 0 0)) w.heap.size #[.int .i64 m.id, .bool m.resp, .int .i64 m.opc, .bool m.auth, .bool true, .bool m.des, .bool m.avl, .int .i64 m.code, (.slice aq m.qs.length cq), (.slice none 0 0), (.slice none 0 0), (.slice none 0 0), .bool m.edns, .int .i64 m.size] 27 := KB.set 9 (.slice none 0 0)
        have EK := Lib.hid (enc_any (Ms.drops m 2) (.slice aq m.qs.length cq) (.slice none 0 0) (.slice none 0 0) (.slice none 0 0) (wr.setCell ⟨w.heap.size, 9, none⟩ (.slice none 0 0)) ⟨(HL.out.below BX.out).qs, readR_nil _, readR_nil _, readR_nil _⟩ (slim_drops HS.out 2) (few_drops H3.out 2).1 (few_drops H3.out 2).2.1 (few_drops H3.out 2).2.2)
        unfold EncRet at EK
        have HF2 : Hid (Ms.fit m most = if (Ms.enc (Ms.drops m 2)).2 = 0 ∧ ((Ms.enc (Ms.drops m 2)).1.length : Int) ≤ most then ((Ms.enc (Ms.drops m 2)).1, 0) else Ms.fitF m most []) := Lib.hid hf.out
        obtain ⟨l, c, hlc⟩ : ∃ l c, Ms.enc (Ms.drops m 2) = (l, c) := ⟨_, _, rfl⟩
        rw [hlc] at EK HF2
        simp only at EK HF2
        have KX' := Lib.hid KX
        clear hlc KX KB hf hb
        by_cases hc : c = 0
        · subst hc
          by_cases hle : (l.length : Int) ≤ most
          · have HF3 : Hid (Ms.fit m most = (l, 0)) := Lib.hid (by rw [HF2.out, if_pos ⟨rfl, hle⟩])
            go_wp2_with fail
            refine EK.out.mono ?_
            rintro e w3 ⟨v, rfl, ho, b3⟩
            obtain ⟨av, cv, rfl⟩ := own_len ho
            have HO := Lib.hid (show OwnE encB 5 w.heap.size _ l w3 from ownE_lower ho (by have := BX.out.size; omega))
            have B3 := Lib.hid (BX.out.trans (b3.mono BX.out.size))
            clear ho b3
            go_wp2_with fail
            refine bodyPost_ret (results_tmp2 rfl _ _ _) rfl ?_
            refine ⟨.slice av l.length cv, ?_, ?_, B3.out⟩
            · rw [HF3.out]; rfl
            · rw [HF3.out]; exact HO.out
          · have hle' : most < (l.length : Int) := by omega
            have HF3 : Hid (Ms.fit m most = Ms.fitF m most []) := Lib.hid (by rw [HF2.out, if_neg (fun h => by omega)])
            go_wp2_with fail
            refine EK.out.mono ?_
            rintro e w3 ⟨v, rfl, ho, b3⟩
            obtain ⟨av, cv, rfl⟩ := own_len ho
            have B3 := Lib.hid (BX.out.trans (b3.mono BX.out.size))
            have K3 := Lib.hid (KX'.out.below b3)
            clear ho b3
            go_wp2_with fail
            go_roundw
            case rel => exact ⟨3, by go_num, by omega, K3, B3, HF3⟩
            case measure => simp [intOf]
        · have hcb : (c == 0) = false := by rw [beq_eq_false_iff_ne]; exact hc
          have HF3 : Hid (Ms.fit m most = Ms.fitF m most []) := Lib.hid (by rw [HF2.out, if_neg (fun h => hc h.1)])
          go_wp2_with fail
          refine EK.out.mono ?_
          rintro e w3 ⟨v, rfl, ho, b3⟩
          obtain ⟨av, cv, rfl⟩ := own_len ho
          have B3 := Lib.hid (BX.out.trans (b3.mono BX.out.size))
          have K3 := Lib.hid (KX'.out.below b3)
          clear ho b3
          go_wp2_with fail
          go_roundw
          case rel => exact ⟨3, by go_num, by omega, K3, B3, HF3⟩
          case measure => simp [intOf]
      · have HF3 : Hid (Ms.fit m most = ([], 3)) := Lib.hid hf.out
        go_wp2_with fail
        refine bodyPost_ret (results_tmp2 rfl _ _ _) rfl ?_
        refine ⟨.slice none 0 0, ?_, ?_, BR.out⟩
        · rw [HF3.out]; rfl
        · rw [HF3.out]; exact ownE_nil _ _ _ _
  · have hb2 : (c == 0) = false := by rw [beq_eq_false_iff_ne]; exact hc
    have HF0 : Hid (Ms.fit m most = Ms.fitF m most (fitRest 0)) := Lib.hid (by rw [HFT.out, if_neg hc1, if_neg (fun h => hc h.1)]; rfl)
    have c0 := K2.out.cell (i := 0) (v := .int .i64 m.id) rfl
    have c1 := K2.out.cell (i := 1) (v := .bool m.resp) rfl
    have c2 := K2.out.cell (i := 2) (v := .int .i64 m.opc) rfl
    have c3 := K2.out.cell (i := 3) (v := .bool m.auth) rfl
    have c4 := K2.out.cell (i := 4) (v := .bool m.cut) rfl
    have c5 := K2.out.cell (i := 5) (v := .bool m.des) rfl
    have c6 := K2.out.cell (i := 6) (v := .bool m.avl) rfl
    have c7 := K2.out.cell (i := 7) (v := .int .i64 m.code) rfl
    have c8 := K2.out.cell (i := 8) (v := (.slice aq m.qs.length cq)) rfl
    have c9 := K2.out.cell (i := 9) (v := (.slice aa m.an.length ca)) rfl
    have c10 := K2.out.cell (i := 10) (v := (.slice an m.ns.length cn)) rfl
    have c11 := K2.out.cell (i := 11) (v := (.slice ad m.ad.length cd)) rfl
    have c12 := K2.out.cell (i := 12) (v := .bool m.edns) rfl
    have c13 := K2.out.cell (i := 13) (v := .int .i64 m.size) rfl
    have f4 := K2.out.frozen 4
    go_wp2_with fail
    have KS : Hid (Block (w2.setCell ⟨w.heap.size, 4, none⟩ (.bool true)) w.heap.size (fitCells m (.slice aq m.qs.length cq) (.slice aa m.an.length ca) (.slice an m.ns.length cn) (.slice ad m.ad.length cd) 0) 27) := Lib.hid (K2.out.set 4 (.bool true))
    have BS := Lib.hid (B2.out.setCell (p := ⟨w.heap.size, 4, none⟩) (Nat.le_refl _) (.bool true))
    clear K2 B2 HO HFT c0 c1 c2 c3 c4 c5 c6 c7 c8 c9 c10 c11 c12 c13 f4
    go_loopw [35] (fun i wx => ∃ k : Nat, i = .int .i64 (k : Int) ∧ k ≤ 3 ∧ Hid (Block wx w.heap.size (fitCells m (.slice aq m.qs.length cq) (.slice aa m.an.length ca) (.slice an m.ns.length cn) (.slice ad m.ad.length cd) k) 27) ∧ Hid (Below w.heap.size w wx) ∧ Hid (Ms.fit m most = Ms.fitF m most (fitRest k))) (fun i _ => 4 - (intOf i).toNat)
    case atStart => exact ⟨0, rfl, by omega, KS, BS, HF0⟩
    case round =>
      clear KS BS HF0
      obtain ⟨k, rfl, hk, hb, BR, hf⟩ := hrel
      have hkk : k = 0 ∨ k = 1 ∨ k = 2 ∨ k = 3 := by omega
      clear hk
      rcases hkk with rfl | rfl | rfl | rfl
      · have KB : Block wr w.heap.size #[.int .i64 m.id, .bool m.resp, .int .i64 m.opc, .bool m.auth, .bool true, .bool m.des, .bool m.avl, .int .i64 m.code, (.slice aq m.qs.length cq), (.slice aa m.an.length ca), (.slice an m.ns.length cn), (.slice ad m.ad.length cd), .bool m.edns, .int .i64 m.size] 27 := hb.out
        have c0 := KB.cell (i := 0) (v := .int .i64 m.id) rfl
        have c1 := KB.cell (i := 1) (v := .bool m.resp) rfl
        have c2 := KB.cell (i := 2) (v := .int .i64 m.opc) rfl
        have c3 := KB.cell (i := 3) (v := .bool m.auth) rfl
        have c4 := KB.cell (i := 4) (v := .bool true) rfl
        have c5 := KB.cell (i := 5) (v := .bool m.des) rfl
        have c6 := KB.cell (i := 6) (v := .bool m.avl) rfl
        have c7 := KB.cell (i := 7) (v := .int .i64 m.code) rfl
        have c8 := KB.cell (i := 8) (v := (.slice aq m.qs.length cq)) rfl
        have c9 := KB.cell (i := 9) (v := (.slice aa m.an.length ca)) rfl
        have c10 := KB.cell (i := 10) (v := (.slice an m.ns.length cn)) rfl
        have c11 := KB.cell (i := 11) (v := (.slice ad m.ad.length cd)) rfl
        have c12 := KB.cell (i := 12) (v := .bool m.edns) rfl
        have c13 := KB.cell (i := 13) (v := .int .i64 m.size) rfl
        have f0 := KB.frozen 11
        have ix := fun W => idx_p0 W (.pointer (some ⟨w.heap.size, 11, none⟩)) (.pointer (some ⟨w.heap.size, 10, none⟩)) (.pointer (some ⟨w.heap.size, 9, none⟩))
        have BX := Lib.hid (BR.out.setCell (p := ⟨w.heap.size, 11, none⟩) (Nat.le_refl _) (.slice none 0 0))
        have KX : Block (wr.setCell ⟨w.heap.size, 11, none⟩ (.slice none 0 0)) w.heap.size #[.int .i64 m.id, .bool m.resp, .int .i64 m.opc, .bool m.auth, .bool true, .bool m.des, .bool m.avl, .int .i64 m.code, (.slice aq m.qs.length cq), (.slice aa m.an.length ca), (.slice an m.ns.length cn), (.slice none 0 0), .bool m.edns, .int .i64 m.size] 27 := KB.set 11 (.slice none 0 0)
        have EK := Lib.hid (enc_any (Ms.drops m 0) (.slice aq m.qs.length cq) (.slice aa m.an.length ca) (.slice an m.ns.length cn) (.slice none 0 0) (wr.setCell ⟨w.heap.size, 11, none⟩ (.slice none 0 0)) ⟨(HL.out.below BX.out).qs, (HL.out.below BX.out).an, (HL.out.below BX.out).ns, readR_nil _⟩ (slim_drops HS.out 0) (few_drops H3.out 0).1 (few_drops H3.out 0).2.1 (few_drops H3.out 0).2.2)
        unfold EncRet at EK
        have HF2 : Hid (Ms.fit m most = if (Ms.enc (Ms.drops m 0)).2 = 0 ∧ ((Ms.enc (Ms.drops m 0)).1.length : Int) ≤ most then ((Ms.enc (Ms.drops m 0)).1, 0) else Ms.fitF m most [1, 2]) := Lib.hid hf.out
        obtain ⟨l, c, hlc⟩ : ∃ l c, Ms.enc (Ms.drops m 0) = (l, c) := ⟨_, _, rfl⟩
        rw [hlc] at EK HF2
        simp only at EK HF2
        have KX' := Lib.hid KX
        clear hlc KX KB hf hb
        by_cases hc : c = 0
        · subst hc
          by_cases hle : (l.length : Int) ≤ most
          · have HF3 : Hid (Ms.fit m most = (l, 0)) := Lib.hid (by rw [HF2.out, if_pos ⟨rfl, hle⟩])
            go_wp2_with fail
            refine EK.out.mono ?_
            rintro e w3 ⟨v, rfl, ho, b3⟩
            obtain ⟨av, cv, rfl⟩ := own_len ho
            have HO := Lib.hid (show OwnE encB 5 w.heap.size _ l w3 from ownE_lower ho (by have := BX.out.size; omega))
            have B3 := Lib.hid (BX.out.trans (b3.mono BX.out.size))
            clear ho b3
            go_wp2_with fail
            refine bodyPost_ret (results_tmp2 rfl _ _ _) rfl ?_
            refine ⟨.slice av l.length cv, ?_, ?_, B3.out⟩
            · rw [HF3.out]; rfl
            · rw [HF3.out]; exact HO.out
          · have hle' : most < (l.length : Int) := by omega
            have HF3 : Hid (Ms.fit m most = Ms.fitF m most [1, 2]) := Lib.hid (by rw [HF2.out, if_neg (fun h => by omega)])
            go_wp2_with fail
            refine EK.out.mono ?_
            rintro e w3 ⟨v, rfl, ho, b3⟩
            obtain ⟨av, cv, rfl⟩ := own_len ho
            have B3 := Lib.hid (BX.out.trans (b3.mono BX.out.size))
            have K3 := Lib.hid (KX'.out.below b3)
            clear ho b3
            go_wp2_with fail
            go_roundw
            case rel => exact ⟨1, by go_num, by omega, K3, B3, HF3⟩
            case measure => simp [intOf]
        · have hcb : (c == 0) = false := by rw [beq_eq_false_iff_ne]; exact hc
          have HF3 : Hid (Ms.fit m most = Ms.fitF m most [1, 2]) := Lib.hid (by rw [HF2.out, if_neg (fun h => hc h.1)])
          go_wp2_with fail
          refine EK.out.mono ?_
          rintro e w3 ⟨v, rfl, ho, b3⟩
          obtain ⟨av, cv, rfl⟩ := own_len ho
          have B3 := Lib.hid (BX.out.trans (b3.mono BX.out.size))
          have K3 := Lib.hid (KX'.out.below b3)
          clear ho b3
          go_wp2_with fail
          go_roundw
          case rel => exact ⟨1, by go_num, by omega, K3, B3, HF3⟩
          case measure => simp [intOf]
      · have KB : Block wr w.heap.size #[.int .i64 m.id, .bool m.resp, .int .i64 m.opc, .bool m.auth, .bool true, .bool m.des, .bool m.avl, .int .i64 m.code, (.slice aq m.qs.length cq), (.slice aa m.an.length ca), (.slice an m.ns.length cn), (.slice none 0 0), .bool m.edns, .int .i64 m.size] 27 := hb.out
        have c0 := KB.cell (i := 0) (v := .int .i64 m.id) rfl
        have c1 := KB.cell (i := 1) (v := .bool m.resp) rfl
        have c2 := KB.cell (i := 2) (v := .int .i64 m.opc) rfl
        have c3 := KB.cell (i := 3) (v := .bool m.auth) rfl
        have c4 := KB.cell (i := 4) (v := .bool true) rfl
        have c5 := KB.cell (i := 5) (v := .bool m.des) rfl
        have c6 := KB.cell (i := 6) (v := .bool m.avl) rfl
        have c7 := KB.cell (i := 7) (v := .int .i64 m.code) rfl
        have c8 := KB.cell (i := 8) (v := (.slice aq m.qs.length cq)) rfl
        have c9 := KB.cell (i := 9) (v := (.slice aa m.an.length ca)) rfl
        have c10 := KB.cell (i := 10) (v := (.slice an m.ns.length cn)) rfl
        have c11 := KB.cell (i := 11) (v := (.slice none 0 0)) rfl
        have c12 := KB.cell (i := 12) (v := .bool m.edns) rfl
        have c13 := KB.cell (i := 13) (v := .int .i64 m.size) rfl
        have f0 := KB.frozen 10
        have ix := fun W => idx_p1 W (.pointer (some ⟨w.heap.size, 11, none⟩)) (.pointer (some ⟨w.heap.size, 10, none⟩)) (.pointer (some ⟨w.heap.size, 9, none⟩))
        have BX := Lib.hid (BR.out.setCell (p := ⟨w.heap.size, 10, none⟩) (Nat.le_refl _) (.slice none 0 0))
        have KX : Block (wr.setCell ⟨w.heap.size, 10, none⟩ (.slice none 0 0)) w.heap.size #[.int .i64 m.id, .bool m.resp, .int .i64 m.opc, .bool m.auth, .bool true, .bool m.des, .bool m.avl, .int .i64 m.code, (.slice aq m.qs.length cq), (.slice aa m.an.length ca), (.slice none 0 0), (.slice none 0 0), .bool m.edns, .int .i64 m.size] 27 := KB.set 10 (.slice none 0 0)
        have EK := Lib.hid (enc_any (Ms.drops m 1) (.slice aq m.qs.length cq) (.slice aa m.an.length ca) (.slice none 0 0) (.slice none 0 0) (wr.setCell ⟨w.heap.size, 10, none⟩ (.slice none 0 0)) ⟨(HL.out.below BX.out).qs, (HL.out.below BX.out).an, readR_nil _, readR_nil _⟩ (slim_drops HS.out 1) (few_drops H3.out 1).1 (few_drops H3.out 1).2.1 (few_drops H3.out 1).2.2)
        unfold EncRet at EK
        have HF2 : Hid (Ms.fit m most = if (Ms.enc (Ms.drops m 1)).2 = 0 ∧ ((Ms.enc (Ms.drops m 1)).1.length : Int) ≤ most then ((Ms.enc (Ms.drops m 1)).1, 0) else Ms.fitF m most [2]) := Lib.hid hf.out
        obtain ⟨l, c, hlc⟩ : ∃ l c, Ms.enc (Ms.drops m 1) = (l, c) := ⟨_, _, rfl⟩
        rw [hlc] at EK HF2
        simp only at EK HF2
        have KX' := Lib.hid KX
        clear hlc KX KB hf hb
        by_cases hc : c = 0
        · subst hc
          by_cases hle : (l.length : Int) ≤ most
          · have HF3 : Hid (Ms.fit m most = (l, 0)) := Lib.hid (by rw [HF2.out, if_pos ⟨rfl, hle⟩])
            go_wp2_with fail
            refine EK.out.mono ?_
            rintro e w3 ⟨v, rfl, ho, b3⟩
            obtain ⟨av, cv, rfl⟩ := own_len ho
            have HO := Lib.hid (show OwnE encB 5 w.heap.size _ l w3 from ownE_lower ho (by have := BX.out.size; omega))
            have B3 := Lib.hid (BX.out.trans (b3.mono BX.out.size))
            clear ho b3
            go_wp2_with fail
            refine bodyPost_ret (results_tmp2 rfl _ _ _) rfl ?_
            refine ⟨.slice av l.length cv, ?_, ?_, B3.out⟩
            · rw [HF3.out]; rfl
            · rw [HF3.out]; exact HO.out
          · have hle' : most < (l.length : Int) := by omega
            have HF3 : Hid (Ms.fit m most = Ms.fitF m most [2]) := Lib.hid (by rw [HF2.out, if_neg (fun h => by omega)])
            go_wp2_with fail
            refine EK.out.mono ?_
            rintro e w3 ⟨v, rfl, ho, b3⟩
            obtain ⟨av, cv, rfl⟩ := own_len ho
            have B3 := Lib.hid (BX.out.trans (b3.mono BX.out.size))
            have K3 := Lib.hid (KX'.out.below b3)
            clear ho b3
            go_wp2_with fail
            go_roundw
            case rel => exact ⟨2, by go_num, by omega, K3, B3, HF3⟩
            case measure => simp [intOf]
        · have hcb : (c == 0) = false := by rw [beq_eq_false_iff_ne]; exact hc
          have HF3 : Hid (Ms.fit m most = Ms.fitF m most [2]) := Lib.hid (by rw [HF2.out, if_neg (fun h => hc h.1)])
          go_wp2_with fail
          refine EK.out.mono ?_
          rintro e w3 ⟨v, rfl, ho, b3⟩
          obtain ⟨av, cv, rfl⟩ := own_len ho
          have B3 := Lib.hid (BX.out.trans (b3.mono BX.out.size))
          have K3 := Lib.hid (KX'.out.below b3)
          clear ho b3
          go_wp2_with fail
          go_roundw
          case rel => exact ⟨2, by go_num, by omega, K3, B3, HF3⟩
          case measure => simp [intOf]
      · have KB : Block wr w.heap.size #[.int .i64 m.id, .bool m.resp, .int .i64 m.opc, .bool m.auth, .bool true, .bool m.des, .bool m.avl, .int .i64 m.code, (.slice aq m.qs.length cq), (.slice aa m.an.length ca), (.slice none 0 0), (.slice none 0 0), .bool m.edns, .int .i64 m.size] 27 := hb.out
        have c0 := KB.cell (i := 0) (v := .int .i64 m.id) rfl
        have c1 := KB.cell (i := 1) (v := .bool m.resp) rfl
        have c2 := KB.cell (i := 2) (v := .int .i64 m.opc) rfl
        have c3 := KB.cell (i := 3) (v := .bool m.auth) rfl
        have c4 := KB.cell (i := 4) (v := .bool true) rfl
        have c5 := KB.cell (i := 5) (v := .bool m.des) rfl
        have c6 := KB.cell (i := 6) (v := .bool m.avl) rfl
        have c7 := KB.cell (i := 7) (v := .int .i64 m.code) rfl
        have c8 := KB.cell (i := 8) (v := (.slice aq m.qs.length cq)) rfl
        have c9 := KB.cell (i := 9) (v := (.slice aa m.an.length ca)) rfl
        have c10 := KB.cell (i := 10) (v := (.slice none 0 0)) rfl
        have c11 := KB.cell (i := 11) (v := (.slice none 0 0)) rfl
        have c12 := KB.cell (i := 12) (v := .bool m.edns) rfl
        have c13 := KB.cell (i := 13) (v := .int .i64 m.size) rfl
        have f0 := KB.frozen 9
        have ix := fun W => idx_p2 W (.pointer (some ⟨w.heap.size, 11, none⟩)) (.pointer (some ⟨w.heap.size, 10, none⟩)) (.pointer (some ⟨w.heap.size, 9, none⟩))
        have BX := Lib.hid (BR.out.setCell (p := ⟨w.heap.size, 9, none⟩) (Nat.le_refl _) (.slice none 0 0))
        have KX : Block (wr.setCell ⟨w.heap.size, 9, none⟩ (.slice none 0 0)) w.heap.size #[.int .i64 m.id, .bool m.resp, .int .i64 m.opc, .bool m.auth, .bool true, .bool m.des, .bool m.avl, .int .i64 m.code, (.slice aq m.qs.length cq), (.slice none 0 0), (.slice none 0 0), (.slice none 0 0), .bool m.edns, .int .i64 m.size] 27 := KB.set 9 (.slice none 0 0)
        have EK := Lib.hid (enc_any (Ms.drops m 2) (.slice aq m.qs.length cq) (.slice none 0 0) (.slice none 0 0) (.slice none 0 0) (wr.setCell ⟨w.heap.size, 9, none⟩ (.slice none 0 0)) ⟨(HL.out.below BX.out).qs, readR_nil _, readR_nil _, readR_nil _⟩ (slim_drops HS.out 2) (few_drops H3.out 2).1 (few_drops H3.out 2).2.1 (few_drops H3.out 2).2.2)
        unfold EncRet at EK
        have HF2 : Hid (Ms.fit m most = if (Ms.enc (Ms.drops m 2)).2 = 0 ∧ ((Ms.enc (Ms.drops m 2)).1.length : Int) ≤ most then ((Ms.enc (Ms.drops m 2)).1, 0) else Ms.fitF m most []) := Lib.hid hf.out
        obtain ⟨l, c, hlc⟩ : ∃ l c, Ms.enc (Ms.drops m 2) = (l, c) := ⟨_, _, rfl⟩
        rw [hlc] at EK HF2
        simp only at EK HF2
        have KX' := Lib.hid KX
        clear hlc KX KB hf hb
        by_cases hc : c = 0
        · subst hc
          by_cases hle : (l.length : Int) ≤ most
          · have HF3 : Hid (Ms.fit m most = (l, 0)) := Lib.hid (by rw [HF2.out, if_pos ⟨rfl, hle⟩])
            go_wp2_with fail
            refine EK.out.mono ?_
            rintro e w3 ⟨v, rfl, ho, b3⟩
            obtain ⟨av, cv, rfl⟩ := own_len ho
            have HO := Lib.hid (show OwnE encB 5 w.heap.size _ l w3 from ownE_lower ho (by have := BX.out.size; omega))
            have B3 := Lib.hid (BX.out.trans (b3.mono BX.out.size))
            clear ho b3
            go_wp2_with fail
            refine bodyPost_ret (results_tmp2 rfl _ _ _) rfl ?_
            refine ⟨.slice av l.length cv, ?_, ?_, B3.out⟩
            · rw [HF3.out]; rfl
            · rw [HF3.out]; exact HO.out
          · have hle' : most < (l.length : Int) := by omega
            have HF3 : Hid (Ms.fit m most = Ms.fitF m most []) := Lib.hid (by rw [HF2.out, if_neg (fun h => by omega)])
            go_wp2_with fail
            refine EK.out.mono ?_
            rintro e w3 ⟨v, rfl, ho, b3⟩
            obtain ⟨av, cv, rfl⟩ := own_len ho
            have B3 := Lib.hid (BX.out.trans (b3.mono BX.out.size))
            have K3 := Lib.hid (KX'.out.below b3)
            clear ho b3
            go_wp2_with fail
            go_roundw
            case rel => exact ⟨3, by go_num, by omega, K3, B3, HF3⟩
            case measure => simp [intOf]
        · have hcb : (c == 0) = false := by rw [beq_eq_false_iff_ne]; exact hc
          have HF3 : Hid (Ms.fit m most = Ms.fitF m most []) := Lib.hid (by rw [HF2.out, if_neg (fun h => hc h.1)])
          go_wp2_with fail
          refine EK.out.mono ?_
          rintro e w3 ⟨v, rfl, ho, b3⟩
          obtain ⟨av, cv, rfl⟩ := own_len ho
          have B3 := Lib.hid (BX.out.trans (b3.mono BX.out.size))
          have K3 := Lib.hid (KX'.out.below b3)
          clear ho b3
          go_wp2_with fail
          go_roundw
          case rel => exact ⟨3, by go_num, by omega, K3, B3, HF3⟩
          case measure => simp [intOf]
      · have HF3 : Hid (Ms.fit m most = ([], 3)) := Lib.hid hf.out
        go_wp2_with fail
        refine bodyPost_ret (results_tmp2 rfl _ _ _) rfl ?_
        refine ⟨.slice none 0 0, ?_, ?_, BR.out⟩
        · rw [HF3.out]; rfl
        · rw [HF3.out]; exact ownE_nil _ _ _ _
end Go.Proofs.Ytfmghbmbahembaa

/- MessageBack. -/
namespace Go.Proofs.Ytfmghbmbahembaa
open Go.RowKit Go.Shelf Go.Maps
attribute [local go_sem] Oper.semAt_some

theorem check_slim {m : Ms.M} (h : Ms.check m = true) : Slim m := by
  obtain ⟨_, hq, _, _, hqs, han, hns, had⟩ := Ms.check_split h
  have hr : ∀ l : List Rd.RR, l.length ≤ 64 → l.all Rd.check = true → FewR l 100000 := fun l h1 h2 =>
    ⟨by omega, fun r hr => by
      obtain ⟨c1, _, c3⟩ := Ms.check_parts (List.all_eq_true.1 h2 r hr)
      have := Rd.valid_len c1
      refine ⟨by omega, ?_⟩
      rcases Nat.lt_or_ge 1000 r.data.length with h | h
      · unfold Rd.dataOk Rd.parts at c3
        rw [if_pos h] at c3
        cases c3
      · omega⟩
  refine ⟨by omega, fun q hq => ?_, hr _ han.1 han.2, hr _ hns.1 hns.2, hr _ had.1 had.2⟩
  have := List.all_eq_true.1 hqs q hq
  unfold Ms.checkQ at this
  rw [Bool.and_eq_true] at this
  have := Rd.valid_len this.1
  omega
theorem take_pre (l : List UInt8) (k : Nat) : Ms.Pre (l.take k) l := ⟨l.drop k, (List.take_append_drop k l).symm⟩
theorem cut_dec {l : List UInt8} {m : Ms.M} (hb : Ms.dBody l = some m) {k : Nat} (hk : k < l.length) : ∃ M, Ms.dec (l.take k) = (M, decide ((12 : Int) ≤ (k : Int)), false) := by
  have hl : (l.take k).length = k := by rw [List.length_take]; omega
  unfold Ms.dec
  rw [hl]
  by_cases h : k < 12
  · rw [if_pos h, decide_eq_false (by omega)]; exact ⟨_, rfl⟩
  · rw [if_neg h, Ms.cut_none (take_pre l k) (by omega) hb, decide_eq_true (by omega)]; exact ⟨_, rfl⟩
theorem turned_dec {l : List UInt8} (h : 12 ≤ l.length) : (∃ M, Ms.dec l = (M, true, false)) ∨ (∃ M, Ms.dec l = (M, true, true) ∧ Ms.check M = true) := by
  unfold Ms.dec
  rw [if_neg (by omega)]
  cases hb : Ms.dBody l with
  | none => exact .inl ⟨_, rfl⟩
  | some M => exact .inr ⟨M, rfl, Ms.body_check hb⟩
theorem short_small {m : Ms.M} {top : Nat} (h : SmallM m top) (ht : top ≤ 10000) : Short m := ⟨by have := h.qs; omega, by have := h.an.len; omega, by have := h.ns.len; omega, by have := h.ad.len; omega⟩

set_option maxRecDepth 100000 in
set_option maxHeartbeats 8000000 in
theorem back_any (AW : ∀ W, Calls Try.prog 11 #[] W fun e w' => e = .returned (.bool true) ∧ Below W.heap.size W w') (m : Ms.M) (vq va vn vd : Value) (z1 z2 z3 : Int) (w : World) (hL : Lists m vq va vn vd w) (hf : FitM m)
    (h1 : -9223372036854775808 ≤ z1 ∧ z1 ≤ 9223372036854775807) (h2 : -9223372036854775808 ≤ z2 ∧ z2 ≤ 9223372036854775807) (h3 : -9223372036854775808 ≤ z3 ∧ z3 ≤ 9223372036854775807) :
    Calls Try.prog 4 #[msgV m vq va vn vd, .int .i64 z1, .int .i64 z2, .int .i64 z3] w fun e w' => e = .returned (.bool true) ∧ Below w.heap.size w w' := by
  have HAW := Lib.hid AW
  clear AW
  have HL := Lib.hid hL
  obtain ⟨aq, cq, rfl, _⟩ := hL.qs.form
  obtain ⟨aa, ca, rfl, _⟩ := hL.an.form
  obtain ⟨an, cn, rfl, _⟩ := hL.ns.form
  obtain ⟨ad, cd, rfl, _⟩ := hL.ad.form
  clear hL
  obtain ⟨w0, hw0⟩ : ∃ w0, w.alloc (.cells #[.int .i64 m.id, .bool m.resp, .int .i64 m.opc, .bool m.auth, .bool m.cut, .bool m.des, .bool m.avl, .int .i64 m.code, (.slice aq m.qs.length cq), (.slice aa m.an.length ca), (.slice an m.ns.length cn), (.slice ad m.ad.length cd), .bool m.edns, .int .i64 m.size] 27) = w0 := ⟨_, rfl⟩
  have hb0 : Below w.heap.size w w0 := by rw [← hw0]; exact (Below.refl _ _).alloc (Nat.le_refl _) _
  have K0 : Hid (Block w0 w.heap.size #[.int .i64 m.id, .bool m.resp, .int .i64 m.opc, .bool m.auth, .bool m.cut, .bool m.des, .bool m.avl, .int .i64 m.code, (.slice aq m.qs.length cq), (.slice aa m.an.length ca), (.slice an m.ns.length cn), (.slice ad m.ad.length cd), .bool m.edns, .int .i64 m.size] 27) := Lib.hid (by rw [← hw0]; exact Block.new _ _ _)
  have L0 := Lib.hid (HL.out.below hb0)
  have B0 := Lib.hid hb0
  have SM := Lib.hid (small_msg m 3000 _ _ _ _ w0 L0.out hf (by omega))
  unfold SmallRet at SM
  have HW0 := Lib.hid hw0
  unfold msgV at SM ⊢
  clear hw0 hb0 hf
  go_enter Try.func4, Try.ntmps4
  go_wp2_with fail
  rw [HW0.out]
  refine SM.out.mono ?_
  rintro e w1 ⟨b, rfl, hb, b1⟩
  have B1 := Lib.hid (B0.out.trans (b1.mono B0.out.size))
  have K1 := Lib.hid (K0.out.below b1)
  have L1 := Lib.hid (L0.out.below b1)
  clear b1 HW0 SM K0 L0 B0
  cases b with
  | false =>
    go_wp2_with fail
    refine (HAW.out _).mono ?_
    rintro e w2 ⟨rfl, b2⟩
    go_wp2_with fail
    go_ret
    exact ⟨rfl, B1.out.trans (b2.mono B1.out.size)⟩
  | true =>
    have hS := hb rfl
    have HS := Lib.hid hS
    have EM := Lib.hid (enc_any m _ _ _ _ w1 L1.out (hS.slim (by omega)) hS.an hS.ns hS.ad)
    unfold EncRet at EM
    unfold msgV at EM
    clear hS hb
    have c0 := K1.out.cell (i := 0) (v := .int .i64 m.id) rfl
    have c1 := K1.out.cell (i := 1) (v := .bool m.resp) rfl
    have c2 := K1.out.cell (i := 2) (v := .int .i64 m.opc) rfl
    have c3 := K1.out.cell (i := 3) (v := .bool m.auth) rfl
    have c4 := K1.out.cell (i := 4) (v := .bool m.cut) rfl
    have c5 := K1.out.cell (i := 5) (v := .bool m.des) rfl
    have c6 := K1.out.cell (i := 6) (v := .bool m.avl) rfl
    have c7 := K1.out.cell (i := 7) (v := .int .i64 m.code) rfl
    have c8 := K1.out.cell (i := 8) (v := (.slice aq m.qs.length cq)) rfl
    have c9 := K1.out.cell (i := 9) (v := (.slice aa m.an.length ca)) rfl
    have c10 := K1.out.cell (i := 10) (v := (.slice an m.ns.length cn)) rfl
    have c11 := K1.out.cell (i := 11) (v := (.slice ad m.ad.length cd)) rfl
    have c12 := K1.out.cell (i := 12) (v := .bool m.edns) rfl
    have c13 := K1.out.cell (i := 13) (v := .int .i64 m.size) rfl
    have hcs := Ms.enc_cases m
    have hes : (∃ z, Ms.enc m = ([], z) ∧ z ≠ 0) ∨ (∃ l, Ms.enc m = (l, 0) ∧ Ms.dBody l = some m ∧ 12 ≤ l.length ∧ l.length ≤ 4096) := by
      rcases hcs with ⟨_, e1⟩ | ⟨_, _, e1⟩ | ⟨_, h1, h2, h3, h4, _, e1⟩
      · exact .inl ⟨_, e1, by decide⟩
      · exact .inl ⟨_, e1, by decide⟩
      · exact .inr ⟨_, e1, h4, by omega, by omega⟩
    clear hcs
    rcases hes with ⟨z, e1, hz⟩ | ⟨l, e1, hbd, h12, h40⟩
    · rw [e1] at EM
      have hzb : (z == 0) = false := by rw [beq_eq_false_iff_ne]; exact hz
      go_wp2_with fail
      refine EM.out.mono ?_
      rintro e w2 ⟨v, rfl, ho2, b2⟩
      obtain ⟨av, cv, rfl⟩ := own_len ho2
      have B2 := Lib.hid (B1.out.trans (b2.mono B1.out.size))
      clear ho2 b2
      go_wp2_with fail
      refine (HAW.out _).mono ?_
      rintro e w11 ⟨rfl, b11⟩
      go_wp2_with fail
      go_ret
      exact ⟨rfl, B2.out.trans (b11.mono B2.out.size)⟩
    · rw [e1] at EM
      go_wp2_with fail
      refine EM.out.mono ?_
      rintro e w2 ⟨v, rfl, ho2, b2⟩
      replace ho2 : OwnE encB 5 w1.heap.size v l w2 := ho2
      obtain ⟨g, cap, rfl, _, cur, hcur, _, hcl⟩ := own_lit ho2 (by intro e; rw [show l = [] from e] at h12; simp at h12)
      have B2 := Lib.hid (B1.out.trans (b2.mono B1.out.size))
      have K2 := Lib.hid (K1.out.below b2)
      have L2 := Lib.hid (L1.out.below b2)
      have R2 := Lib.hid (readB_own ho2)
      have hde : Ms.dec l = (m, true, true) := by unfold Ms.dec; rw [if_neg (by omega), hbd]
      have D := Lib.hid (decode_any l _ w2 R2.out (capOk_own ho2) (by omega))
      unfold DecRet at D
      rw [hde] at D
      have hct := fun k (hk : k < l.length) => cut_dec hbd hk
      have HCT := Lib.hid hct
      have HB := Lib.hid (And.intro h12 h40)
      obtain ⟨n, hn⟩ : ∃ n, l.length = n := ⟨_, rfl⟩
      have HN := Lib.hid hn
      simp only at hcl ⊢
      rw [hn] at D h12 h40 hcl R2 HCT ⊢
      clear ho2 b2 hcur hde e1 hct hbd hn EM K1 L1 B1 c0 c1 c2 c3 c4 c5 c6 c7 c8 c9 c10 c11 c12 c13
      go_wp2_with fail
      refine D.out.mono ?_
      rintro e w3 ⟨vq3, va3, vn3, vd3, rfl, hL3, b3⟩
      have L3 := Lib.hid (L2.out.below b3)
      have K3 := K2.out.below b3
      have B3 := Lib.hid (B2.out.trans (b3.mono B2.out.size))
      obtain ⟨a08, c08, a18, c18, a28, c28, a38, c38, rfl, rfl, rfl, rfl⟩ := lists_form hL3
      have LX := Lib.hid hL3
      have R3 := Lib.hid (readB_below R2.out b3)
      have r0 := fun o => (K3.alloc o).cell (i := 0) (v := .int .i64 m.id) rfl
      have r1 := fun o => (K3.alloc o).cell (i := 1) (v := .bool m.resp) rfl
      have r2 := fun o => (K3.alloc o).cell (i := 2) (v := .int .i64 m.opc) rfl
      have r3 := fun o => (K3.alloc o).cell (i := 3) (v := .bool m.auth) rfl
      have r4 := fun o => (K3.alloc o).cell (i := 4) (v := .bool m.cut) rfl
      have r5 := fun o => (K3.alloc o).cell (i := 5) (v := .bool m.des) rfl
      have r6 := fun o => (K3.alloc o).cell (i := 6) (v := .bool m.avl) rfl
      have r7 := fun o => (K3.alloc o).cell (i := 7) (v := .int .i64 m.code) rfl
      have r8 := fun o => (K3.alloc o).cell (i := 8) (v := (.slice aq m.qs.length cq)) rfl
      have r9 := fun o => (K3.alloc o).cell (i := 9) (v := (.slice aa m.an.length ca)) rfl
      have r10 := fun o => (K3.alloc o).cell (i := 10) (v := (.slice an m.ns.length cn)) rfl
      have r11 := fun o => (K3.alloc o).cell (i := 11) (v := (.slice ad m.ad.length cd)) rfl
      have r12 := fun o => (K3.alloc o).cell (i := 12) (v := .bool m.edns) rfl
      have r13 := fun o => (K3.alloc o).cell (i := 13) (v := .int .i64 m.size) rfl
      clear hL3 b3 K3 D K2 L2 B2 R2
      simp only [msgV, errOf_true]
      go_wp2_with fail
      refine (message_same m (.slice a08 m.qs.length c08) (.slice a18 m.an.length c18) (.slice a28 m.ns.length c28) (.slice a38 m.ad.length c38) (.slice aq m.qs.length cq) (.slice aa m.an.length ca) (.slice an m.ns.length cn) (.slice ad m.ad.length cd) _ (LX.out.below ((Below.refl _ _).alloc (Nat.le_refl _) _)) (L3.out.below ((Below.refl _ _).alloc (Nat.le_refl _) _)) (short_small HS.out (by omega))).mono ?_
      rintro e w4 ⟨rfl, b4⟩
      have B4 := Lib.hid ((B3.out.alloc B3.out.size _).trans (b4.mono ((B3.out.alloc B3.out.size _)).size))
      have R4 := Lib.hid (readB_below R3.out (((Below.refl _ w3).alloc (Nat.le_refl _) _).trans (b4.mono (by simp))))
      clear b4 B3 L3 LX R3 r0 r1 r2 r3 r4 r5 r6 r7 r8 r9 r10 r11 r12 r13
      go_wp2_with fail
      obtain ⟨q0, q1⟩ := roundI_bounds z1 (n : Int) (by omega)
      refine (round_any z1 (n : Int) w4 (by omega) (by omega) h1.1 h1.2).mono ?_
      rintro e w5 ⟨rfl, rfl⟩
      obtain ⟨k, hk⟩ := Int.eq_ofNat_of_zero_le q0
      rw [hk] at q1 ⊢
      have hkn : k < n := by omega
      have hkc : (k : Int) ≤ (cap : Int) := by omega
      obtain ⟨M1, hM1⟩ := HCT.out k hkn
      have D := Lib.hid (decode_any (l.take k) (.slice (some ⟨g, 0, none⟩) k cap) w4 (readB_take R4.out (by rw [HN.out]; omega) cap) (by intro _ _ _ e; cases e; omega) (by rw [List.length_take]; omega))
      unfold DecRet at D
      rw [hM1] at D
      clear hM1 HCT q0 hk
      go_wp2_with fail
      refine D.out.mono ?_
      rintro e w5 ⟨vq5, va5, vn5, vd5, rfl, hL5, b5⟩
      obtain ⟨a05, c05, a15, c15, a25, c25, a35, c35, rfl, rfl, rfl, rfl⟩ := lists_form hL5
      have B5 := Lib.hid (B4.out.trans (b5.mono B4.out.size))
      have R5 := Lib.hid (readB_below R4.out b5)
      have HE : Hid (∀ o, OwnE encB 5 w5.heap.size (.slice (some ⟨w5.heap.size + 1, 0, none⟩) 0 0) [] ((w5.alloc o).alloc (.cells #[] 5))) := Lib.hid fun o => by
        have := ownE_new0 (w5.alloc o) w5.heap.size (by simp)
        rwa [World.size_alloc] at this
      have HR : Hid (∀ o, ReadB (.slice (some ⟨g, 0, none⟩) n cap) l ((w5.alloc o).alloc (.cells #[] 5))) := Lib.hid fun o => readB_below R5.out (((Below.refl _ _).alloc (Nat.le_refl _) _).alloc (by simp) _)
      clear hL5 b5 D R4 B4
      simp only [msgV, errOf_false]
      go_wp2_with (at_builtin; refine wpList_apdB _ rfl _ _ 22 rfl w5.heap.size 5 Try.underlying22 infoByte _ [] rfl (HE.out _) _ l rfl (HR.out _) (by simp; have := HN.out; omega) (by simp; omega) ?_; intro v6 w6 ho6 ha6 _ _; have B6 := Lib.hid (B5.out.trans ((((Below.refl w5.heap.size w5).alloc (Nat.le_refl _) _).alloc (by simp) _).trans ha6.below |>.mono B5.out.size)); obtain ⟨g6, cp6, rfl, hfr6, cur6, _, _, hcl6⟩ := own_lit ho6 (by intro e; have h := HN.out; rw [show l = [] from e] at h; simp at h; omega); replace ho6 : OwnE encB 5 w5.heap.size (.slice (some ⟨g6, 0, none⟩) l.length cp6) l w6 := ho6; replace hfr6 : ∀ j, j < l.length → w6.frozen? ⟨g6, j, none⟩ = false := hfr6; replace hcl6 : l.length ≤ cp6 := hcl6; rw [HN.out] at ho6 hfr6 hcl6; have HG6 : Hid (w5.heap.size ≤ g6) := Lib.hid (World.ownsRow.lt ho6 g6 rfl).1; have HO6 := Lib.hid ho6; have HF6 := Lib.hid hfr6; clear ho6 ha6 hfr6; simp only [show ([] ++ l).length = l.length from rfl, HN.out])
      obtain ⟨p0, p1⟩ := roundI_bounds z2 (n : Int) (by omega)
      refine (round_any z2 (n : Int) w6 (by omega) (by omega) h2.1 h2.2).mono ?_
      rintro e w7 ⟨rfl, rfl⟩
      obtain ⟨i, hi⟩ := Int.eq_ofNat_of_zero_le p0
      rw [hi] at p1 ⊢
      have hin : i < n := by omega
      have hi0 : (0 : Int) ≤ (i : Int) := by omega
      have f6 := HF6.out i hin
      have hil : i < l.length := by rw [HN.out]; exact hin
      have c6 : w6.cell? ⟨g6, i, none⟩ = some (.int .u8 ((l[i]).toNat : Int)) := by
        have h := ownE_cell HO6.out (j := i) hil
        rw [Nat.zero_add] at h
        exact h
      obtain ⟨x, hx⟩ : ∃ x, l[i] = x := ⟨_, rfl⟩
      rw [hx] at c6
      obtain ⟨y0, y1⟩ := roundI_bounds z3 255 (by omega)
      have RD := Lib.hid (fun W => round_any z3 255 W (by omega) (by omega) h3.1 h3.2)
      obtain ⟨y, hy⟩ : ∃ y, roundI z3 255 = y := ⟨_, rfl⟩
      rw [hy] at RD y0 y1
      have hx0 := x.toNat_lt
      clear hi p0 hy hx
      go_wp2_with fail
      refine wp_region_slotsTL (by simp) slotLe (slotPhi ((fun v _ => v = ?s82) :: (fun v _ => v = ?s83) :: (fun v _ => v = ?s84) :: (fun v _ => v = ?s85) :: (fun v _ => v = ?s86) :: (fun v _ => v = ?s87) :: (fun v _ => v = ?s88) :: (fun v _ => v = ?s89) :: (fun v _ => v = ?s90) :: (fun v _ => v = ?s91) :: (fun v _ => v = ?s92) :: (fun v _ => v = ?s93) :: [])) slotLe_refl slotLe_trans (slotPhi_stable ?stb) (by kernel_rfl) (by kernel_rfl) (by kernel_rfl) (by kernel_rfl) (by kernel_rfl) ?steps ?fin
      case stb =>
        refine ⟨by intro _ _ _ _ h; exact h, ?_⟩
        refine ⟨by intro _ _ _ _ h; exact h, ?_⟩
        refine ⟨by intro _ _ _ _ h; exact h, ?_⟩
        refine ⟨by intro _ _ _ _ h; exact h, ?_⟩
        refine ⟨by intro _ _ _ _ h; exact h, ?_⟩
        refine ⟨by intro _ _ _ _ h; exact h, ?_⟩
        refine ⟨by intro _ _ _ _ h; exact h, ?_⟩
        refine ⟨by intro _ _ _ _ h; exact h, ?_⟩
        refine ⟨by intro _ _ _ _ h; exact h, ?_⟩
        refine ⟨by intro _ _ _ _ h; exact h, ?_⟩
        refine ⟨by intro _ _ _ _ h; exact h, ?_⟩
        refine ⟨by intro _ _ _ _ h; exact h, ?_⟩
        exact trivial
      case steps =>
        refine ⟨?_, ?_⟩
        · intro a W K N hK
          have e18 : a.tmps[18]?.getD undef = .slice (some ⟨g6, 0, none⟩) n cp6 := N.was' 18 _ (by kernel_rfl) rfl
          rw [if_pos (wanted_no rfl)]
          go_simp
          refine hK _ _ (slotLe_refl _) ?_
          exact rfl
        refine ⟨?_, ?_⟩
        · intro a W K N hK
          have e19 : a.tmps[19]?.getD undef = .int .i64 (i : Int) := N.was' 19 _ (by kernel_rfl) rfl
          rw [if_pos (wanted_no rfl)]
          go_simp
          refine hK _ _ (slotLe_refl _) ?_
          exact rfl
        refine ⟨?_, ?_⟩
        · intro a W K N hK
          have e18 : a.tmps[18]?.getD undef = .slice (some ⟨g6, 0, none⟩) n cp6 := N.was' 18 _ (by kernel_rfl) rfl
          rw [if_pos (wanted_no rfl)]
          go_simp
          refine hK _ _ (slotLe_refl _) ?_
          exact rfl
        refine ⟨?_, ?_⟩
        · intro a W K N hK
          have e19 : a.tmps[19]?.getD undef = .int .i64 (i : Int) := N.was' 19 _ (by kernel_rfl) rfl
          rw [if_pos (wanted_no rfl)]
          go_simp
          refine hK _ _ (slotLe_refl _) ?_
          exact rfl
        refine ⟨?_, ?_⟩
        · intro a W K N hK
          have e84 : a.tmps[84]?.getD undef = _ := N.dep' 2 84 (by kernel_rfl)
          have e85 : a.tmps[85]?.getD undef = _ := N.dep' 3 85 (by kernel_rfl)
          rw [if_pos (wanted_no rfl)]
          go_simp
          refine hK _ _ (slotLe_refl _) ?_
          exact rfl
        refine ⟨?_, ?_⟩
        · intro a W K N hK
          have e86 : a.tmps[86]?.getD undef = _ := N.dep' 4 86 (by kernel_rfl)
          rw [if_pos (wanted_no rfl)]
          have z := keep_cell N.le (show w6.drew.cell? ⟨g6, i, none⟩ = some (.int .u8 (x.toNat : Int)) from c6)
          go_simp
          refine hK _ _ (slotLe_refl _) ?_
          exact rfl
        refine ⟨?_, ?_⟩
        · intro a W K N hK
          have e87 : a.tmps[87]?.getD undef = _ := N.dep' 5 87 (by kernel_rfl)
          rw [if_pos (wanted_no rfl)]
          go_simp
          refine hK _ _ (slotLe_refl _) ?_
          exact rfl
        refine ⟨?_, ?_⟩
        · intro a W K N hK
          have e3 : a.tmps[3]?.getD undef = .int .i64 z3 := N.was' 3 _ (by kernel_rfl) rfl
          rw [if_pos (wanted_no rfl)]
          go_simp
          refine hK _ _ (slotLe_refl _) ?_
          exact rfl
        refine ⟨?_, ?_⟩
        · intro a W K N hK
          have e89 : a.tmps[89]?.getD undef = _ := N.dep' 7 89 (by kernel_rfl)
          rw [if_pos (wanted_no rfl)]
          go_simp
          refine (RD.out W).mono ?_
          rintro e8 w8 ⟨rfl, rfl⟩
          go_simp
          refine hK _ _ (slotLe_refl _) ?_
          exact rfl
        refine ⟨?_, ?_⟩
        · intro a W K N hK
          have e90 : a.tmps[90]?.getD undef = _ := N.dep' 8 90 (by kernel_rfl)
          rw [if_pos (wanted_no rfl)]
          go_simp
          refine hK _ _ (slotLe_refl _) ?_
          exact rfl
        refine ⟨?_, ?_⟩
        · intro a W K N hK
          have e88 : a.tmps[88]?.getD undef = _ := N.dep' 6 88 (by kernel_rfl)
          have e91 : a.tmps[91]?.getD undef = _ := N.dep' 9 91 (by kernel_rfl)
          rw [if_pos (wanted_no rfl)]
          go_simp
          refine hK _ _ (slotLe_refl _) ?_
          exact rfl
        refine ⟨?_, ?_⟩
        · intro a W K N hK
          have e82 : a.tmps[82]?.getD undef = _ := N.dep' 0 82 (by kernel_rfl)
          have e83 : a.tmps[83]?.getD undef = _ := N.dep' 1 83 (by kernel_rfl)
          rw [if_pos (wanted_no rfl)]
          go_simp
          refine hK _ _ (slotLe_refl _) ?_
          exact rfl
        exact trivial
      case fin =>
        intro V hV
        simp only [FinAll, slotPhi, List.dropLast, List.getLast_cons_cons, List.getLast_singleton, List.getD_cons_zero, List.getD_cons_succ, forall_eq, Act.put, List.setIfInBounds_toArray, List.set_cons_zero, List.set_cons_succ]
        have HV := Lib.hid (below_undrew hV)
        clear hV
        have ho7 := ownE_below HO6.out HV.out
        obtain ⟨g', cp', e', hfr7, _⟩ := own_lit ho7 (by intro e; rw [show l = [] from e] at hil; simp at hil)
        have hgg : g' = g6 := by
          injection e' with e1 _ _
          injection e1 with e1
          injection e1 with e1
          exact e1.symm
        rw [hgg] at hfr7
        clear e' hgg
        have f7 := hfr7 i hil
        have c7 : V.cell? ⟨g6, i, none⟩ = some (.int .u8 ((l[i]).toNat : Int)) := by
          have h := ownE_cell ho7 (j := i) hil
          rw [Nat.zero_add] at h
          exact h
        obtain ⟨ch, hch⟩ : ∃ c : UInt8, IntKind.u8.wrap (IntKind.u8.wrap ((x.toNat : Int) + 1) + IntKind.u8.wrap y) = (c.toNat : Int) := ⟨byteOf (IntKind.u8.wrap ((x.toNat : Int) + 1) + IntKind.u8.wrap y), by rw [byteOf_int]; rfl⟩
        have HO7 := Lib.hid ho7
        clear ho7 hfr7 f6 c6
        go_wp2_with fail
        have of : OwnE encB 5 w5.heap.size (.slice (some ⟨g6, 0, none⟩) n cp6) (l.set i ch) (V.setCell ⟨g6, i, none⟩ (.int .u8 (ch.toNat : Int))) := ownE_setElem HO7.out hil ch
        have BF := Lib.hid ((B6.out.trans (HV.out.mono B6.out.size)).setCell (p := ⟨g6, i, none⟩) (Nat.le_trans B5.out.size HG6.out) (.int .u8 (ch.toNat : Int)))
        have hll : (l.set i ch).length = n := by rw [List.length_set, HN.out]
        have D := Lib.hid (decode_any (l.set i ch) (.slice (some ⟨g6, 0, none⟩) n cp6) _ (readB_own of) (capOk_own of) (by omega))
        unfold DecRet at D
        rcases turned_dec (l := l.set i ch) (by omega) with ⟨M, hM⟩ | ⟨M, hM, hck⟩
        · rw [hM] at D
          refine D.out.mono ?_
          rintro e w8 ⟨vq8, va8, vn8, vd8, rfl, hL8, b8⟩
          have B8 := Lib.hid (BF.out.trans (b8.mono BF.out.size))
          obtain ⟨a08, c08, a18, c18, a28, c28, a38, c38, rfl, rfl, rfl, rfl⟩ := lists_form hL8
          clear hL8 b8 D of f7 c7
          simp only [msgV, errOf_false]
          go_wp2_with fail
          refine (HAW.out _).mono ?_
          rintro e w9 ⟨rfl, b9⟩
          go_wp2_with fail
          go_ret
          exact ⟨rfl, ((B8.out.alloc B8.out.size _)).trans (b9.mono ((B8.out.alloc B8.out.size _)).size)⟩
        · rw [hM] at D
          refine D.out.mono ?_
          rintro e w8 ⟨vq8, va8, vn8, vd8, rfl, hL8, b8⟩
          have B8 := Lib.hid (BF.out.trans (b8.mono BF.out.size))
          have CK := Lib.hid (fun o => mcheck_any M vq8 va8 vn8 vd8 (w8.alloc o) (hL8.below ((Below.refl _ _).alloc (Nat.le_refl _) _)) (check_slim hck))
          rw [hck] at CK
          obtain ⟨a08, c08, a18, c18, a28, c28, a38, c38, rfl, rfl, rfl, rfl⟩ := lists_form hL8
          clear hL8 b8 D of f7 c7
          simp only [msgV, errOf_true] at CK ⊢
          go_wp2_with fail
          refine (CK.out _).mono ?_
          rintro e w9 ⟨rfl, b9⟩
          have B9 := Lib.hid (((B8.out.alloc B8.out.size _)).trans (b9.mono ((B8.out.alloc B8.out.size _)).size))
          clear b9
          go_wp2_with fail
          refine (HAW.out _).mono ?_
          rintro e w10 ⟨rfl, b10⟩
          go_wp2_with fail
          go_ret
          exact ⟨rfl, B9.out.trans (b10.mono B9.out.size)⟩
end Go.Proofs.Ytfmghbmbahembaa

/- MessageBack of package freshetlaw4 (what was written is read as it was; cut off, it is none, but its head; turned anywhere it ends, and what is read may be written) returns true at every message and three ints.
   Conditions: those of the row, none beside. -/
namespace Go.Proofs.Ytfmghbmbahembaa.messageBack
open Go.ChangeShapes Go.WideShapes Go.ChangeAt Go.RowKit

set_option maxRecDepth 100000 in
theorem contract (H : Type) (enc : TypeId × Value → H) (W : World) (base : Nat) (args : Array Value) (ds gs : List (DataW H)) (before : List MemPlace)
    (hval : ∀ (j : Nat) t v, Try.f4.params[j]? = some t → args[j]? = some v → Value.okWide Try.prog W .any base t v)
    (hW : DataW.Whole enc Try.prog Try.f4.params.toList Rows.messageBackSpec.vars false W args.toList ds gs before) (_hL : laidMetH Try.prog laidList W) :
    Calls Try.prog 4 args W fun e W' => ∃ v, e = .returned v ∧ Rows.messageBackSpec.post enc Try.prog Try.f4 false true false false W args v W' := by
  have hW' := hW
  obtain ⟨p, q, hA0, hV, rfl, _, _⟩ := hW
  have hA : DataW.TrodAll enc Try.prog W 0 (fun _ => true) true Try.f4.params.toList args.toList ds p := hA0
  clear hA0
  rw [Try.params4] at hA hval
  obtain ⟨v0, vs0, d0, ds0, p0, q0, hargs0, rfl, rfl, h0, r0⟩ := trodAll_cons hA
  obtain ⟨v1, vs1, d1, ds1, p1, q1, hargs1, rfl, rfl, h1, r1⟩ := trodAll_cons r0
  subst hargs1
  obtain ⟨v2, vs2, d2, ds2, p2, q2, hargs2, rfl, rfl, h2, r2⟩ := trodAll_cons r1
  subst hargs2
  obtain ⟨v3, vs3, d3, ds3, p3, q3, hargs3, rfl, rfl, h3, r3⟩ := trodAll_cons r2
  subst hargs3
  obtain ⟨rfl, rfl, rfl⟩ := trodAll_nil r3
  obtain rfl : args = #[v0, v1, v2, v3] := by cases args; simp_all
  obtain ⟨rfl, rfl⟩ := trodVars_none hV
  obtain ⟨m0, vq0, va0, vn0, vd0, rfl, hm0, hf0, hi0⟩ := arg_msg (hval 0 _ _ rfl rfl) h0
  obtain ⟨z1, rfl, hz1⟩ := arg_int (hval 1 _ _ rfl rfl) h1
  obtain ⟨z2, rfl, hz2⟩ := arg_int (hval 2 _ _ rfl rfl) h2
  obtain ⟨z3, rfl, hz3⟩ := arg_int (hval 3 _ _ rfl rfl) h3
  refine (back_any awake_any m0 vq0 va0 vn0 vd0 z1 z2 z3 W hm0 hf0 hz1 hz2 hz3).mono fun e W' ⟨he, hbl⟩ => ?_
  exact ⟨_, he, law_post hW' rfl hbl rfl rfl (fun t ht => readT t (by rw [Try.params4] at ht; exact (show ∀ t ∈ (#[27, 3, 3, 3] : Array TypeId).toList, t ∈ [9, 3, 4, 22, 27] by decide) t ht))⟩

set_option maxRecDepth 100000 in
theorem reads (os : Os) {H : Type} (enc : TypeId × Value → H) : ∃ places, DataW.whole enc Try.prog ((laidWorld os).forCall (fun _ _ => 0) ⟨#[], #[.agg #[.int .i64 0, .bool false, .int .i64 0, .bool false, .bool false, .bool false, .bool false, .int .i64 0, .slice none 0 0, .slice none 0 0, .slice none 0 0, .slice none 0 0, .bool false, .int .i64 0], .int .i64 0, .int .i64 0, .int .i64 0], []⟩).memory Try.f4.params.toList Rows.messageBackSpec.vars false (#[.agg #[.int .i64 0, .bool false, .int .i64 0, .bool false, .bool false, .bool false, .bool false, .int .i64 0, .slice none 0 0, .slice none 0 0, .slice none 0 0, .slice none 0 0, .bool false, .int .i64 0], .int .i64 0, .int .i64 0, .int .i64 0] : Array Value).toList 8 = some ([.agg [.lit (.int .i64 0), .lit (.bool false), .lit (.int .i64 0), .lit (.bool false), .lit (.bool false), .lit (.bool false), .lit (.bool false), .lit (.int .i64 0), .nil, .nil, .nil, .nil, .lit (.bool false), .lit (.int .i64 0)], .lit (.int .i64 0), .lit (.int .i64 0), .lit (.int .i64 0)], [], places) :=
  ⟨[], by kernel_rfl⟩

set_option maxRecDepth 100000 in
theorem lifted (os : Os) (started : os.Started) (H : Type) (enc : TypeId × Value → H) (F : Stop.Interp) :
    ReturnsInHanded {} Try.checked os 4 .any ((OpenSpec.ofChange Rows.messageBackSpec).preRow enc Try.prog Try.f4 Rows.messageBackRow.domain false Rows.messageBackRow.laid) (((OpenSpec.ofChange Rows.messageBackSpec).at F).post enc Try.prog Try.f4 false true false false) := by
  obtain ⟨places, hx⟩ := reads os enc
  refine returnsInHanded_of_row (C := Try.checked) (s := OpenSpec.ofChange Rows.messageBackSpec) own started (by kernel_rfl) Try.func4
    (witness_row_atRef (enc := enc) (C := Try.checked) false (laidWorld os) #[.agg #[.int .i64 0, .bool false, .int .i64 0, .bool false, .bool false, .bool false, .bool false, .int .i64 0, .slice none 0 0, .slice none 0 0, .slice none 0 0, .slice none 0 0, .bool false, .int .i64 0], .int .i64 0, .int .i64 0, .int .i64 0] rfl (by kernel_rfl) (by kernel_rfl) (by kernel_rfl)
      (OpenSpec.preRow_of_cond 8 hx (by kernel_rfl) (fun k hk => by cases hk) (by kernel_rfl) (laid_met os _))) ?_
  intro W base args ds gs before hval hW _ _ _ hL _ _
  exact contract H enc W base args ds gs before hval hW hL

theorem said : Rows.MessageBackSaid :=
  OpenClaim.holds_of_cond 4 Try.f4 rfl rfl rfl rfl rfl rfl rfl ⟨rfl, rfl, rfl, rfl, rfl⟩ rfl rfl rfl rfl rfl (by kernel_rfl) Try.func4 (by kernel_rfl)
    (of_decide_eq_true (by kernel_rfl)) (by unfold Func.isWrapper; first | (rw [if_pos (by decide +kernel)]; kernel_rfl) | (rw [if_neg (by decide +kernel)]; exact ⟨rfl, rfl⟩))
    (fun os started H enc _ F => by rw [OpenClaim.pre_eq_preRow]; exact lifted os started H enc F)
end Go.Proofs.Ytfmghbmbahembaa.messageBack
