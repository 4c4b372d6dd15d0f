/- MessageNames of package freshetlaw4 (a name that a message has many times stands there once; the data's names are squeezed where the document says, and whole where it says that) returns true at every string and int.
   Conditions: those of the row, none beside. -/
import Derived.Test.YtfmghbmbahembaaJB38
import Derived.Test.YtfmghbmbahembaaJB39
import Derived.Test.YtfmghbmbahembaaJB22
import Derived.Test.YtfmghbmbahembaaJB9
import Derived.Test.YtfmghbmbahembaaJB40
/- append of a string, and slices of bytes that are read: for the laws of messages. -/
namespace Go.Proofs.Ytfmghbmbahembaa
open Go.RowKit Go.Shelf Go.Maps
attribute [local go_sem] Oper.semAt_some

theorem run_apdStr (w : World) (base : Nat) (ty : TypeId) (v : Value) (l : List UInt8) (hown : OwnE encB 5 base v l w) (news : List UInt8) (b1 : l.length + news.length ≤ 1000000) (hb : base ≤ w.heap.size) :
    ∃ v' w', (Builtin.append_ #[22, 9] ty #[v, .string ⟨news.toArray⟩]).run Try.prog w = .ok v' w' ∧ OwnE encB 5 base v' (l ++ news) w' ∧ w.grownBy w' v.ownBlock := by
  obtain ⟨i, hi, hz0, hz1, hz2⟩ := info_parts infoByte
  have hsz : (⟨news.toArray⟩ : ByteArray).size = news.length := by show news.toArray.size = _; simp
  obtain ⟨v', w', hrun, r1, r2, r3⟩ := Lib.run_append_own_string (P := Try.prog) w base 22 9 ty 5 i Try.underlying22 Try.underlying9 hi hz0 hz1 hz2 v l.length (l.map encB) hown ⟨news.toArray⟩ (by rw [hsz]; exact Nat.le_trans b1 (by unfold maxLen; decide)) (by rw [hsz]; omega) hb
  rw [hsz, strCells_enc] at r1
  exact ⟨v', w', hrun, by unfold OwnE; rw [List.map_append, List.length_append]; exact r1, r2⟩
theorem wpList_apdStr (w : World) {ops : Array Oper} {rest : List Oper} {o : Oper} {a : Act} {Q : Exit → Act → World → Prop} (hg : o.guard = none) (s x : Operand)
    (hop : o.op = Op.call { callee := Callee.builtin Builtin.append, args := #[s, x], argTypes := #[22, 9] })
    (base : Nat) (v : Value) (l : List UInt8) (hs : a.eval s = v) (hown : OwnE encB 5 base v l w) (news : List UInt8) (hx : a.eval x = .string ⟨news.toArray⟩)
    (b1 : l.length + news.length ≤ 1000000) (hb : base ≤ w.heap.size)
    (hK : ∀ v' w', OwnE encB 5 base v' (l ++ news) w' → Below base w w' → wpList Try.prog ops Q rest (a.put o.dst v') w') :
    wpList Try.prog ops Q (o :: rest) a w := by
  refine wpList_plain hg fun K hK' => ?_
  obtain ⟨v', w', hrun, r1, r2⟩ := run_apdStr w base o.type v l hown news b1 hb
  unfold Oper.wp
  simp [execOp, hop, resolve, invoke, builtin, hs, hx, hrun, Result.andThen]
  exact hK' _ _ (hK v' w' r1 ((Below.refl base w).grown r2 hb (fun k e => (World.ownsRow.lt hown k e).1)))
theorem step_apdStr {ops : Array Oper} {o : Oper} {a : Act} {w : World} {K : Act → World → Prop} {Q : Exit → Act → World → Prop} {E : Prop}
    (hg : o.guard = none) (s x : Operand) (hop : o.op = Op.call { callee := Callee.builtin Builtin.append, args := #[s, x], argTypes := #[22, 9] })
    (base : Nat) (v : Value) (l : List UInt8) (hs : a.eval s = v) (hown : OwnE encB 5 base v l w) (news : List UInt8) (hx : a.eval x = .string ⟨news.toArray⟩)
    (b1 : l.length + news.length ≤ 1000000) (hb : base ≤ w.heap.size)
    (hK : ∀ v' w', OwnE encB 5 base v' (l ++ news) w' → Below base w w' → K (a.put o.dst v') w') :
    if Region.wanted o (yielded ops a.tmps) = true then Oper.wp Try.prog o a w K Q else E := by
  have hw : Region.wanted o (yielded ops a.tmps) = true := by simp [Region.wanted, hg]
  rw [if_pos hw]
  obtain ⟨v', w', hrun, r1, r2⟩ := run_apdStr w base o.type v l hown news b1 hb
  unfold Oper.wp
  simp [execOp, hop, resolve, invoke, builtin, hs, hx, hrun, Result.andThen]
  exact hK v' w' r1 ((Below.refl base w).grown r2 hb (fun k e => (World.ownsRow.lt hown k e).1))
theorem step_apdB {ops : Array Oper} {o : Oper} {a : Act} {w : World} {K : Act → World → Prop} {Q : Exit → Act → World → Prop} {E : Prop}
    (hg : o.guard = none) (s x : Operand) (hop : o.op = Op.call { callee := Callee.builtin Builtin.append, args := #[s, x], argTypes := #[22, 22] })
    (base : Nat) (v : Value) (l : List UInt8) (hs : a.eval s = v) (hown : OwnE encB 5 base v l w) (xv : Value) (news : List UInt8) (hx : a.eval x = xv) (hr : ReadB xv news w)
    (b1 : l.length + news.length ≤ 1000000) (hb : base ≤ w.heap.size)
    (hK : ∀ v' w', OwnE encB 5 base v' (l ++ news) w' → Below base w w' → K (a.put o.dst v') w') :
    if Region.wanted o (yielded ops a.tmps) = true then Oper.wp Try.prog o a w K Q else E := by
  have hw : Region.wanted o (yielded ops a.tmps) = true := by simp [Region.wanted, hg]
  rw [if_pos hw]
  obtain ⟨v', w', hrun, r1, r2, _⟩ := run_apdB (P := Try.prog) w base 22 o.type 5 Try.underlying22 infoByte v l hown xv news hr b1 hb
  unfold Oper.wp
  simp [execOp, hop, resolve, invoke, builtin, hs, hx, hrun, Result.andThen]
  exact hK v' w' r1 r2.below

theorem readB_drop {g off n cap k : Nat} {l : List UInt8} {W : World} (h : ReadB (.slice (some ⟨g, off, none⟩) n cap) l W) (hk : k ≤ l.length) (c' : Nat) : ReadB (.slice (some ⟨g, off + k, none⟩) (n - k) c') (l.drop k) W := by
  obtain ⟨ao, c, e, hc⟩ := h.form
  cases e
  refine ⟨_, c', by rw [List.length_drop], fun j hj => ⟨g, off + k, rfl, ?_⟩⟩
  rw [List.length_drop] at hj
  obtain ⟨b, o, e, h1⟩ := hc (k + j) (by omega)
  cases e
  rw [List.getElem_drop, Nat.add_assoc]
  exact h1
theorem readB_take {g off n cap k : Nat} {l : List UInt8} {W : World} (h : ReadB (.slice (some ⟨g, off, none⟩) n cap) l W) (hk : k ≤ l.length) (c' : Nat) : ReadB (.slice (some ⟨g, off, none⟩) k c') (l.take k) W := by
  obtain ⟨ao, c, e, hc⟩ := h.form
  cases e
  refine ⟨_, c', by rw [List.length_take, Nat.min_eq_left hk], fun j hj => ⟨g, off, rfl, ?_⟩⟩
  rw [List.length_take] at hj
  obtain ⟨b, o, e, h1⟩ := hc j (by omega)
  cases e
  rw [List.getElem_take]
  exact h1
theorem ownE_new0 (W : World) (base : Nat) (hb : base ≤ W.heap.size) : OwnE encB 5 base (.slice (some ⟨W.heap.size, 0, none⟩) 0 0) [] (W.alloc (.cells #[] 5)) :=
  ⟨rfl, .inr ⟨W.heap.size, 0, #[], rfl, hb, World.alloc_heap_new W _, Nat.le_refl _, by decide, rfl, rfl⟩⟩
end Go.Proofs.Ytfmghbmbahembaa

/- MessageCounts, MessageNames: the mathematics. -/
namespace Go.Proofs.Ytfmghbmbahembaa.Ms
open Go.Proofs.Ytfmghbmbahembaa

theorem head_pre {m : M} (hc : check m = true) (hs : (wAll m).size ≤ 4096) : Pre (head m) (wAll m).out := by
  obtain ⟨_, _, _, _, hqs, han, hns, had⟩ := check_split hc
  unfold wAll at hs ⊢
  obtain ⟨k0, k1, k2⟩ := okw_head m
  obtain ⟨S0, e0⟩ : ∃ S0, (WS.new 4096).put (head m) = S0 := ⟨_, rfl⟩
  rw [e0] at k0 k1 k2 hs ⊢
  have m1 := wQs_mono m.qs S0
  have m2 := wRs_mono m.an (m.qs.foldl wQ S0)
  have m3 := wRs_mono m.ns (m.an.foldl wR (m.qs.foldl wQ S0))
  have m4 := wRs_mono m.ad (m.ns.foldl wR (m.an.foldl wR (m.qs.foldl wQ S0)))
  have m5 := wE_mono (m.ad.foldl wR (m.ns.foldl wR (m.an.foldl wR (m.qs.foldl wQ S0)))) m
  obtain ⟨a1, a2, _⟩ := wQs_read m.qs k0 hqs (by omega)
  obtain ⟨b1, b2, _⟩ := wRs_read 0 m.an a1 han.2 (by omega)
  obtain ⟨c1, c2, _⟩ := wRs_read 1 m.ns b1 hns.2 (by omega)
  obtain ⟨d1, d2, _⟩ := wRs_read 2 m.ad c1 had.2 (by omega)
  rw [← k2]
  refine ((a2.trans b2).trans (c2.trans d2)).trans ?_
  unfold wE at hs ⊢
  cases he : m.edns with
  | false => exact Pre.refl _
  | true =>
    rw [he] at hs
    obtain ⟨p1, p2, p3⟩ := okw_put d1 (x := opt m.size) (by rw [opt_len]; exact hs)
    show Pre _ (WS.put _ _).out
    rw [p3]
    exact pre_app _ _
theorem cnt_bytes {a b c : Nat} {e : Bool} (ha : a ≤ 64) (hb : b ≤ 64) (hc : c ≤ 64) {l : List UInt8} (hl : l = (wAll (oneOf a b c e 0 false)).out) (hck : check (oneOf a b c e 0 false) = true) (hs : (wAll (oneOf a b c e 0 false)).size ≤ 4096) :
    (l.getD 7 0).toNat = a ∧ (l.getD 9 0).toNat = b ∧ (l.getD 11 0).toNat = c + (if e then 1 else 0) := by
  have hp := head_pre hck hs
  rw [← hl] at hp
  have e0 : head (oneOf a b c e 0 false) = two 5 ++ two (flags (oneOf a b c e 0 false)) ++ two 1 ++ two ((a : Nat) : Int) ++ two ((b : Nat) : Int) ++ two ((c : Int) + bit e 1) := by
    unfold head oneOf
    simp only [List.length_replicate, List.length_cons, List.length_nil]
    rfl
  rw [e0] at hp
  have p3 := hp
  have p2 := (pre_app _ _).trans p3
  have p1 := (pre_app _ _).trans p2
  have t1 := two_bytes p1 (by omega) (by omega)
  have t2 := two_bytes p2 (by omega) (by omega)
  have hbit : bit e 1 = if e then 1 else 0 := by cases e <;> rfl
  have t3 := two_bytes p3 (by cases e <;> simp [hbit] <;> omega) (by cases e <;> simp [hbit] <;> omega)
  have l1 : (two 5 ++ two (flags (oneOf a b c e 0 false)) ++ two 1).length = 6 := rfl
  have l2 : (two 5 ++ two (flags (oneOf a b c e 0 false)) ++ two 1 ++ two ((a : Nat) : Int)).length = 8 := rfl
  have l3 : (two 5 ++ two (flags (oneOf a b c e 0 false)) ++ two 1 ++ two ((a : Nat) : Int) ++ two ((b : Nat) : Int)).length = 10 := rfl
  rw [l1, show (6 : Nat) + 1 = 7 from rfl] at t1
  rw [l2, show (8 : Nat) + 1 = 9 from rfl] at t2
  rw [l3, hbit, show (10 : Nat) + 1 = 11 from rfl] at t3
  have u1 := (l.getD 7 0).toNat_lt
  have u2 := (l.getD 9 0).toNat_lt
  have u3 := (l.getD 11 0).toNat_lt
  refine ⟨by omega, by omega, ?_⟩
  cases e
  · simp only [Bool.false_eq_true, if_false] at t3 ⊢; omega
  · simp only [if_true] at t3 ⊢; omega
theorem oneOf_all {a b c : Nat} (ha : a ≤ 64) (hb : b ≤ 64) (hc : c ≤ 64) (e : Bool) : check (oneOf a b c e 0 false) = true ∧ (wAll (oneOf a b c e 0 false)).size = 19 + 15 * (a + b + c) + (if e then 11 else 0) ∧ enc (oneOf a b c e 0 false) = ((wAll (oneOf a b c e 0 false)).out, 0) ∧ (wAll (oneOf a b c e 0 false)).out.length = 19 + 15 * (a + b + c) + (if e then 11 else 0) ∧ dec (wAll (oneOf a b c e 0 false)).out = (oneOf a b c e 0 false, true, true) := by
  have hck : check (oneOf a b c e 0 false) = true := by
    rw [oneOf_check a b c ⟨by omega, by omega⟩ (.inl rfl) false, decide_eq_true_eq]; exact ⟨ha, hb, hc⟩
  have hz := oneOf_size a b c e 0 false
  have hs : (wAll (oneOf a b c e 0 false)).size ≤ 4096 := by rw [hz]; split <;> omega
  obtain ⟨_, h2, h3, h4, h5⟩ := back hck hs
  refine ⟨hck, hz, (enc_yes hck hs).1, by rw [h2, hz], ?_⟩
  unfold dec
  rw [if_neg (by omega), h4]
end Go.Proofs.Ytfmghbmbahembaa.Ms

/- A message that is filled by appends to its lists, no record beside: for the law of names. -/
namespace Go.Proofs.Ytfmghbmbahembaa
open Go.RowKit Go.Shelf Go.Maps
attribute [local go_sem] Oper.semAt_some

/-- A message's box B (what lies below it is as it was in W0). -/
structure Cm (W0 : World) (B hi : Nat) (cs : List Value) (W : World) : Prop where
  blk : Block W B cs.toArray 27
  was : B = W0.heap.size
  lt : B < hi
  his : hi ≤ W.heap.size
  bel : Below B W0 W
section
variable {W0 : World} {B : Nat} {hi : Nat} {cs : List Value} {W W' : World}
theorem Cm.below (h : Cm W0 B hi cs W) (hb : Below W.heap.size W W') : Cm W0 B hi cs W' :=
  ⟨h.blk.below hb, h.was, h.lt, Nat.le_trans h.his hb.size, h.bel.trans (hb.mono (by have := h.his; have := h.lt; omega))⟩
theorem Cm.alloc (h : Cm W0 B hi cs W) (o : Obj) : Cm W0 B hi cs (W.alloc o) := h.below ((Below.refl _ W).alloc (Nat.le_refl _) o)
theorem Cm.set (h : Cm W0 B hi cs W) (i : Nat) (v : Value) : Cm W0 B hi (cs.set i v) (W.setCell ⟨B, i, none⟩ v) := by
  have hs : (W.setCell ⟨B, i, none⟩ v).heap.size = W.heap.size := by simp [World.setCell]
  refine ⟨?_, h.was, h.lt, by have := h.his; omega, h.bel.setCell (p := ⟨B, i, none⟩) (Nat.le_refl _) v⟩
  have := h.blk.set i v
  rwa [show cs.toArray.setIfInBounds i v = (cs.set i v).toArray by simp] at this
theorem Cm.apd {α : Type} {enc : α → List Value} {k : Nat} {e : TypeId} {v : Value} {l : List α} (h : Cm W0 B hi cs W) (ho : OwnK enc k e hi v l W) (hg : W.grownBy W' v.ownBlock) : Cm W0 B hi cs W' := by
  have hbl := below_ownK ho hg h.his
  have h1 := h.lt
  exact ⟨(hbl.block B (by omega)).trans h.blk, h.was, h.lt, Nat.le_trans h.his hg.size, h.bel.trans (hbl.mono (by omega))⟩
end
theorem readR_blk {W : World} {g : Nat} {l : List Rd.RR} (h : Block W g (l.flatMap encRR).toArray 45) : ReadR (.slice (some ⟨g, 0, none⟩) l.length l.length) l W :=
  ⟨_, _, rfl, fun j hj => by
    have f : ∀ i v, i < 5 → (encRR l[j])[i]? = some v → W.cell? ⟨g, 0 + j * 5 + i, none⟩ = some v := fun i v hi hv => by
      rw [Nat.zero_add]
      exact h.cell (by rw [List.getElem?_toArray, flat_get encRR 5 encRR_len l j i hj hi]; exact hv)
    exact ⟨g, 0, rfl, f 0 _ (by omega) rfl, f 1 _ (by omega) rfl, f 2 _ (by omega) rfl, f 3 _ (by omega) rfl, f 4 _ (by omega) rfl⟩⟩
theorem mem_triples {n : List UInt8} {r : Rd.RR} : ∀ {k : Nat}, r ∈ Ms.triples n k → r = Ms.mxR n ∨ r = Ms.srvR n ∨ r = Ms.rawR n
  | 0, h => (List.not_mem_nil h).elim
  | k + 1, h => by
    unfold Ms.triples at h
    rcases List.mem_append.1 h with h | h
    · exact mem_triples h
    · simpa using h
theorem few_triples {n : List UInt8} {k top : Nat} (hn : n.length ≤ 100) (hk : k ≤ 20) (ht : 106 ≤ top) : FewR (Ms.triples n k) top :=
  ⟨by rw [Ms.triples_len]; omega, fun r hr => by
    rcases mem_triples hr with rfl | rfl | rfl
    · exact ⟨by show n.length ≤ top; omega, by show (_ ++ n).length ≤ top; rw [List.length_append]; simp; omega⟩
    · exact ⟨by show n.length ≤ top; omega, by show (_ ++ n).length ≤ top; rw [List.length_append]; simp; omega⟩
    · exact ⟨by show n.length ≤ top; omega, by show n.length ≤ top; omega⟩⟩
theorem slim_names {n : List UInt8} {k : Nat} (hn : n.length ≤ 100) (hk : k ≤ 20) : Slim (Ms.namesM n k) :=
  ⟨(by decide : 1 ≤ 100000), fun q hq => by
    have : q = ⟨n, 1, 1⟩ := by simpa [Ms.namesM] using hq
    rw [this]; show n.length ≤ 100000; omega, few_triples hn hk (by omega), few_nil _, few_nil _⟩
theorem short_names {n : List UInt8} {k : Nat} (hk : k ≤ 20) : Short (Ms.namesM n k) :=
  ⟨(by decide : 1 ≤ 1000000), by show (Ms.triples n k).length ≤ _; rw [Ms.triples_len]; omega, Nat.zero_le _, Nat.zero_le _⟩
theorem names_all {n : List UInt8} (hv : Nm.valid n = true) (hr : n ≠ [0]) {k z : Nat} (hk : k ≤ 20) (hz : z = 16 + n.length + k * (46 + 2 * n.length)) :
    (4096 < z → Ms.enc (Ms.namesM n k) = ([], 3)) ∧ (z ≤ 4096 → ∃ l, Ms.enc (Ms.namesM n k) = (l, 0) ∧ l.length = z ∧ Ms.dec l = (Ms.namesM n k, true, true)) := by
  have hck : Ms.check (Ms.namesM n k) = true := by rw [Ms.namesM_check hv, decide_eq_true_eq]; omega
  have hs := Ms.namesM_size hv hr k
  rw [← hz] at hs
  refine ⟨fun h => Ms.enc_big hck (by omega), fun h => ⟨_, (Ms.enc_yes hck (by omega)).1, by rw [(Ms.enc_yes hck (by omega)).2, hs], ?_⟩⟩
  obtain ⟨_, h2, h3, h4, _⟩ := Ms.back hck (by omega)
  unfold Ms.dec
  rw [if_neg (by omega), h4]
end Go.Proofs.Ytfmghbmbahembaa

/- MessageNames. -/
namespace Go.Proofs.Ytfmghbmbahembaa
open Go.RowKit Go.Shelf Go.Maps
attribute [local go_sem] Oper.semAt_some

set_option maxRecDepth 100000 in
set_option maxHeartbeats 8000000 in
theorem msgNames_any (AW : ∀ W, Calls Try.prog 11 #[] W fun e w' => e = .returned (.bool true) ∧ Below W.heap.size W w') (n : List UInt8) (z1 : Int) (w : World) (hn0 : n.length ≤ 9223372036854775807) :
    Calls Try.prog 10 #[.string ⟨n.toArray⟩, .int .i64 z1] w fun e w' => e = .returned (.bool true) ∧ Below w.heap.size w w' := by
  have HAW := Lib.hid AW
  clear AW
  have hsz : (⟨n.toArray⟩ : ByteArray).size = n.length := by show n.toArray.size = _; simp
  by_cases hl : n.length ≤ 100
  · have RV := Lib.hid (fun W => rvalid_any n W (by omega))
    obtain ⟨y, hy⟩ : ∃ y, Nm.valid n = y := ⟨_, rfl⟩
    rw [hy] at RV
    have HY := Lib.hid hy
    obtain ⟨q, hq⟩ : ∃ q, (n == [0]) = q := ⟨_, rfl⟩
    clear hy
    have e0 : (y = true ∧ q = false ∧ 0 ≤ z1 ∧ z1 ≤ 20) ∨ (y = false) ∨ (y = true ∧ q = true) ∨ (y = true ∧ q = false ∧ z1 < 0) ∨ (y = true ∧ q = false ∧ 0 ≤ z1 ∧ 20 < z1) := by
      cases y <;> cases q <;> simp <;> omega
    rcases e0 with ⟨rfl, rfl, a1, a2⟩ | rfl | ⟨rfl, rfl⟩ | ⟨rfl, rfl, a1⟩ | ⟨rfl, rfl, a1, a2⟩
    · obtain ⟨T, rfl⟩ := Int.eq_ofNat_of_zero_le a1
      have hT : T ≤ 20 := by omega
      go_enter Try.func10, Try.ntmps10
      go_wp2_with fail
      refine (RV.out _).mono ?_
      rintro e wV ⟨rfl, bV⟩
      go_wp2_with fail
      obtain ⟨wQ, hwQ⟩ : ∃ W, wV.alloc (.cells #[.string ⟨n.toArray⟩, .int .i64 1, .int .i64 1] 47) = W := ⟨_, rfl⟩
      have bQ : Below wV.heap.size wV wQ := by rw [← hwQ]; exact (Below.refl _ _).alloc (Nat.le_refl _) _
      have kQ : Block wQ wV.heap.size #[.string ⟨n.toArray⟩, .int .i64 1, .int .i64 1] 47 := by rw [← hwQ]; exact Block.new _ _ _
      have hsQ : wQ.heap.size = wV.heap.size + 1 := by rw [← hwQ]; simp
      have RQ : ReadQ (.slice (some ⟨wV.heap.size, 0, none⟩) 1 1) [⟨n, 1, 1⟩] wQ := ⟨_, _, rfl, fun j hj => by
        have hj0 : j = 0 := by simp at hj; exact hj
        subst hj0
        exact ⟨wV.heap.size, 0, rfl, kQ.cell (i := 0) rfl, kQ.cell (i := 1) rfl, kQ.cell (i := 2) rfl⟩⟩
      obtain ⟨W1, hW1⟩ : ∃ W, wQ.alloc (.cells #[.int .i64 0, .bool false, .int .i64 0, .bool false, .bool false, .bool false, .bool false, .int .i64 0, .slice (some ⟨wV.heap.size, 0, none⟩) 1 1, .slice none 0 0, .slice none 0 0, .slice none 0 0, .bool false, .int .i64 0] 27) = W := ⟨_, rfl⟩
      have bW : Below wQ.heap.size wQ W1 := by rw [← hW1]; exact (Below.refl _ _).alloc (Nat.le_refl _) _
      have kB : Block W1 wQ.heap.size #[.int .i64 0, .bool false, .int .i64 0, .bool false, .bool false, .bool false, .bool false, .int .i64 0, .slice (some ⟨wV.heap.size, 0, none⟩) 1 1, .slice none 0 0, .slice none 0 0, .slice none 0 0, .bool false, .int .i64 0] 27 := by rw [← hW1]; exact Block.new _ _ _
      have hsW : W1.heap.size = wQ.heap.size + 1 := by rw [← hW1]; simp
      have HBV := Lib.hid (bV.trans (bQ.mono bV.size))
      rw [hwQ, hW1]
      have HC : Hid (Cm wQ wQ.heap.size (wQ.heap.size + 1) [.int .i64 0, .bool false, .int .i64 0, .bool false, .bool false, .bool false, .bool false, .int .i64 0, .slice (some ⟨wV.heap.size, 0, none⟩) 1 1, .slice none 0 0, .slice none 0 0, .slice none 0 0, .bool false, .int .i64 0] W1) := Lib.hid ⟨kB, rfl, Nat.lt_succ_self _, by omega, bW⟩
      have HRQ := Lib.hid RQ
      obtain ⟨G, hG⟩ : ∃ G, wV.heap.size = G := ⟨_, rfl⟩
      rw [hG] at HC HRQ hsQ ⊢
      obtain ⟨B, hB⟩ : ∃ B, wQ.heap.size = B := ⟨_, rfl⟩
      rw [hB] at HC hsQ
      rw [← hsQ]
      obtain ⟨H0, hH0⟩ : ∃ H, B + 1 = H := ⟨_, rfl⟩
      rw [hH0] at HC
      have ap1 : (⟨#[49, 50]⟩ : ByteArray) ++ ⟨n.toArray⟩ = ⟨([49, 50] ++ n).toArray⟩ := app_bytes [49, 50] n
      have ap2 : (⟨#[49, 50, 51, 52, 53, 54]⟩ : ByteArray) ++ ⟨n.toArray⟩ = ⟨([49, 50, 51, 52, 53, 54] ++ n).toArray⟩ := app_bytes [49, 50, 51, 52, 53, 54] n
      obtain ⟨D1, hD1⟩ : ∃ D, (⟨([49, 50] ++ n).toArray⟩ : ByteArray) = D := ⟨_, rfl⟩
      obtain ⟨D2, hD2⟩ : ∃ D, (⟨([49, 50, 51, 52, 53, 54] ++ n).toArray⟩ : ByteArray) = D := ⟨_, rfl⟩
      rw [hD1] at ap1
      rw [hD2] at ap2
      have HD1 := Lib.hid hD1
      have HD2 := Lib.hid hD2
      clear hwQ bQ kQ RQ hW1 bW kB hsW bV hG hsQ hH0 hD1 hD2
      go_loopw [6, 7] (fun s i wx => ∃ (k z : Nat) (v : Value), s = .int .i64 (z : Int) ∧ i = .int .i64 (k : Int) ∧ k ≤ T ∧ z ≤ 5036 ∧ Hid (z = 16 + n.length + k * (46 + 2 * n.length)) ∧ Hid (OwnK encRR 5 45 H0 v (Ms.triples n k) wx) ∧ Hid (Cm wQ B H0 [.int .i64 0, .bool false, .int .i64 0, .bool false, .bool false, .bool false, .bool false, .int .i64 0, .slice (some ⟨G, 0, none⟩) 1 1, v, .slice none 0 0, .slice none 0 0, .bool false, .int .i64 0] wx)) (fun _ i _ => T + 1 - (intOf i).toNat)
      case atStart => exact ⟨0, 16 + n.length, _, by go_num, rfl, by omega, by omega, Lib.hid (by omega), Lib.hid (ownK_nil _ _ _ _ _), HC⟩
      case round =>
        obtain ⟨k, z, v, rfl, rfl, hk, hz, hzz, ho, hb⟩ := hrel
        by_cases hlt : k < T
        · obtain ⟨ao, cp, rfl, _⟩ := ownK_form ho.out
          simp only [Ms.triples_len] at ho hb
          have hlt' := hb.out.lt
          have c9 := hb.out.blk.cell (i := 9) (v := .slice ao (3 * k) cp) rfl
          have hzn : z + 46 + 2 * n.length = 16 + n.length + (k + 1) * (46 + 2 * n.length) := by
            rw [hzz.out]
            have := Nat.add_mul k 1 (46 + 2 * n.length)
            omega
          have hzb : z + 46 + 2 * n.length ≤ 5036 := by
            have : (k + 1) * (46 + 2 * n.length) ≤ 20 * 246 := Nat.mul_le_mul (by omega) (by omega)
            omega
          have HZN := Lib.hid hzn
          clear HC hzn
          go_wp2_with (at_builtin; refine wpList_apR _ rfl _ _ rfl H0 _ _ rfl (ownK_alloc ho.out _) _ [Ms.mxR n, Ms.srvR n, Ms.rawR n] rfl (show ReadR (.slice (some ⟨wr.heap.size, 0, none⟩) 3 3) [Ms.mxR n, Ms.srvR n, Ms.rawR n] _ from readR_blk (l := [Ms.mxR n, Ms.srvR n, Ms.rawR n]) (by show Block _ _ #[.string ⟨n.toArray⟩, .int .i64 15, .int .i64 1, .int .i64 0, .string ⟨([49, 50] ++ n).toArray⟩, .string ⟨n.toArray⟩, .int .i64 33, .int .i64 1, .int .i64 0, .string ⟨([49, 50, 51, 52, 53, 54] ++ n).toArray⟩, .string ⟨n.toArray⟩, .int .i64 99, .int .i64 1, .int .i64 0, .string ⟨n.toArray⟩] _; rw [HD1.out, HD2.out]; exact Block.new _ _ _)) (by simp [Ms.triples_len]; omega) (hb.out.alloc _).his ?_; intro v8 w8 ho8 hg8 _; obtain ⟨ao8, cp8, rfl, _⟩ := ownK_form ho8; simp only [List.length_append, Ms.triples_len, List.length_cons, List.length_nil, Nat.zero_add, Nat.reduceAdd] at ho8 hg8 ⊢; have B8 := Lib.hid ((hb.out.alloc _).apd (ownK_alloc ho.out _) hg8); have O8 := Lib.hid ho8; have c98 := B8.out.blk.cell (i := 9) (v := .slice ao (3 * k) cp) rfl; have f98 := B8.out.blk.frozen 9; clear ho8 hg8)
          go_roundw
          case rel => exact ⟨k + 1, z + 46 + 2 * n.length, _, by go_num, by go_num, by omega, hzb, HZN, Lib.hid (ownK_set O8.out (by omega)), Lib.hid (B8.out.set 9 _)⟩
          case measure => simp [intOf]; omega
        · obtain rfl : T = k := by omega
          obtain ⟨ao0, cp0, rfl, _⟩ := ownK_form ho.out
          simp only [Ms.triples_len] at ho hb
          have bW : Below wQ.heap.size wQ wr := by rw [hB]; exact hb.out.bel
          have LW : Lists (Ms.namesM n T) (.slice (some ⟨G, 0, none⟩) 1 1) (.slice ao0 (3 * T) cp0) (.slice none 0 0) (.slice none 0 0) wr := ⟨readQ_below HRQ.out bW, readR_own ho.out, readR_nil _, readR_nil _⟩
          have BW := Lib.hid (HBV.out.trans (bW.mono HBV.out.size))
          have KW : Block wr B #[.int .i64 0, .bool false, .int .i64 0, .bool false, .bool false, .bool false, .bool false, .int .i64 0, .slice (some ⟨G, 0, none⟩) 1 1, .slice ao0 (3 * T) cp0, .slice none 0 0, .slice none 0 0, .bool false, .int .i64 0] 27 := hb.out.blk
          have KH := Lib.hid KW
          have c0 := KW.cell (i := 0) (v := .int .i64 0) rfl
          have c1 := KW.cell (i := 1) (v := .bool false) rfl
          have c2 := KW.cell (i := 2) (v := .int .i64 0) rfl
          have c3 := KW.cell (i := 3) (v := .bool false) rfl
          have c4 := KW.cell (i := 4) (v := .bool false) rfl
          have c5 := KW.cell (i := 5) (v := .bool false) rfl
          have c6 := KW.cell (i := 6) (v := .bool false) rfl
          have c7 := KW.cell (i := 7) (v := .int .i64 0) rfl
          have c8 := KW.cell (i := 8) (v := .slice (some ⟨G, 0, none⟩) 1 1) rfl
          have c9 := KW.cell (i := 9) (v := .slice ao0 (3 * T) cp0) rfl
          have c10 := KW.cell (i := 10) (v := .slice none 0 0) rfl
          have c11 := KW.cell (i := 11) (v := .slice none 0 0) rfl
          have c12 := KW.cell (i := 12) (v := .bool false) rfl
          have c13 := KW.cell (i := 13) (v := .int .i64 0) rfl
          have hne : n ≠ [0] := by intro e; rw [e] at hq; cases hq
          have hz16 : 16 ≤ z := by have := hzz.out; omega
          obtain ⟨N1, N2⟩ := names_all HY.out hne hT hzz.out
          clear hb ho bW KW hlt hk HRQ HBV HC hzz
          have EN := Lib.hid (enc_any (Ms.namesM n T) _ _ _ _ wr LW (slim_names hl hT) (few_triples hl hT (by omega)) (few_nil _) (few_nil _))
          unfold EncRet at EN
          by_cases hbig : 4096 < z
          · rw [N1 hbig] at EN
            clear N1 N2
            go_wp2_with fail
            refine EN.out.mono ?_
            rintro e w2 ⟨v, rfl, ho2, b2⟩
            have B2 := Lib.hid (BW.out.trans (b2.mono BW.out.size))
            obtain ⟨av, nv, cv, rfl⟩ := own_shape ho2
            clear ho2 b2
            go_wp2_with fail
            refine (HAW.out _).mono ?_
            rintro e w11 ⟨rfl, b11⟩
            go_wp2_with fail
            go_ret
            exact ⟨rfl, B2.out.trans (b11.mono B2.out.size)⟩
          · obtain ⟨l, e1, e2, e3⟩ := N2 (by omega)
            rw [e1] at EN
            clear N1 N2 e1
            have hbig' : z ≤ 4096 := by omega
            go_wp2_with fail
            refine EN.out.mono ?_
            rintro e w2 ⟨v, rfl, ho2, b2⟩
            replace ho2 : OwnE encB 5 wr.heap.size v l w2 := ho2
            obtain ⟨g, cap, rfl, _, cur, hcur, _, hcl⟩ := own_lit ho2 (by intro e; rw [show l = [] from e] at e2; simp at e2; omega)
            have K2 := Lib.hid (KH.out.below b2)
            have L2 := Lib.hid (LW.below b2)
            have B2 := Lib.hid (BW.out.trans (b2.mono BW.out.size))
            have hd := readB_own ho2
            have hca := capOk_own ho2
            have D := Lib.hid (decode_any l _ w2 hd hca (by show l.length ≤ 100000; omega))
            unfold DecRet at D
            rw [e3] at D
            rw [e2] at D hcl ⊢
            clear ho2 b2 hd hca e2 e3 LW KH EN hcur c0 c1 c2 c3 c4 c5 c6 c7 c8 c9 c10 c11 c12 c13
            go_wp2_with fail
            refine D.out.mono ?_
            rintro e w8 ⟨vq8, va8, vn8, vd8, rfl, hL8, b8⟩
            have L8 := Lib.hid (L2.out.below b8)
            have K8 := K2.out.below b8
            have B8 := Lib.hid (B2.out.trans (b8.mono B2.out.size))
            obtain ⟨a08, c08, a18, c18, a28, c28, a38, c38, rfl, rfl, rfl, rfl⟩ := lists_form hL8
            rw [show (Ms.namesM n T).an.length = 3 * T from Ms.triples_len n T] at hL8
            have LX := Lib.hid hL8
            have r0 := fun o => (K8.alloc o).cell (i := 0) (v := .int .i64 0) rfl
            have r1 := fun o => (K8.alloc o).cell (i := 1) (v := .bool false) rfl
            have r2 := fun o => (K8.alloc o).cell (i := 2) (v := .int .i64 0) rfl
            have r3 := fun o => (K8.alloc o).cell (i := 3) (v := .bool false) rfl
            have r4 := fun o => (K8.alloc o).cell (i := 4) (v := .bool false) rfl
            have r5 := fun o => (K8.alloc o).cell (i := 5) (v := .bool false) rfl
            have r6 := fun o => (K8.alloc o).cell (i := 6) (v := .bool false) rfl
            have r7 := fun o => (K8.alloc o).cell (i := 7) (v := .int .i64 0) rfl
            have r8 := fun o => (K8.alloc o).cell (i := 8) (v := .slice (some ⟨G, 0, none⟩) 1 1) rfl
            have r9 := fun o => (K8.alloc o).cell (i := 9) (v := .slice ao0 (3 * T) cp0) rfl
            have r10 := fun o => (K8.alloc o).cell (i := 10) (v := .slice none 0 0) rfl
            have r11 := fun o => (K8.alloc o).cell (i := 11) (v := .slice none 0 0) rfl
            have r12 := fun o => (K8.alloc o).cell (i := 12) (v := .bool false) rfl
            have r13 := fun o => (K8.alloc o).cell (i := 13) (v := .int .i64 0) rfl
            clear hL8 b8 K8 D
            simp only [msgV, errOf_true, Ms.namesM, Ms.M.zero, Ms.triples_len, List.length_nil, List.length_cons, Nat.zero_add] at r0 ⊢
            go_wp2_with fail
            refine (message_same (Ms.namesM n T) (.slice a08 1 c08) (.slice a18 (3 * T) c18) (.slice a28 0 c28) (.slice a38 0 c38) (.slice (some ⟨G, 0, none⟩) 1 1) (.slice ao0 (3 * T) cp0) (.slice none 0 0) (.slice none 0 0) _ (LX.out.below ((Below.refl _ _).alloc (Nat.le_refl _) _)) (L8.out.below ((Below.refl _ _).alloc (Nat.le_refl _) _)) (short_names hT)).mono ?_
            rintro e w9 ⟨rfl, b9⟩
            have B9 := Lib.hid ((B8.out.alloc B8.out.size _).trans (b9.mono ((B8.out.alloc B8.out.size _)).size))
            clear b9 r0 r1 r2 r3 r4 r5 r6 r7 r8 r9 r10 r11 r12 r13
            go_wp2_with fail
            refine (HAW.out _).mono ?_
            rintro e w11 ⟨rfl, b11⟩
            go_wp2_with fail
            go_ret
            exact ⟨rfl, B9.out.trans (b11.mono B9.out.size)⟩
    all_goals
      go_enter Try.func10, Try.ntmps10
      go_wp2_with fail
      refine (RV.out _).mono ?_
      rintro e wV ⟨rfl, bV⟩
      go_wp2_with fail
      refine (HAW.out _).mono ?_
      rintro e w1 ⟨rfl, b1⟩
      go_wp2_with fail
      go_ret
      exact ⟨rfl, bV.trans (b1.mono bV.size)⟩
  · have hl' : 100 < n.length := by omega
    go_enter Try.func10, Try.ntmps10
    go_wp2_with fail
    refine (HAW.out _).mono ?_
    rintro e w1 ⟨rfl, b1⟩
    go_wp2_with fail
    go_ret
    exact ⟨rfl, b1⟩
end Go.Proofs.Ytfmghbmbahembaa

/- MessageNames of package freshetlaw4 (a name that a message has many times stands there once; the data's names are squeezed where the document says, and whole where it says that) returns true at every string and int.
   Conditions: those of the row, none beside. -/
namespace Go.Proofs.Ytfmghbmbahembaa.messageNames
open Go.ChangeShapes Go.WideShapes Go.ChangeAt Go.RowKit

set_option maxRecDepth 100000 in
theorem contract (H : Type) (enc : TypeId × Value → H) (W : World) (base : Nat) (args : Array Value) (ds gs : List (DataW H)) (before : List MemPlace)
    (hval : ∀ (j : Nat) t v, Try.f10.params[j]? = some t → args[j]? = some v → Value.okWide Try.prog W .any base t v)
    (hW : DataW.Whole enc Try.prog Try.f10.params.toList Rows.messageNamesSpec.vars false W args.toList ds gs before) (_hL : laidMetH Try.prog laidList W) :
    Calls Try.prog 10 args W fun e W' => ∃ v, e = .returned v ∧ Rows.messageNamesSpec.post enc Try.prog Try.f10 false true false false W args v W' := by
  have hW' := hW
  obtain ⟨p, q, hA0, hV, rfl, _, _⟩ := hW
  have hA : DataW.TrodAll enc Try.prog W 0 (fun _ => true) true Try.f10.params.toList args.toList ds p := hA0
  clear hA0
  rw [Try.params10] at hA hval
  obtain ⟨v0, vs0, d0, ds0, p0, q0, hargs0, rfl, rfl, h0, r0⟩ := trodAll_cons hA
  obtain ⟨v1, vs1, d1, ds1, p1, q1, hargs1, rfl, rfl, h1, r1⟩ := trodAll_cons r0
  subst hargs1
  obtain ⟨rfl, rfl, rfl⟩ := trodAll_nil r1
  obtain rfl : args = #[v0, v1] := by cases args; simp_all
  obtain ⟨rfl, rfl⟩ := trodVars_none hV
  obtain ⟨l0, rfl, hl0⟩ := arg_string (hval 0 _ _ rfl rfl) h0
  obtain ⟨z1, rfl, hz1⟩ := arg_int (hval 1 _ _ rfl rfl) h1
  refine (msgNames_any awake_any l0 z1 W hl0).mono fun e W' ⟨he, hbl⟩ => ?_
  exact ⟨_, he, law_post hW' rfl hbl rfl rfl (fun t ht => readT t (by rw [Try.params10] at ht; exact (show ∀ t ∈ (#[9, 3] : Array TypeId).toList, t ∈ [9, 3, 4, 22, 27] by decide) t ht))⟩

set_option maxRecDepth 100000 in
theorem reads (os : Os) {H : Type} (enc : TypeId × Value → H) : ∃ places, DataW.whole enc Try.prog ((laidWorld os).forCall (fun _ _ => 0) ⟨#[], #[.string ⟨#[]⟩, .int .i64 0], []⟩).memory Try.f10.params.toList Rows.messageNamesSpec.vars false (#[.string ⟨#[]⟩, .int .i64 0] : Array Value).toList 8 = some ([.lit (.string []), .lit (.int .i64 0)], [], places) :=
  ⟨[], by kernel_rfl⟩

set_option maxRecDepth 100000 in
theorem lifted (os : Os) (started : os.Started) (H : Type) (enc : TypeId × Value → H) (F : Stop.Interp) :
    ReturnsInHanded {} Try.checked os 10 .any ((OpenSpec.ofChange Rows.messageNamesSpec).preRow enc Try.prog Try.f10 Rows.messageNamesRow.domain false Rows.messageNamesRow.laid) (((OpenSpec.ofChange Rows.messageNamesSpec).at F).post enc Try.prog Try.f10 false true false false) := by
  obtain ⟨places, hx⟩ := reads os enc
  refine returnsInHanded_of_row (C := Try.checked) (s := OpenSpec.ofChange Rows.messageNamesSpec) own started (by kernel_rfl) Try.func10
    (witness_row_atRef (enc := enc) (C := Try.checked) false (laidWorld os) #[.string ⟨#[]⟩, .int .i64 0] rfl (by kernel_rfl) (by kernel_rfl) (by kernel_rfl)
      (OpenSpec.preRow_of_cond 8 hx (by kernel_rfl) (fun k hk => by cases hk) (by kernel_rfl) (laid_met os _))) ?_
  intro W base args ds gs before hval hW _ _ _ hL _ _
  exact contract H enc W base args ds gs before hval hW hL

theorem said : Rows.MessageNamesSaid :=
  OpenClaim.holds_of_cond 10 Try.f10 rfl rfl rfl rfl rfl rfl rfl ⟨rfl, rfl, rfl, rfl, rfl⟩ rfl rfl rfl rfl rfl (by kernel_rfl) Try.func10 (by kernel_rfl)
    (of_decide_eq_true (by kernel_rfl)) (by unfold Func.isWrapper; first | (rw [if_pos (by decide +kernel)]; kernel_rfl) | (rw [if_neg (by decide +kernel)]; exact ⟨rfl, rfl⟩))
    (fun os started H enc _ F => by rw [OpenClaim.pre_eq_preRow]; exact lifted os started H enc F)
end Go.Proofs.Ytfmghbmbahembaa.messageNames
