/- 4 texts put together: Apush, Ahead, Aput, Ahan. -/
import Derived.Maps.AppendAt
import Derived.Test.YtagjjpmhacknpaaDoorJB1
/- push. -/
set_option maxRecDepth 100000
namespace Go.Proofs.YtagjjpmhacknpaaDoor
open Go.RowKit Go.Shelf
theorem infoN : (Tryd.prog.info? 93).map (fun i => (i.zero, i.size, i.bytes)) = some (some (.agg #[.int .i64 0, .int .i64 0, .int .i64 0]), 3, 24) := by kernel_rfl
theorem run_apN (w : World) (ty : TypeId) (N cap : Nat) (rest : List Value) (ns : List Ar.Node) (hN : Blk w N (encNs ns ++ rest) 93) (hcap : rest.length + 3 * ns.length = 3 * cap) (hlen : ns.length ≤ 200000) (hcm : cap ≤ maxLen) (ad : Addr) (x : Ar.Node)
    (hc : ∀ j u, (encN x)[j]? = some u → w.cell? (ad.add j) = some u) :
    ∃ N' cap' rest' w', (Builtin.append_ #[61, 61] ty #[.slice (some ⟨N, 0, none⟩) ns.length cap, .slice (some ad) 1 1]).run Tryd.prog w = .ok (.slice (some ⟨N', 0, none⟩) (ns.length + 1) cap') w' ∧
      Blk w' N' (encNs (ns ++ [x]) ++ rest') 93 ∧ rest'.length + 3 * (ns.length + 1) = 3 * cap' ∧ cap' ≤ maxLen ∧ Trn (fun k => k = N) w w' ∧ (N' = N ∨ w.heap.size ≤ N') := by
  obtain ⟨i, hi, hz0, hz1, hz2⟩ := info_parts infoN
  have hown : w.ownsRow 0 93 3 (.slice (some ⟨N, 0, none⟩) ns.length cap) ns.length (encNs ns) :=
    ⟨by rw [encNs_len]; omega, .inr ⟨N, cap, (encNs ns ++ rest).toArray, rfl, Nat.zero_le _, hN, by omega, hcm, by simp [encNs_len]; omega, by rw [show ns.length * 3 = (encNs ns).length by rw [encNs_len]; omega]; simp⟩⟩
  obtain ⟨v', w', hr, ho, hg, hnil, hloc⟩ := run_append_own_at (P := Tryd.prog) w 0 61 ty 93 i _ 3 24 Tryd.underlying61 hi hz0 hz1 hz2 rfl (by decide) _ ns.length (encNs ns) hown ad 1 1 (encN x) rfl hc (fun u hu => by simp [encN] at hu; rcases hu with rfl | rfl | rfl <;> rfl) (by unfold maxLen; omega) (by omega) (Nat.zero_le _)
  rcases ho.2 with ⟨_, h0⟩ | ⟨N', cap', cur, rfl, _, hh, hle, hcm', hcs, htk⟩
  · omega
  refine ⟨N', cap', (cur.toList.drop ((ns.length + 1) * 3)), w', hr, ?_, ?_, hcm', ⟨hg.os, hg.tape, hg.output, hg.size, fun k hk hn => hg.block k hk (fun e => hn (by cases e; rfl)), fun k o hk hb => ?_⟩, ?_⟩
  · show w'.heap[N']? = _
    rw [hh, encNs_app, show encNs [x] = encN x by simp [encNs], ← htk, List.take_append_drop]
  · rw [List.length_drop, Array.length_toList, hcs]; omega
  · refine (hg.block k (Array.getElem?_eq_some_iff.1 hk).1 (fun e => ?_)).trans hk
    cases e
    rw [show w.heap[N]? = _ from hN] at hk
    cases hk
    cases hb
  · rcases hloc with e | e
    · left; simpa [Value.ownBlock] using e
    · right; simp [Value.ownBlock] at e; omega
theorem wpList_apN (w : World) {ops : Array Oper} {rst : List Oper} {o : Oper} {a : Act} {Q : Exit → Act → World → Prop} (hg : o.guard = none) (s x : Operand)
    (hop : o.op = Op.call { callee := Callee.builtin Builtin.append, args := #[s, x], argTypes := #[61, 61] })
    (N cap : Nat) (rest : List Value) (ns : List Ar.Node) (hs : a.eval s = .slice (some ⟨N, 0, none⟩) ns.length cap) (hN : Blk w N (encNs ns ++ rest) 93) (hcap : rest.length + 3 * ns.length = 3 * cap) (hlen : ns.length ≤ 200000) (hcm : cap ≤ maxLen) (ad : Addr) (y : Ar.Node)
    (hx : a.eval x = .slice (some ad) 1 1) (hc : ∀ j u, (encN y)[j]? = some u → w.cell? (ad.add j) = some u)
    (hK : ∀ N' cap' rest' w', Blk w' N' (encNs (ns ++ [y]) ++ rest') 93 → rest'.length + 3 * (ns.length + 1) = 3 * cap' → cap' ≤ maxLen → Trn (fun k => k = N) w w' → (N' = N ∨ w.heap.size ≤ N') → wpList Tryd.prog ops Q rst (a.put o.dst (.slice (some ⟨N', 0, none⟩) (ns.length + 1) cap')) w') :
    wpList Tryd.prog ops Q (o :: rst) a w := by
  refine wpList_plain hg fun K hK' => ?_
  obtain ⟨N', cap', rest', w', hrun, r1, r2, r3, r4, r5⟩ := run_apN w o.type N cap rest ns hN hcap hlen hcm ad y hc
  unfold Oper.wp
  simp [execOp, hop, resolve, invoke, builtin, hs, hx, hrun, Result.andThen]
  exact hK' _ _ (hK N' cap' rest' w' r1 r2 r3 r4 r5)
namespace Ar
structure PushR where
  nd : List Node
  k : Nat
  spare : Nat
def push (nd : List Node) (spare list value : Nat) : PushR :=
  let k := if spare = 0 then nd.length else spare
  let nd1 := if spare = 0 then nd ++ [⟨0, 0, 0⟩] else nd
  let nd2 := setV nd1 k value
  ⟨link (link nd2 k (nodeAt nd2 list).n) list k, k, if spare = 0 then 0 else (nodeAt nd spare).n⟩
end Ar
/-- What push leaves. -/
def PushRet (C o : Nat) (tC : TypeId) (bx : List Value) (N : Nat) (R : Ar.PushR) (w : World) (e : Ending) (w' : World) : Prop :=
  e = .returned (.int .i64 (R.k : Int)) ∧ ∃ N' cap' rest', (N' = N ∨ w.heap.size ≤ N') ∧ Trn (fun k => k = C ∨ k = N) w w' ∧ ChE C o tC ((bx.set o (.slice (some ⟨N', 0, none⟩) R.nd.length cap')).set (o + 1) (encI R.spare)) N' cap' rest' R.nd R.spare w'
theorem Ar.nodeAt_app (ns : List Ar.Node) (x : Ar.Node) (i : Nat) (h : i < ns.length) : Ar.nodeAt (ns ++ [x]) i = Ar.nodeAt ns i := by
  unfold Ar.nodeAt
  simp [List.getD, List.getElem?_append_left h]
theorem Ar.nodeAt_setV_n (ns : List Ar.Node) (i x j : Nat) : (Ar.nodeAt (Ar.setV ns i x) j).n = (Ar.nodeAt ns j).n ∧ (Ar.nodeAt (Ar.setV ns i x) j).l = (Ar.nodeAt ns j).l := by
  unfold Ar.setV
  by_cases h : i = j
  · subst h
    by_cases hl : i < ns.length
    · simp [Ar.nodeAt, hl]
    · simp [Ar.nodeAt, List.getD, List.getElem?_eq_none (show ns.length ≤ i by omega), List.set_eq_of_length_le (show ns.length ≤ i by omega)]
  · simp [Ar.nodeAt, List.getD, List.getElem?_set_ne h]
theorem ChE.setV {C o : Nat} {tC : TypeId} {bx : List Value} {N cap : Nat} {rest : List Value} {ns : List Ar.Node} {spare : Nat} {w : World} (h : ChE C o tC bx N cap rest ns spare w) {i : Nat} (hi : i < ns.length) (x : Nat) : ChE C o tC bx N cap rest (Ar.setV ns i x) spare (w.setCell ⟨N, i * 3, none⟩ (encI x)) := by
  have e := h.nd.set (i * 3) (encI x)
  rw [(encNs_set ns i rest x hi).1] at e
  exact h.setNd e (Ar.setV_len _ _ _) (Below.heap_setCell w ⟨N, i * 3, none⟩ _ C h.ne)
theorem growN {C N N' : Nat} {w W : World} (h : N' = N ∨ w.heap.size ≤ N') (hl : N' < W.heap.size) : grow (fun k => k = C ∨ k = N) w W N' := h.elim (fun e => .inl (.inr e)) (fun e => .inr ⟨e, hl⟩)
set_option maxHeartbeats 2000000 in
theorem push_any (C o : Nat) (tC : TypeId) (bx : List Value) (N cap : Nat) (rest : List Value) (ns : List Ar.Node) (spare list value : Nat) (w : World) (h : ChE C o tC bx N cap rest ns spare w) (h1 : list < ns.length) (h2 : (Ar.nodeAt ns list).n < ns.length) (h3 : spare < ns.length) (hl : ns.length < 200000) :
    Calls Tryd.prog 46 #[.pointer (some ⟨C, o, none⟩), .int .i64 (list : Int), .int .i64 (value : Int)] w (PushRet C o tC bx N (Ar.push ns spare list value) w) := by
  have hb := h.box0.1
  have hb1 := h.box0.2
  have hf0 := h.box.frozen o
  have hf1 := h.box.frozen (o + 1)
  have hlen := h.len
  have hCl := h.box.lt
  have hNl := h.nd.lt
  have hne := h.ne
  by_cases h0 : spare = 0
  · subst h0
    unfold encI at hb1
    go_enter Tryd.func46, Tryd.ntmps46
    go_wp2_with (at_builtin; refine wpList_apN _ rfl _ _ rfl N cap rest ns rfl (h.nd.alloc _) h.hcap h.len h.cm ⟨_, 0, none⟩ ⟨0, 0, 0⟩ rfl (cells_new w _ _) ?_; intro N' cap' rest' w1 k1 k2 k3 k4 k5; refine Hid.out ?_)
    refine Lib.hid ?_
    have hne' : C ≠ N' := by
      rcases k5 with e | e
      · omega
      · simp at e; omega
    have hbk : Blk w1 C bx tC := (h.box.alloc _).trn k4 hne
    have K1 : ChE C o tC (bx.set o (.slice (some ⟨N', 0, none⟩) (ns.length + 1) cap')) N' cap' rest' (ns ++ [⟨0, 0, 0⟩]) 0 (w1.setCell ⟨C, o, none⟩ (.slice (some ⟨N', 0, none⟩) (ns.length + 1) cap')) :=
      ⟨hbk.set _ _, by rw [List.getElem?_set_self (by have := (List.getElem?_eq_some_iff.1 h.c0).1; exact this)]; simp, by rw [List.getElem?_set_ne (by omega)]; exact h.c1, k1.other (fun e => hne' e.symm) _ _, by simpa using k2, hne', by simp; omega, k3⟩
    have K2 := K1.setV (i := ns.length) (by simp) value
    have hb2 := hbk.cell h.c0
    have hf2 := hbk.frozen o
    have n0 := k1.cell (encNs_at (ns ++ [⟨0, 0, 0⟩]) ns.length rest' (by simp)).1
    have n2 := k1.cell (encNs_at (ns ++ [⟨0, 0, 0⟩]) list rest' (by simp; omega)).2.2
    rw [Ar.nodeAt_app ns _ list h1] at n2
    have nf := fun j => k1.frozen j
    have T1 : Trn (fun k => k = C ∨ k = N) w (w1.setCell ⟨C, o, none⟩ (.slice (some ⟨N', 0, none⟩) (ns.length + 1) cap')) :=
      (Trn.alloc w _).trans ((k4.mono (fun k _ e => .inl (.inr e))).trans (Trn.set hbk (.inl (.inl (.inl rfl))) _ _))
    have hz : w.heap.size ≤ w1.heap.size := by have := k4.size; simp at this; omega
    have k5' : N' = N ∨ w.heap.size ≤ N' := by
      rcases k5 with e | e
      · exact .inl e
      · simp at e; exact .inr (by omega)
    have T2 := T1.trans (Trn.set K1.nd (growN k5' K1.nd.lt) (ns.length * 3) (encI value))
    have hl1 : ns.length < ns.length + 1 := by omega
    have hl2 : list < ns.length + 1 := by omega
    have hl3 : ¬ (list * 3 + 2 = ns.length * 3) := by omega
    unfold encI at K2 T2
    have R := Lib.hid (And.intro K2 T2)
    have HB := Lib.hid k5'
    have K1' := Lib.hid k1
    clear K2 T2 T1 K1 k5 k5' k4 k1 hb hb1 hf0 hf1
    unfold encI at n0 n2
    go_wp2_with (go_at_call 44; (with_reducible refine (link_any C o tC _ N' cap' rest' _ 0 ns.length (Ar.nodeAt ns list).n _ R.out.1 (by rw [Ar.setV_len]; simp) (by rw [Ar.setV_len]; simp; omega)).mono ?_); rintro e w3 ⟨rfl, ht3, k3'⟩; refine Hid.out ?_)
    refine Lib.hid ?_
    have T3 := Lib.hid (R.out.2.trans (ht3.to (growN HB.out R.out.1.nd.lt)))
    have HB3 := Lib.hid (And.intro k3' ht3)
    clear k3' ht3
    go_wp2_with (go_at_call 44; (with_reducible refine (link_any C o tC _ N' cap' rest' _ 0 list ns.length _ HB3.out.1 (by rw [Ar.link_len, Ar.setV_len]; simp; omega) (by rw [Ar.link_len, Ar.setV_len]; simp)).mono ?_); rintro e w4 ⟨rfl, ht4, k4⟩; refine Hid.out ?_)
    refine Lib.hid ?_
    have T4 := Lib.hid (T3.out.trans (ht4.to (growN HB.out HB3.out.1.nd.lt)))
    have K4 := Lib.hid k4
    clear ht4 k4
    go_wp2
    go_ret
    refine ⟨rfl, N', cap', rest', HB.out, T4.out, ?_⟩
    have hnd : (Ar.push ns 0 list value).nd = Ar.link (Ar.link (Ar.setV (ns ++ [⟨0, 0, 0⟩]) ns.length value) ns.length (Ar.nodeAt ns list).n) list ns.length := by
      simp only [Ar.push, if_true, (Ar.nodeAt_setV_n _ _ _ _).1, Ar.nodeAt_app _ _ _ h1]
    have hsp : (Ar.push ns 0 list value).spare = 0 := by simp [Ar.push]
    rw [hnd, hsp, set_same (v := encI 0) (by rw [List.getElem?_set_ne (by omega)]; exact h.c1)]
    rw [Ar.link_len, Ar.link_len, Ar.setV_len, List.length_append, List.length_singleton]
    exact K4.out
  · have hs0 : ((spare : Int) == 0) = false := by rw [beq_eq_false_iff_ne]; omega
    have K1 := h.setSp (Ar.nodeAt ns spare).n
    have K2 := K1.setV h3 value
    have T1 : Trn (fun k => k = C ∨ k = N) w (w.setCell ⟨C, o + 1, none⟩ (encI (Ar.nodeAt ns spare).n)) := Trn.set h.box (.inl rfl) _ _
    have T2 := T1.trans (Trn.set K1.nd (.inl (.inr rfl)) (spare * 3) (encI value))
    have m0 := (h.node h3).1
    have m2 := (h.node h3).2.2
    have n2 := (h.node h1).2.2
    have nf := fun j => h.nd.frozen j
    have hl3 : ¬ (list * 3 + 2 = spare * 3) := by omega
    unfold encI at K2 T2
    have R := Lib.hid (And.intro K2 T2)
    clear K2 T2 T1 K1
    unfold encI at m0 m2 n2 hb1
    go_enter Tryd.func46, Tryd.ntmps46
    go_wp2_with (go_at_call 44; (with_reducible refine (link_any C o tC _ N cap rest _ _ spare (Ar.nodeAt ns list).n _ R.out.1 (by rw [Ar.setV_len]; exact h3) (by rw [Ar.setV_len]; exact h2)).mono ?_); rintro e w3 ⟨rfl, ht3, k3'⟩; refine Hid.out ?_)
    refine Lib.hid ?_
    have T3 := Lib.hid (R.out.2.trans (ht3.to (.inl (.inr rfl))))
    have HB3 := Lib.hid (And.intro k3' ht3)
    clear k3' ht3
    go_wp2_with (go_at_call 44; (with_reducible refine (link_any C o tC _ N cap rest _ _ list spare _ HB3.out.1 (by rw [Ar.link_len, Ar.setV_len]; exact h1) (by rw [Ar.link_len, Ar.setV_len]; exact h3)).mono ?_); rintro e w4 ⟨rfl, ht4, k4⟩; refine Hid.out ?_)
    refine Lib.hid ?_
    have T4 := Lib.hid (T3.out.trans (ht4.to (.inl (.inr rfl))))
    have K4 := Lib.hid k4
    clear ht4 k4
    have hk : (Ar.push ns spare list value).k = spare := by simp [Ar.push, h0]
    have Hk := Lib.hid hk
    clear hk
    go_wp2
    go_ret
    refine ⟨by rw [Hk.out]; rfl, N, cap, rest, .inl rfl, T4.out, ?_⟩
    have hnd : (Ar.push ns spare list value).nd = Ar.link (Ar.link (Ar.setV ns spare value) spare (Ar.nodeAt ns list).n) list spare := by
      simp only [Ar.push, if_neg h0, (Ar.nodeAt_setV_n _ _ _ _).1]
    have hsp : (Ar.push ns spare list value).spare = (Ar.nodeAt ns spare).n := by simp [Ar.push, h0]
    rw [hnd, hsp]
    rw [Ar.link_len, Ar.link_len, Ar.setV_len, set_same h.c0]
    exact K4.out
end Go.Proofs.YtagjjpmhacknpaaDoor

/- head, putHead. -/
set_option maxRecDepth 100000
namespace Go.Proofs.YtagjjpmhacknpaaDoor
open Go.RowKit Go.Shelf
namespace Ar
def headAt (mem : List UInt8) (a : Nat) : Head := headOf (wordOf ((mem.drop a).take 8))
end Ar
theorem word_step (x : Nat) (b : UInt8) (hx : x < 72057594037927936) : bits .or .u64 ((x : Int) * 256) (IntKind.u64.wrap (b.toNat : Int)) = ((x * 256 + b.toNat : Nat) : Int) := by
  have hb := UInt8.toNat_lt b
  have e : IntKind.u64.wrap (b.toNat : Int) = (b.toNat : Int) := by rw [IntKind.wrap_u64]; omega
  rw [e, show ((x : Int) * 256) = ((x * 256 : Nat) : Int) by push_cast; rfl, u64_or_nat _ _ (by omega) (by omega), nat_join 8 (x * 256) _ (by omega) (by omega)]
theorem and_low (y : Nat) (hy : y < 18446744073709551616) : wrap64 (bits .and .u64 (y : Int) 2097151) = ((y % 2097152 : Nat) : Int) := by
  have e : bits .and .u64 (y : Int) 2097151 = ((y % 2097152 : Nat) : Int) := by
    have := u64_and_nat y 2097151 hy (by decide)
    rw [show (2097151 : Nat) = 2 ^ 21 - 1 from rfl, Nat.and_two_pow_sub_one_eq_mod] at this
    exact this
  rw [e]
  unfold wrap64
  omega
theorem and_top (y : Nat) (hy : y < 18446744073709551616) : (bits .and .u64 (y : Int) 9223372036854775808 != 0) = decide (y / 9223372036854775808 % 2 = 1) := by
  have e : bits .and .u64 (y : Int) 9223372036854775808 = ((y / 9223372036854775808 % 2 * 9223372036854775808 : Nat) : Int) := by
    have := u64_and_nat y 9223372036854775808 hy (by decide)
    rw [show (9223372036854775808 : Nat) = 2 ^ 63 from rfl, nat_bit] at this
    exact this
  rw [e]
  have : y / 9223372036854775808 % 2 = 0 ∨ y / 9223372036854775808 % 2 = 1 := by omega
  rcases this with h | h <;> rw [h] <;> decide
theorem and_own (y : Nat) (hy : y < 18446744073709551616) : wrap64 (bits .and .u64 (y : Int) 1048575) = ((y % 1048576 : Nat) : Int) := by
  have e : bits .and .u64 (y : Int) 1048575 = ((y % 1048576 : Nat) : Int) := by
    have := u64_and_nat y 1048575 hy (by decide)
    rw [show (1048575 : Nat) = 2 ^ 20 - 1 from rfl, Nat.and_two_pow_sub_one_eq_mod] at this
    exact this
  rw [e]
  unfold wrap64
  omega
theorem and_mark (y : Nat) (hy : y < 18446744073709551616) : (bits .and .u64 (y : Int) 4611686018427387904 != 0) = decide (y / 4611686018427387904 % 2 = 1) := by
  have e : bits .and .u64 (y : Int) 4611686018427387904 = ((y / 4611686018427387904 % 2 * 4611686018427387904 : Nat) : Int) := by
    have := u64_and_nat y 4611686018427387904 hy (by decide)
    rw [show (4611686018427387904 : Nat) = 2 ^ 62 from rfl, nat_bit] at this
    exact this
  rw [e]
  have : y / 4611686018427387904 % 2 = 0 ∨ y / 4611686018427387904 % 2 = 1 := by omega
  rcases this with h | h <;> rw [h] <;> decide
theorem encH_of (x : Nat) (hx : x < 18446744073709551616) : Value.agg #[.bool (bits .and .u64 (x : Int) 9223372036854775808 != 0), .bool (bits .and .u64 (x : Int) 4611686018427387904 != 0), .int .i64 (wrap64 (bits .and .u64 ((x : Int) / 4398046511104) 1048575)), .int .i64 (wrap64 (bits .and .u64 ((x : Int) / 2097152) 2097151)), .int .i64 (wrap64 (bits .and .u64 (x : Int) 2097151))] = encH (Ar.headOf x) := by
  rw [and_top x hx, and_mark x hx, and_low x hx, show ((x : Int) / 4398046511104) = ((x / 4398046511104 : Nat) : Int) from rfl, show ((x : Int) / 2097152) = ((x / 2097152 : Nat) : Int) from rfl, and_own _ (by omega), and_low _ (by omega)]
  rfl
theorem take_snocD {α : Type} (l : List α) (k : Nat) (h : k < l.length) : l.take (k + 1) = l.take k ++ [l[k]] := by
  rw [List.take_succ_eq_append_getElem h]
set_option maxHeartbeats 1000000 in
theorem head_any (A : Nat) (L : Loc) (S : Ar.St) (f : Nat → Prop) (a : Nat) (w : World) (h : ArE A L S f w) (hm : S.mem.length ≤ 1048576) (ha : a + 8 ≤ S.mem.length) :
    Calls Tryd.prog 32 #[.pointer (some ⟨A, 0, none⟩), .int .i64 (a : Int)] w fun e w' => e = .returned (encH (Ar.headAt S.mem a)) ∧ Below w.heap.size w w' := by
  have hc := h.cells.1
  have hAl := h.box.lt
  have hMl := h.mem.lt
  have hl8 : ((S.mem.drop a).take 8).length = 8 := by simp; omega
  unfold Ar.headAt
  have hcM : ∀ i, (hi : i < 8) → w.cell? ⟨L.M, a + i, none⟩ = some (.int .u8 ((((S.mem.drop a).take 8)[i]'(by rw [hl8]; exact hi)).toNat : Int)) := fun i hi => by
    rw [h.cellM (i := a + i) (by omega)]; simp
  generalize (S.mem.drop a).take 8 = l8 at hl8 hcM ⊢
  have HcM := Lib.hid hcM
  have Hl8 := Lib.hid hl8
  clear hcM
  go_enter Tryd.func32, Tryd.ntmps32
  go_wp2
  go_loop [5, 17] (fun x i => ∃ k : Nat, k ≤ 8 ∧ i = .int .i64 (k : Int) ∧ x = .int .u64 (Ar.wordOf (l8.take k) : Int)) (fun _ i => 8 - (intOf i).toNat)
  case atStart => exact ⟨0, by omega, rfl, rfl⟩
  case round =>
    obtain ⟨k, hk, rfl, rfl⟩ := hrel
    by_cases hlt : k < 8
    · have hcell := HcM.out k hlt
      have hlen := Hl8.out
      have hw := Ar.wordOf_lt (l8.take k)
      rw [List.length_take, hlen, Nat.min_eq_left (by omega)] at hw
      have hw2 : Ar.wordOf (l8.take k) < 72057594037927936 := Nat.lt_of_lt_of_le hw (Nat.le_trans (Nat.pow_le_pow_right (by decide) (show k ≤ 7 by omega)) (by decide))
      clear hlen hw
      go_wp2
      go_round
      case rel => exact ⟨k + 1, by omega, by go_num, by rw [word_step _ _ hw2, take_snocD l8 k (by have := Hl8.out; omega), Ar.wordOf_snoc]⟩
      case measure => simp [intOf]; omega
    · obtain rfl : k = 8 := by omega
      have htk : l8.take 8 = l8 := List.take_of_length_le (by have := Hl8.out; omega)
      have hw := Ar.wordOf_lt l8
      rw [Hl8.out] at hw
      rw [htk]
      generalize hx : Ar.wordOf l8 = x at hw ⊢
      have Hx := Lib.hid hx
      have HE := Lib.hid (encH_of x hw)
      clear hx
      clear htk HcM Hl8 hl8
      go_wp2
      exact bodyPost_ret (v := encH (Ar.headOf x)) (by rw [← HE.out]; simp [results, Tryd.results32, go_sem]) rfl ⟨by rw [Hx.out], (Below.refl _ _).alloc (Nat.le_refl _) _⟩
end Go.Proofs.YtagjjpmhacknpaaDoor

/- putHead. -/
set_option maxRecDepth 100000
namespace Go.Proofs.YtagjjpmhacknpaaDoor
open Go.RowKit Go.Shelf
namespace Ar
/-- The last k of eight bytes of a number. -/
def lastB : Nat → Nat → List UInt8
  | 0, _ => []
  | k + 1, x => lastB k (x / 256) ++ [UInt8.ofNat (x % 256)]
def byte8 (x : Nat) : List UInt8 := lastB 8 x
def put (mem : List UInt8) (a : Nat) (l : List UInt8) : List UInt8 := mem.take a ++ l ++ mem.drop (a + l.length)
def putHd (mem : List UInt8) (a : Nat) (p : Head) : List UInt8 := put mem a (byte8 p.word)
theorem lastB_len : ∀ k x, (lastB k x).length = k
  | 0, _ => rfl
  | k + 1, x => by simp [lastB, lastB_len k]
theorem put_len (mem : List UInt8) (a : Nat) (l : List UInt8) (h : a + l.length ≤ mem.length) : (put mem a l).length = mem.length := by simp [put]; omega
/-- What is there when the last k of eight bytes are written, of a number that is x at first. -/
def putK (mem : List UInt8) (a : Nat) (x : Nat) (k : Nat) : List UInt8 := mem.take (a + 8 - k) ++ lastB k x ++ mem.drop (a + 8)
theorem lastB_succ : ∀ (k x : Nat), lastB (k + 1) x = UInt8.ofNat (x / 256 ^ k % 256) :: lastB k x
  | 0, x => by simp [lastB]
  | k + 1, x => by
    rw [lastB, lastB_succ k (x / 256), lastB, Nat.pow_succ, Nat.div_div_eq_div_mul, Nat.mul_comm 256]
    rfl
theorem putK_set (mem : List UInt8) (a x k : Nat) (hk : k < 8) (ha : a + 8 ≤ mem.length) : (putK mem a x k).set (a + 7 - k) (UInt8.ofNat (x / 256 ^ k % 256)) = putK mem a x (k + 1) := by
  unfold putK
  rw [lastB_succ]
  have h1 : (mem.take (a + 8 - k)) = mem.take (a + 8 - (k + 1)) ++ [mem[a + 7 - k]] := by
    rw [show a + 8 - k = (a + 7 - k) + 1 by omega, List.take_succ_eq_append_getElem (by omega), show a + 8 - (k + 1) = a + 7 - k by omega]
  rw [h1]
  have h2 : (mem.take (a + 8 - (k + 1))).length = a + 7 - k := by simp; omega
  rw [List.append_assoc, List.append_assoc, List.set_append_right _ _ (by omega), h2]
  simp
theorem putK_len (mem : List UInt8) (a x k : Nat) (hk : k ≤ 8) (ha : a + 8 ≤ mem.length) : (putK mem a x k).length = mem.length := by
  unfold putK; simp [lastB_len]; omega
theorem putK_full (mem : List UInt8) (a x : Nat) : putK mem a x 8 = put mem a (byte8 x) := by
  unfold putK put byte8; rw [lastB_len]; simp
theorem wordOf_lastB : ∀ k x, wordOf (lastB k x) = x % 256 ^ k
  | 0, x => by rw [Nat.pow_zero, Nat.mod_one]; rfl
  | k + 1, x => by
    have e : (UInt8.ofNat (x % 256)).toNat = x % 256 := by simp
    rw [lastB, wordOf_snoc, wordOf_lastB k, e, Nat.pow_succ, Nat.mul_comm (256 ^ k), Nat.mod_mul]
    omega
theorem put_take (mem : List UInt8) (a : Nat) (l : List UInt8) (ha : a ≤ mem.length) : ((put mem a l).drop a).take l.length = l := by
  unfold put
  rw [List.append_assoc, List.drop_append_of_le_length (by simp; omega)]
  have : (mem.take a).drop a = [] := List.drop_eq_nil_of_le (by simp; omega)
  rw [this, List.nil_append, List.take_left' rfl]
theorem headAt_putHd (mem : List UInt8) (a : Nat) (p : Head) (ha : a ≤ mem.length) (hp : p.fits) : headAt (putHd mem a p) a = p := by
  unfold headAt putHd
  have := put_take mem a (byte8 p.word) ha
  rw [show (byte8 p.word).length = 8 from lastB_len 8 _] at this
  rw [this]
  unfold byte8
  rw [wordOf_lastB, Nat.mod_eq_of_lt (word_lt hp), headOf_word hp]
theorem putK_none (mem : List UInt8) (a x : Nat) : putK mem a x 0 = mem := by
  unfold putK; simp [lastB]
end Ar
theorem ArE.setMem {A : Nat} {L : Loc} {S : Ar.St} {f : Nat → Prop} {w w' : World} (h : ArE A L S f w) {m : List UInt8} (hm : Blk w' L.M (m.map encB) 5) (hl : m.length = S.mem.length) (hk : ∀ k, k ≠ L.M → k < w.heap.size → w'.heap[k]? = w.heap[k]?) (hs : w.heap.size ≤ w'.heap.size) : ArE A L { S with mem := m } f w' :=
  ⟨by
    have := h.box.kept (W' := w') (hk _ (h.box.ne h.mem (by decide)) h.box.lt)
    unfold arBox at this ⊢
    simp only [hl]
    exact this, hm, h.pl.kept (hk _ (h.pl.ne h.mem (by decide)) h.pl.lt), h.us.kept (hk _ (h.us.ne h.mem (by decide)) h.us.lt), h.nd.kept (hk _ (h.nd.ne h.mem (by decide)) h.nd.lt), h.cap, h.cm, h.fA, h.fM, h.fP, h.fU, h.fN, fun k e => Nat.lt_of_lt_of_le (h.fb k e) hs⟩
theorem word_or (o s a : Nat) (ho : o < 2097152) (hs : s < 2097152) (ha : a < 2097152) : bits .or .u64 (bits .or .u64 ((o : Int) * 4398046511104) ((s : Int) * 2097152)) (a : Int) = ((o * 4398046511104 + s * 2097152 + a : Nat) : Int) := by
  rw [show ((o : Int) * 4398046511104) = ((o * 4398046511104 : Nat) : Int) from rfl, show ((s : Int) * 2097152) = ((s * 2097152 : Nat) : Int) from rfl, u64_or_nat _ _ (by omega) (by omega), nat_join 42 _ _ (Nat.mul_mod_left o 4398046511104) (show s * 2097152 < 4398046511104 by omega), u64_or_nat _ _ (by omega) (by omega), nat_join 21 _ _ (show (o * 4398046511104 + s * 2097152) % 2097152 = 0 by omega) (show a < 2097152 by omega)]
theorem word_or_free (x : Nat) (hx : x < 9223372036854775808) : bits .or .u64 (x : Int) 9223372036854775808 = ((9223372036854775808 + x : Nat) : Int) := by
  have := u64_or_nat x 9223372036854775808 (by omega) (by decide)
  rw [Nat.or_comm, nat_join 63 _ _ (by decide) (show x < 9223372036854775808 by omega)] at this
  exact this
theorem word_or_mark (x : Nat) (hx : x < 4611686018427387904) : bits .or .u64 (x : Int) 4611686018427387904 = ((4611686018427387904 + x : Nat) : Int) := by
  have := u64_or_nat x 4611686018427387904 (by omega) (by decide)
  rw [Nat.or_comm, nat_join 62 _ _ (by decide) (show x < 4611686018427387904 by omega)] at this
  exact this
theorem word_or_both (x : Nat) (hx : x < 4611686018427387904) : bits .or .u64 (9223372036854775808 + (x : Int)) 4611686018427387904 = 13835058055282163712 + (x : Int) := by
  have h := u64_or_nat (9223372036854775808 + x) 4611686018427387904 (by omega) (by decide)
  have e : (9223372036854775808 + x) ||| 4611686018427387904 = 13835058055282163712 + x := by
    have e1 := nat_join 63 9223372036854775808 x (by decide) (show x < 2 ^ 63 by omega)
    have e2 := nat_join 62 4611686018427387904 x (by decide) (show x < 2 ^ 62 by omega)
    have e3 := nat_join 63 9223372036854775808 (4611686018427387904 + x) (by decide) (show _ < 2 ^ 63 by omega)
    rw [← e1, Nat.or_assoc, Nat.or_comm x, e2, e3]
    omega
  rw [e] at h
  exact h
theorem byte_of (X k : Nat) : Value.int .u8 ((X : Int) / 256 ^ k % 256) = encB (UInt8.ofNat (X / 256 ^ k % 256)) := by
  unfold encB
  congr 1
  have e : (256 : Int) ^ k = ((256 ^ k : Nat) : Int) := by simp
  rw [e]
  simp
/-- The loop's relation. -/
structure PutR (A : Nat) (L : Loc) (a X : Nat) (mem : List UInt8) (w : World) (k : Nat) (z : Int) (wr : World) : Prop where
  k8 : k ≤ 8
  z : z + k = a + 7
  blk : Blk wr L.M ((Ar.putK mem a X k).map encB) 5
  trn : Trn (fun j => j = L.M) w wr
theorem PutR.step {A : Nat} {L : Loc} {a X : Nat} {mem : List UInt8} {w wr : World} {k j : Nat} (h : PutR A L a X mem w k (j : Int) wr) (hk : k < 8) (ha : a + 8 ≤ mem.length) : PutR A L a X mem w (k + 1) ((j : Int) - 1) (wr.setCell ⟨L.M, j, none⟩ (.int .u8 ((X : Int) / 256 ^ k % 256))) :=
  ⟨by omega, by have := h.z; omega, by
    have hz := h.z
    have hb := h.blk.set j (.int .u8 ((X : Int) / 256 ^ k % 256))
    rw [byte_of] at hb ⊢
    rw [← Ar.putK_set mem a X k hk ha, show a + 7 - k = j by omega, List.map_set]
    exact hb, h.trn.trans ((Trn.set h.blk (.inl rfl) _ _))⟩
set_option maxHeartbeats 2000000 in
theorem putHead_any (A : Nat) (L : Loc) (S : Ar.St) (f : Nat → Prop) (a : Nat) (p : Ar.Head) (w : World) (h : ArE A L S f w) (hm : S.mem.length ≤ 1048576) (ha : a + 8 ≤ S.mem.length) (hp : p.fits) :
    Calls Tryd.prog 45 #[.pointer (some ⟨A, 0, none⟩), .int .i64 (a : Int), encH p] w fun e w' => e = .returned (.tuple #[]) ∧ Trn f w w' ∧ ArE A L { S with mem := Ar.putHd S.mem a p } f w' := by
  have hword := Ar.word_lt hp
  have fin : ∀ w', Blk w' L.M ((Ar.putK S.mem a p.word 8).map encB) 5 → Trn (fun j => j = L.M) w w' → Trn f w w' ∧ ArE A L { S with mem := Ar.putHd S.mem a p } f w' := fun w' hb ht => by
    rw [Ar.putK_full] at hb
    exact ⟨ht.mono (fun k _ e => e ▸ h.fM), h.setMem hb (Ar.put_len _ _ _ (by unfold Ar.byte8; rw [Ar.lastB_len]; omega)) (fun k hk hs => ht.block k hs hk) ht.size⟩
  have Fin := Lib.hid fin
  clear fin
  have hcM : ∀ (k : Nat) (l : List UInt8) (j : Nat) (W : World), Blk W L.M (l.map encB) 5 → j < l.length → W.cell? ⟨L.M, j, none⟩ = some (encB (l.getD j 0)) := fun k l j W hb hj => hb.cell (by simp [hj])
  have HcM := Lib.hid hcM
  clear hcM
  have hX : p.word = (if p.free then 9223372036854775808 else 0) + (if p.marked then 4611686018427387904 else 0) + (p.owner * 4398046511104 + p.size * 2097152 + p.ahead) := by unfold Ar.Head.word; omega
  generalize p.word = X at hword Fin hX
  obtain ⟨fr, mk, ow, sz, ah⟩ := p
  obtain ⟨h1, h2, h3⟩ := hp
  simp only at h1 h2 h3 hX
  have hor := word_or ow sz ah (by omega) h2 h3
  have hx0 : ow * 4398046511104 + sz * 2097152 + ah < 4611686018427387904 := by omega
  generalize ow * 4398046511104 + sz * 2097152 + ah = x0 at hor hx0 hX
  have horf := word_or_free x0 (by omega)
  have horm := word_or_mark x0 hx0
  have horb := word_or_both x0 hx0
  have hbox := h.cells.1
  have hAl := h.box.lt
  have hMl := h.mem.lt
  have hAM : A ≠ L.M := h.box.ne h.mem (by decide)
  have H0 : Hid (Blk w L.M (S.mem.map encB) 5) := Lib.hid h.mem
  cases fr <;> cases mk
  all_goals
    simp only [Bool.false_eq_true, if_false, if_true, Nat.zero_add, Nat.add_zero] at hX
    have HX := Lib.hid hX
    clear hX
    unfold encH encI
    simp only
    go_enter Tryd.func45, Tryd.ntmps45
    go_wp2_with (simp only [hor, horf, horm, horb])
    clear hor horf horm horb
    go_loopw [6, 7] (fun x i wr => ∃ (k : Nat) (z : Int), i = .int .i64 z ∧ x = .int .u64 ((X / 256 ^ k : Nat) : Int) ∧ PutR A L a X S.mem w k z wr) (fun _ i _ => ((intOf i) + 1 - a).toNat)
    case atStart => exact ⟨0, _, rfl, by rw [HX.out]; simp, by omega, by omega, by rw [Ar.putK_none]; exact H0.out.alloc _, Trn.alloc w _⟩
    case round =>
      obtain ⟨k, z, rfl, rfl, hR⟩ := hrel
      have hbx : wr.cell? ⟨A, 0, none⟩ = some (.slice (some ⟨L.M, 0, none⟩) S.mem.length S.mem.length) := (World.cell?_of_block (a := ⟨A, 0, none⟩) (hR.trn.block A hAl hAM)).trans hbox
      by_cases hlt : k < 8
      · have hz := hR.z
        obtain ⟨j, rfl⟩ : ∃ j : Nat, z = (j : Int) := ⟨z.toNat, by omega⟩
        have hj1 : a ≤ j := by omega
        have hj2 : j < S.mem.length := by omega
        have hcj := HcM.out k _ j wr hR.blk (by rw [Ar.putK_len _ _ _ _ hR.k8 ha]; exact hj2)
        have hfj := hR.blk.frozen j
        have hst := Lib.hid (hR.step hlt ha)
        have hpw : (X : Int) / 256 ^ k / 256 = ((X / 256 ^ (k + 1) : Nat) : Int) := by
          rw [Nat.pow_succ, ← Nat.div_div_eq_div_mul]; simp
        have Hpw := Lib.hid hpw
        clear hpw
        go_wp2
        go_roundw
        case rel => exact ⟨k + 1, (j : Int) - 1, rfl, by rw [Hpw.out], hst.out⟩
        case measure => simp [intOf]; omega
      · have hz := hR.z
        obtain rfl : k = 8 := by have := hR.k8; omega
        have hz1 : z < a := by omega
        have hend := Lib.hid (Fin.out wr hR.blk hR.trn)
        go_wp2
        go_end0
        exact ⟨rfl, hend.out⟩
end Go.Proofs.YtagjjpmhacknpaaDoor

/- The table of handles. -/
set_option maxRecDepth 100000
namespace Go.Proofs.YtagjjpmhacknpaaDoor
open Go.RowKit Go.Shelf
namespace Ar
/-- The bit of a handle. -/
def bitOn (us : List Nat) (h : Nat) : Bool := decide (us.getD ((h - 1) / 64) 0 / 2 ^ ((h - 1) % 64) % 2 = 1)
def bitOff (us : List Nat) (h : Nat) : List Nat := us.set ((h - 1) / 64) (us.getD ((h - 1) / 64) 0 &&& (18446744073709551615 - 2 ^ ((h - 1) % 64)))
end Ar
theorem ArE.setPl {A : Nat} {L : Loc} {S : Ar.St} {f : Nat → Prop} {w w' : World} (h : ArE A L S f w) {m : List Nat} (hm : Blk w' L.P (m.map encP) 21) (hl : m.length = S.pl.length) (hk : ∀ k, k ≠ L.P → k < w.heap.size → w'.heap[k]? = w.heap[k]?) (hs : w.heap.size ≤ w'.heap.size) : ArE A L { S with pl := m } f w' :=
  ⟨by
    have := h.box.kept (W' := w') (hk _ (h.box.ne h.pl (by decide)) h.box.lt)
    unfold arBox at this ⊢
    simp only [hl]
    exact this, h.mem.kept (hk _ (h.mem.ne h.pl (by decide)) h.mem.lt), hm, h.us.kept (hk _ (h.us.ne h.pl (by decide)) h.us.lt), h.nd.kept (hk _ (h.nd.ne h.pl (by decide)) h.nd.lt), h.cap, h.cm, h.fA, h.fM, h.fP, h.fU, h.fN, fun k e => Nat.lt_of_lt_of_le (h.fb k e) hs⟩
theorem ArE.setUs {A : Nat} {L : Loc} {S : Ar.St} {f : Nat → Prop} {w w' : World} (h : ArE A L S f w) {m : List Nat} (hm : Blk w' L.U (m.map encU) 81) (hl : m.length = S.us.length) (hk : ∀ k, k ≠ L.U → k < w.heap.size → w'.heap[k]? = w.heap[k]?) (hs : w.heap.size ≤ w'.heap.size) : ArE A L { S with us := m } f w' :=
  ⟨by
    have := h.box.kept (W' := w') (hk _ (h.box.ne h.us (by decide)) h.box.lt)
    unfold arBox at this ⊢
    simp only [hl]
    exact this, h.mem.kept (hk _ (h.mem.ne h.us (by decide)) h.mem.lt), h.pl.kept (hk _ (h.pl.ne h.us (by decide)) h.pl.lt), hm, h.nd.kept (hk _ (h.nd.ne h.us (by decide)) h.nd.lt), h.cap, h.cm, h.fA, h.fM, h.fP, h.fU, h.fN, fun k e => Nat.lt_of_lt_of_le (h.fb k e) hs⟩
/-- A store into the box. -/
theorem ArE.setBox {A : Nat} {L : Loc} {S S' : Ar.St} {f : Nat → Prop} {w : World} (h : ArE A L S f w) (i : Nat) (v : Value) (hb : (arBox L S).set i v = arBox L S') (e1 : S'.mem = S.mem) (e2 : S'.pl = S.pl) (e3 : S'.us = S.us) (e4 : S'.nd = S.nd) : ArE A L S' f (w.setCell ⟨A, i, none⟩ v) :=
  ⟨by rw [← hb]; exact h.box.set i v, by rw [e1]; exact h.mem.other (fun e => h.box.ne h.mem (by decide) e.symm) _ _, by rw [e2]; exact h.pl.other (fun e => h.box.ne h.pl (by decide) e.symm) _ _, by rw [e3]; exact h.us.other (fun e => h.box.ne h.us (by decide) e.symm) _ _, by rw [e4]; exact h.nd.other (fun e => h.box.ne h.nd (by decide) e.symm) _ _, by rw [e4]; exact h.cap, h.cm, h.fA, h.fM, h.fP, h.fU, h.fN, fun k e => by have := h.fb k e; simpa [World.setCell] using this⟩
theorem ArE.drew {A : Nat} {L : Loc} {S : Ar.St} {f : Nat → Prop} {w : World} (h : ArE A L S f w) (n : Nat) : ArE A L S f (w.drewN n) := ⟨h.box, h.mem, h.pl, h.us, h.nd, h.cap, h.cm, h.fA, h.fM, h.fP, h.fU, h.fN, h.fb⟩
theorem ArE.drw {A : Nat} {L : Loc} {S : Ar.St} {f : Nat → Prop} {w : World} (h : ArE A L S f w) : ArE A L S f w.drew := ⟨h.box, h.mem, h.pl, h.us, h.nd, h.cap, h.cm, h.fA, h.fM, h.fP, h.fU, h.fN, h.fb⟩
theorem Trn.drw {f : Nat → Prop} (W : World) : Trn f W W.drew := Trn.of_below ⟨rfl, rfl, rfl, Nat.le_refl _, fun _ _ => rfl⟩
theorem pow_lt64 {k : Nat} (h : k < 64) : 2 ^ k < 18446744073709551616 := Nat.lt_of_lt_of_le (Nat.pow_lt_pow_right (by decide) h) (by decide)
set_option maxHeartbeats 1000000 in
theorem bit_any (z : Int) (k : Nat) (w : World) (hz : z = (k : Int) + 1) (h2 : k ≤ 2000000) :
    Calls Tryd.prog 50 #[.int .i64 z] w fun e w' => ∃ m : Nat, Hid (m = 2 ^ (k % 64)) ∧ e = .returned (.tuple #[.int .i64 ((k / 64 : Nat) : Int), .int .u64 (m : Int)]) ∧ ∃ n, w' = w.drewN n := by
  subst hz
  have hp := pow_lt64 (Nat.mod_lt k (show 0 < 64 by decide))
  go_enter Tryd.func50, Tryd.ntmps50
  go_wp2
  go_quiet (fail)
  go_wp2
  go_ret2
  refine ⟨2 ^ (k % 64), Lib.hid rfl, ?_, _, rfl⟩
  have e2 : IntKind.u64.wrap (2 ^ (k % 64)) = ((2 ^ (k % 64) : Nat) : Int) := by
    rw [IntKind.wrap_u64, show (2 : Int) ^ (k % 64) = ((2 ^ (k % 64) : Nat) : Int) by simp]
    generalize 2 ^ (k % 64) = m at hp
    omega
  rw [← e2]
  rfl
set_option maxHeartbeats 1000000 in
theorem move_any (A : Nat) (L : Loc) (S : Ar.St) (f : Nat → Prop) (z : Int) (k place : Nat) (w : World) (hA : ArE A L S f w) (hz : z = (k : Int) + 1) (h2 : k < S.pl.length) (h3 : S.pl.length ≤ 1000000) (h4 : place ≤ 1048576) :
    Calls Tryd.prog 51 #[.pointer (some ⟨A, 2, none⟩), .int .i64 z, .int .i64 (place : Int)] w fun e w' => e = .returned (.tuple #[]) ∧ Trn f w w' ∧ ArE A L { S with pl := S.pl.set k place } f w' := by
  subst hz
  have hc := hA.cells.2.2.1
  have hx := hA.pl.cell (i := k) (v := encP (S.pl.getD k 0)) (by simp [show k < S.pl.length by omega])
  have hf := hA.pl.frozen k
  unfold encP at hx
  go_enter Tryd.func51, Tryd.ntmps51
  have hb := hA.pl.set k (encP place)
  have hk : (S.pl.map encP).set k (encP place) = (S.pl.set k place).map encP := List.map_set.symm
  rw [hk] at hb
  have ht : Trn f w (w.setCell ⟨L.P, k, none⟩ (encP place)) := Trn.set hA.pl hA.fP _ _
  have R := Lib.hid (And.intro ht (hA.setPl hb (by simp) (fun j hj _ => Below.heap_setCell w ⟨L.P, k, none⟩ _ j hj) (by simp [World.setCell])))
  clear hb ht hk
  unfold encP at R
  go_wp2
  go_end0
  exact ⟨rfl, R.out⟩
namespace Ar
def PlaceOf (S : St) (h : Int) : Option Nat := if 1 ≤ h ∧ h ≤ S.pl.length then if bitOn S.us h.toNat then some (S.pl.getD (h.toNat - 1) 0) else none else none
end Ar
def optV : Option Nat → Value
  | some x => .tuple #[encI x, .bool true]
  | none => .tuple #[encI 0, .bool false]
theorem bitOn_test (us : List Nat) (k x : Nat) (hx : us.getD (k / 64) 0 = x) (hx2 : x < 18446744073709551616) : (bits .and .u64 (x : Int) ((2 ^ (k % 64) : Nat) : Int) == 0) = !Ar.bitOn us (k + 1) := by
  have hp := pow_lt64 (Nat.mod_lt k (show 0 < 64 by decide))
  unfold Ar.bitOn
  rw [Nat.add_sub_cancel, hx, u64_and_nat _ _ hx2 hp, nat_bit]
  have : x / 2 ^ (k % 64) % 2 = 0 ∨ x / 2 ^ (k % 64) % 2 = 1 := by omega
  have hp0 := Nat.two_pow_pos (k % 64)
  rcases this with h | h <;> rw [h]
  · simp
  · rw [Nat.one_mul]
    generalize 2 ^ (k % 64) = m at hp hp0
    rw [show ((m : Int) == 0) = false by rw [beq_eq_false_iff_ne]; omega]
    rfl
set_option maxHeartbeats 2000000 in
theorem place_any (A : Nat) (L : Loc) (S : Ar.St) (f : Nat → Prop) (h : Int) (w : World) (hA : ArE A L S f w) (h3 : S.pl.length ≤ 1000000) (h4 : S.pl.length = 64 * S.us.length) (h5 : ∀ x ∈ S.us, x < 18446744073709551616) (h6 : ∀ x ∈ S.pl, x ≤ 1048576) :
    Calls Tryd.prog 54 #[.pointer (some ⟨A, 2, none⟩), .int .i64 h] w fun e w' => e = .returned (optV (Ar.PlaceOf S h)) ∧ ∃ n, w' = w.drewN n := by
  have hc := hA.cells.2.2.1
  have hc3 := hA.cells.2.2.2.1
  unfold Ar.PlaceOf
  by_cases hh : 1 ≤ h ∧ h ≤ S.pl.length
  · rw [if_pos hh]
    obtain ⟨k, rfl⟩ : ∃ k : Nat, h = ((k + 1 : Nat) : Int) := ⟨h.toNat - 1, by omega⟩
    have hk : k < S.pl.length := by omega
    have hk2 : k / 64 < S.us.length := by omega
    have hx := hA.pl.cell (i := k) (v := encP (S.pl.getD k 0)) (by simp [hk])
    have hu := hA.us.cell (i := k / 64) (v := encU (S.us.getD (k / 64) 0)) (by simp [hk2])
    have hu64 : S.us.getD (k / 64) 0 < 18446744073709551616 := by simp only [List.getD, List.getElem?_eq_getElem hk2, Option.getD_some]; exact h5 _ (List.getElem_mem hk2)
    have hx6 : S.pl.getD k 0 ≤ 1048576 := by simp only [List.getD, List.getElem?_eq_getElem hk, Option.getD_some]; exact h6 _ (List.getElem_mem hk)
    unfold encP at hx
    unfold encU at hu
    have H4 := Lib.hid h4
    clear h4
    have hbt : ∀ m : Nat, m = 2 ^ (k % 64) → (bits .and .u64 ((S.us.getD (k / 64) 0 : Nat) : Int) (m : Int) == 0) = !Ar.bitOn S.us (k + 1) := fun m e => e ▸ bitOn_test S.us k _ rfl hu64
    have hg : ¬ ((S.pl.length : Int) < ((k + 1 : Nat) : Int)) := by omega
    have hn1 : ¬ (((k + 1 : Nat) : Int) < 1) := by omega
    rw [Int.toNat_natCast]
    generalize S.us.getD (k / 64) 0 = x at hu hu64 hbt
    rw [Nat.add_sub_cancel]
    generalize S.pl.getD k 0 = y at hx hx6 ⊢
    have HBT := Lib.hid hbt
    clear hbt
    by_cases hb : Ar.bitOn S.us (k + 1) = true
    · rw [if_pos hb]
      rw [hb] at HBT
      go_enter Tryd.func54, Tryd.ntmps54
      go_wp2_with (go_at_call 50; (with_reducible refine (bit_any _ k _ rfl (by omega)).mono ?_); rintro e w' ⟨m, hm, rfl, n, rfl⟩; have hbm := HBT.out m hm.out)
      go_ret2
      exact ⟨rfl, _, rfl⟩
    · rw [if_neg hb]
      rw [eq_false_of_ne_true hb] at HBT
      go_enter Tryd.func54, Tryd.ntmps54
      go_wp2_with (go_at_call 50; (with_reducible refine (bit_any _ k _ rfl (by omega)).mono ?_); rintro e w' ⟨m, hm, rfl, n, rfl⟩; have hbm := HBT.out m hm.out)
      go_ret2
      exact ⟨rfl, _, rfl⟩
  · rw [if_neg hh]
    go_enter Tryd.func54, Tryd.ntmps54
    by_cases h1 : h < 1
    · go_wp2
      go_ret2
      exact ⟨rfl, 0, rfl⟩
    · have h2 : (S.pl.length : Int) < h := by omega
      go_wp2
      go_ret2
      exact ⟨rfl, 0, rfl⟩
end Go.Proofs.YtagjjpmhacknpaaDoor
