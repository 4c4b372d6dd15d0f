/- push. -/
import Derived.Test.YtkndbldjablhoaaDoorAnd
import Derived.Maps.AppendAt
set_option maxRecDepth 100000
namespace Go.Proofs.YtkndbldjablhoaaDoor
open Go.RowKit Go.Shelf
theorem infoN : (Tryd.prog.info? 99).map (fun i => (i.zero, i.size, i.bytes)) = some (some (.agg #[.int .i64 0, .int .i64 0, .int .i64 0]), 3, 24) := by kernel_rfl
theorem run_apN (w : World) (ty : TypeId) (N cap : Nat) (rest : List Value) (ns : List Ar.Node) (hN : Blk w N (encNs ns ++ rest) 99) (hcap : rest.length + 3 * ns.length = 3 * cap) (hlen : ns.length ≤ 200000) (hcm : cap ≤ maxLen) (ad : Addr) (x : Ar.Node)
    (hc : ∀ j u, (encN x)[j]? = some u → w.cell? (ad.add j) = some u) :
    ∃ N' cap' rest' w', (Builtin.append_ #[68, 68] ty #[.slice (some ⟨N, 0, none⟩) ns.length cap, .slice (some ad) 1 1]).run Tryd.prog w = .ok (.slice (some ⟨N', 0, none⟩) (ns.length + 1) cap') w' ∧
      Blk w' N' (encNs (ns ++ [x]) ++ rest') 99 ∧ rest'.length + 3 * (ns.length + 1) = 3 * cap' ∧ cap' ≤ maxLen ∧ Trn (fun k => k = N) w w' ∧ (N' = N ∨ w.heap.size ≤ N') := by
  obtain ⟨i, hi, hz0, hz1, hz2⟩ := info_parts infoN
  have hown : w.ownsRow 0 99 3 (.slice (some ⟨N, 0, none⟩) ns.length cap) ns.length (encNs ns) :=
    ⟨by rw [encNs_len]; omega, .inr ⟨N, cap, (encNs ns ++ rest).toArray, rfl, Nat.zero_le _, hN, by omega, hcm, by simp [encNs_len]; omega, by rw [show ns.length * 3 = (encNs ns).length by rw [encNs_len]; omega]; simp⟩⟩
  obtain ⟨v', w', hr, ho, hg, hnil, hloc⟩ := run_append_own_at (P := Tryd.prog) w 0 68 ty 99 i _ 3 24 Tryd.underlying68 hi hz0 hz1 hz2 rfl (by decide) _ ns.length (encNs ns) hown ad 1 1 (encN x) rfl hc (fun u hu => by simp [encN] at hu; rcases hu with rfl | rfl | rfl <;> rfl) (by unfold maxLen; omega) (by omega) (Nat.zero_le _)
  rcases ho.2 with ⟨_, h0⟩ | ⟨N', cap', cur, rfl, _, hh, hle, hcm', hcs, htk⟩
  · omega
  refine ⟨N', cap', (cur.toList.drop ((ns.length + 1) * 3)), w', hr, ?_, ?_, hcm', ⟨hg.os, hg.tape, hg.output, hg.size, fun k hk hn => hg.block k hk (fun e => hn (by cases e; rfl)), fun k o hk hb => ?_⟩, ?_⟩
  · show w'.heap[N']? = _
    rw [hh, encNs_app, show encNs [x] = encN x by simp [encNs], ← htk, List.take_append_drop]
  · rw [List.length_drop, Array.length_toList, hcs]; omega
  · refine (hg.block k (Array.getElem?_eq_some_iff.1 hk).1 (fun e => ?_)).trans hk
    cases e
    rw [show w.heap[N]? = _ from hN] at hk
    cases hk
    cases hb
  · rcases hloc with e | e
    · left; simpa [Value.ownBlock] using e
    · right; simp [Value.ownBlock] at e; omega
theorem wpList_apN (w : World) {ops : Array Oper} {rst : List Oper} {o : Oper} {a : Act} {Q : Exit → Act → World → Prop} (hg : o.guard = none) (s x : Operand)
    (hop : o.op = Op.call { callee := Callee.builtin Builtin.append, args := #[s, x], argTypes := #[68, 68] })
    (N cap : Nat) (rest : List Value) (ns : List Ar.Node) (hs : a.eval s = .slice (some ⟨N, 0, none⟩) ns.length cap) (hN : Blk w N (encNs ns ++ rest) 99) (hcap : rest.length + 3 * ns.length = 3 * cap) (hlen : ns.length ≤ 200000) (hcm : cap ≤ maxLen) (ad : Addr) (y : Ar.Node)
    (hx : a.eval x = .slice (some ad) 1 1) (hc : ∀ j u, (encN y)[j]? = some u → w.cell? (ad.add j) = some u)
    (hK : ∀ N' cap' rest' w', Blk w' N' (encNs (ns ++ [y]) ++ rest') 99 → rest'.length + 3 * (ns.length + 1) = 3 * cap' → cap' ≤ maxLen → Trn (fun k => k = N) w w' → (N' = N ∨ w.heap.size ≤ N') → wpList Tryd.prog ops Q rst (a.put o.dst (.slice (some ⟨N', 0, none⟩) (ns.length + 1) cap')) w') :
    wpList Tryd.prog ops Q (o :: rst) a w := by
  refine wpList_plain hg fun K hK' => ?_
  obtain ⟨N', cap', rest', w', hrun, r1, r2, r3, r4, r5⟩ := run_apN w o.type N cap rest ns hN hcap hlen hcm ad y hc
  unfold Oper.wp
  simp [execOp, hop, resolve, invoke, builtin, hs, hx, hrun, Result.andThen]
  exact hK' _ _ (hK N' cap' rest' w' r1 r2 r3 r4 r5)
namespace Ar
structure PushR where
  nd : List Node
  k : Nat
  spare : Nat
def push (nd : List Node) (spare list value : Nat) : PushR :=
  let k := if spare = 0 then nd.length else spare
  let nd1 := if spare = 0 then nd ++ [⟨0, 0, 0⟩] else nd
  let nd2 := setV nd1 k value
  ⟨link (link nd2 k (nodeAt nd2 list).n) list k, k, if spare = 0 then 0 else (nodeAt nd spare).n⟩
end Ar
/-- What push leaves. -/
def PushRet (C o : Nat) (tC : TypeId) (bx : List Value) (N : Nat) (R : Ar.PushR) (w : World) (e : Ending) (w' : World) : Prop :=
  e = .returned (.int .i64 (R.k : Int)) ∧ ∃ N' cap' rest', (N' = N ∨ w.heap.size ≤ N') ∧ Trn (fun k => k = C ∨ k = N) w w' ∧ ChE C o tC ((bx.set o (.slice (some ⟨N', 0, none⟩) R.nd.length cap')).set (o + 1) (encI R.spare)) N' cap' rest' R.nd R.spare w'
theorem Ar.nodeAt_app (ns : List Ar.Node) (x : Ar.Node) (i : Nat) (h : i < ns.length) : Ar.nodeAt (ns ++ [x]) i = Ar.nodeAt ns i := by
  unfold Ar.nodeAt
  simp [List.getD, List.getElem?_append_left h]
theorem Ar.nodeAt_setV_n (ns : List Ar.Node) (i x j : Nat) : (Ar.nodeAt (Ar.setV ns i x) j).n = (Ar.nodeAt ns j).n ∧ (Ar.nodeAt (Ar.setV ns i x) j).l = (Ar.nodeAt ns j).l := by
  unfold Ar.setV
  by_cases h : i = j
  · subst h
    by_cases hl : i < ns.length
    · simp [Ar.nodeAt, hl]
    · simp [Ar.nodeAt, List.getD, List.getElem?_eq_none (show ns.length ≤ i by omega), List.set_eq_of_length_le (show ns.length ≤ i by omega)]
  · simp [Ar.nodeAt, List.getD, List.getElem?_set_ne h]
theorem ChE.setV {C o : Nat} {tC : TypeId} {bx : List Value} {N cap : Nat} {rest : List Value} {ns : List Ar.Node} {spare : Nat} {w : World} (h : ChE C o tC bx N cap rest ns spare w) {i : Nat} (hi : i < ns.length) (x : Nat) : ChE C o tC bx N cap rest (Ar.setV ns i x) spare (w.setCell ⟨N, i * 3, none⟩ (encI x)) := by
  have e := h.nd.set (i * 3) (encI x)
  rw [(encNs_set ns i rest x hi).1] at e
  exact h.setNd e (Ar.setV_len _ _ _) (Below.heap_setCell w ⟨N, i * 3, none⟩ _ C h.ne)
theorem growN {C N N' : Nat} {w W : World} (h : N' = N ∨ w.heap.size ≤ N') (hl : N' < W.heap.size) : grow (fun k => k = C ∨ k = N) w W N' := h.elim (fun e => .inl (.inr e)) (fun e => .inr ⟨e, hl⟩)
set_option maxHeartbeats 2000000 in
theorem push_any (C o : Nat) (tC : TypeId) (bx : List Value) (N cap : Nat) (rest : List Value) (ns : List Ar.Node) (spare list value : Nat) (w : World) (h : ChE C o tC bx N cap rest ns spare w) (h1 : list < ns.length) (h2 : (Ar.nodeAt ns list).n < ns.length) (h3 : spare < ns.length) (hl : ns.length < 200000) :
    Calls Tryd.prog 52 #[.pointer (some ⟨C, o, none⟩), .int .i64 (list : Int), .int .i64 (value : Int)] w (PushRet C o tC bx N (Ar.push ns spare list value) w) := by
  have hb := h.box0.1
  have hb1 := h.box0.2
  have hf0 := h.box.frozen o
  have hf1 := h.box.frozen (o + 1)
  have hlen := h.len
  have hCl := h.box.lt
  have hNl := h.nd.lt
  have hne := h.ne
  by_cases h0 : spare = 0
  · subst h0
    unfold encI at hb1
    go_enter Tryd.func52, Tryd.ntmps52
    go_wp2_with (at_builtin; refine wpList_apN _ rfl _ _ rfl N cap rest ns rfl (h.nd.alloc _) h.hcap h.len h.cm ⟨_, 0, none⟩ ⟨0, 0, 0⟩ rfl (cells_new w _ _) ?_; intro N' cap' rest' w1 k1 k2 k3 k4 k5; refine Hid.out ?_)
    refine Lib.hid ?_
    have hne' : C ≠ N' := by
      rcases k5 with e | e
      · omega
      · simp at e; omega
    have hbk : Blk w1 C bx tC := (h.box.alloc _).trn k4 hne
    have K1 : ChE C o tC (bx.set o (.slice (some ⟨N', 0, none⟩) (ns.length + 1) cap')) N' cap' rest' (ns ++ [⟨0, 0, 0⟩]) 0 (w1.setCell ⟨C, o, none⟩ (.slice (some ⟨N', 0, none⟩) (ns.length + 1) cap')) :=
      ⟨hbk.set _ _, by rw [List.getElem?_set_self (by have := (List.getElem?_eq_some_iff.1 h.c0).1; exact this)]; simp, by rw [List.getElem?_set_ne (by omega)]; exact h.c1, k1.other (fun e => hne' e.symm) _ _, by simpa using k2, hne', by simp; omega, k3⟩
    have K2 := K1.setV (i := ns.length) (by simp) value
    have hb2 := hbk.cell h.c0
    have hf2 := hbk.frozen o
    have n0 := k1.cell (encNs_at (ns ++ [⟨0, 0, 0⟩]) ns.length rest' (by simp)).1
    have n2 := k1.cell (encNs_at (ns ++ [⟨0, 0, 0⟩]) list rest' (by simp; omega)).2.2
    rw [Ar.nodeAt_app ns _ list h1] at n2
    have nf := fun j => k1.frozen j
    have T1 : Trn (fun k => k = C ∨ k = N) w (w1.setCell ⟨C, o, none⟩ (.slice (some ⟨N', 0, none⟩) (ns.length + 1) cap')) :=
      (Trn.alloc w _).trans ((k4.mono (fun k _ e => .inl (.inr e))).trans (Trn.set hbk (.inl (.inl (.inl rfl))) _ _))
    have hz : w.heap.size ≤ w1.heap.size := by have := k4.size; simp at this; omega
    have k5' : N' = N ∨ w.heap.size ≤ N' := by
      rcases k5 with e | e
      · exact .inl e
      · simp at e; exact .inr (by omega)
    have T2 := T1.trans (Trn.set K1.nd (growN k5' K1.nd.lt) (ns.length * 3) (encI value))
    have hl1 : ns.length < ns.length + 1 := by omega
    have hl2 : list < ns.length + 1 := by omega
    have hl3 : ¬ (list * 3 + 2 = ns.length * 3) := by omega
    unfold encI at K2 T2
    have R := Lib.hid (And.intro K2 T2)
    have HB := Lib.hid k5'
    have K1' := Lib.hid k1
    clear K2 T2 T1 K1 k5 k5' k4 k1 hb hb1 hf0 hf1
    unfold encI at n0 n2
    go_wp2_with (go_at_call 50; (with_reducible refine (link_any C o tC _ N' cap' rest' _ 0 ns.length (Ar.nodeAt ns list).n _ R.out.1 (by rw [Ar.setV_len]; simp) (by rw [Ar.setV_len]; simp; omega)).mono ?_); rintro e w3 ⟨rfl, ht3, k3'⟩; refine Hid.out ?_)
    refine Lib.hid ?_
    have T3 := Lib.hid (R.out.2.trans (ht3.to (growN HB.out R.out.1.nd.lt)))
    have HB3 := Lib.hid (And.intro k3' ht3)
    clear k3' ht3
    go_wp2_with (go_at_call 50; (with_reducible refine (link_any C o tC _ N' cap' rest' _ 0 list ns.length _ HB3.out.1 (by rw [Ar.link_len, Ar.setV_len]; simp; omega) (by rw [Ar.link_len, Ar.setV_len]; simp)).mono ?_); rintro e w4 ⟨rfl, ht4, k4⟩; refine Hid.out ?_)
    refine Lib.hid ?_
    have T4 := Lib.hid (T3.out.trans (ht4.to (growN HB.out HB3.out.1.nd.lt)))
    have K4 := Lib.hid k4
    clear ht4 k4
    go_wp2
    go_ret
    refine ⟨rfl, N', cap', rest', HB.out, T4.out, ?_⟩
    have hnd : (Ar.push ns 0 list value).nd = Ar.link (Ar.link (Ar.setV (ns ++ [⟨0, 0, 0⟩]) ns.length value) ns.length (Ar.nodeAt ns list).n) list ns.length := by
      simp only [Ar.push, if_true, (Ar.nodeAt_setV_n _ _ _ _).1, Ar.nodeAt_app _ _ _ h1]
    have hsp : (Ar.push ns 0 list value).spare = 0 := by simp [Ar.push]
    rw [hnd, hsp, set_same (v := encI 0) (by rw [List.getElem?_set_ne (by omega)]; exact h.c1)]
    rw [Ar.link_len, Ar.link_len, Ar.setV_len, List.length_append, List.length_singleton]
    exact K4.out
  · have hs0 : ((spare : Int) == 0) = false := by rw [beq_eq_false_iff_ne]; omega
    have K1 := h.setSp (Ar.nodeAt ns spare).n
    have K2 := K1.setV h3 value
    have T1 : Trn (fun k => k = C ∨ k = N) w (w.setCell ⟨C, o + 1, none⟩ (encI (Ar.nodeAt ns spare).n)) := Trn.set h.box (.inl rfl) _ _
    have T2 := T1.trans (Trn.set K1.nd (.inl (.inr rfl)) (spare * 3) (encI value))
    have m0 := (h.node h3).1
    have m2 := (h.node h3).2.2
    have n2 := (h.node h1).2.2
    have nf := fun j => h.nd.frozen j
    have hl3 : ¬ (list * 3 + 2 = spare * 3) := by omega
    unfold encI at K2 T2
    have R := Lib.hid (And.intro K2 T2)
    clear K2 T2 T1 K1
    unfold encI at m0 m2 n2 hb1
    go_enter Tryd.func52, Tryd.ntmps52
    go_wp2_with (go_at_call 50; (with_reducible refine (link_any C o tC _ N cap rest _ _ spare (Ar.nodeAt ns list).n _ R.out.1 (by rw [Ar.setV_len]; exact h3) (by rw [Ar.setV_len]; exact h2)).mono ?_); rintro e w3 ⟨rfl, ht3, k3'⟩; refine Hid.out ?_)
    refine Lib.hid ?_
    have T3 := Lib.hid (R.out.2.trans (ht3.to (.inl (.inr rfl))))
    have HB3 := Lib.hid (And.intro k3' ht3)
    clear k3' ht3
    go_wp2_with (go_at_call 50; (with_reducible refine (link_any C o tC _ N cap rest _ _ list spare _ HB3.out.1 (by rw [Ar.link_len, Ar.setV_len]; exact h1) (by rw [Ar.link_len, Ar.setV_len]; exact h3)).mono ?_); rintro e w4 ⟨rfl, ht4, k4⟩; refine Hid.out ?_)
    refine Lib.hid ?_
    have T4 := Lib.hid (T3.out.trans (ht4.to (.inl (.inr rfl))))
    have K4 := Lib.hid k4
    clear ht4 k4
    have hk : (Ar.push ns spare list value).k = spare := by simp [Ar.push, h0]
    have Hk := Lib.hid hk
    clear hk
    go_wp2
    go_ret
    refine ⟨by rw [Hk.out]; rfl, N, cap, rest, .inl rfl, T4.out, ?_⟩
    have hnd : (Ar.push ns spare list value).nd = Ar.link (Ar.link (Ar.setV ns spare value) spare (Ar.nodeAt ns list).n) list spare := by
      simp only [Ar.push, if_neg h0, (Ar.nodeAt_setV_n _ _ _ _).1]
    have hsp : (Ar.push ns spare list value).spare = (Ar.nodeAt ns spare).n := by simp [Ar.push, h0]
    rw [hnd, hsp]
    rw [Ar.link_len, Ar.link_len, Ar.setV_len, set_same h.c0]
    exact K4.out
end Go.Proofs.YtkndbldjablhoaaDoor
