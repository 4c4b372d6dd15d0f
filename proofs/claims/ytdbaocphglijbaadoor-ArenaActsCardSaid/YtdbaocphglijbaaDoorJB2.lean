/- 3 texts put together: And, Apush, Ahead. -/
import Derived.Maps.AppendAt
import Derived.Test.YtdbaocphglijbaaDoorJB1
/- Nodes of lists in memory. -/
set_option maxRecDepth 100000
namespace Go.Proofs.YtdbaocphglijbaaDoor
open Go.RowKit Go.Shelf
namespace Ar
def nodeAt (nd : List Node) (i : Nat) : Node := nd.getD i ⟨0, 0, 0⟩
def setV (nd : List Node) (i x : Nat) : List Node := nd.set i ⟨x, (nodeAt nd i).l, (nodeAt nd i).n⟩
def setL (nd : List Node) (i x : Nat) : List Node := nd.set i ⟨(nodeAt nd i).v, x, (nodeAt nd i).n⟩
def setN (nd : List Node) (i x : Nat) : List Node := nd.set i ⟨(nodeAt nd i).v, (nodeAt nd i).l, x⟩
def link (nd : List Node) (one two : Nat) : List Node := setL (setN nd one two) two one
theorem setV_len (nd : List Node) (i x : Nat) : (setV nd i x).length = nd.length := by simp [setV]
theorem setL_len (nd : List Node) (i x : Nat) : (setL nd i x).length = nd.length := by simp [setL]
theorem setN_len (nd : List Node) (i x : Nat) : (setN nd i x).length = nd.length := by simp [setN]
theorem link_len (nd : List Node) (i x : Nat) : (link nd i x).length = nd.length := by simp [link, setL_len, setN_len]
end Ar
theorem encNs_cons (x : Ar.Node) (l : List Ar.Node) : encNs (x :: l) = encI x.v :: encI x.l :: encI x.n :: encNs l := rfl
theorem encNs_len : ∀ l : List Ar.Node, (encNs l).length = 3 * l.length
  | [] => rfl
  | x :: l => by rw [encNs_cons]; simp only [List.length_cons, encNs_len l]; omega
theorem encNs_app (a b : List Ar.Node) : encNs (a ++ b) = encNs a ++ encNs b := by simp [encNs]
theorem encNs_at : ∀ (l : List Ar.Node) (i : Nat) (r : List Value), i < l.length → (encNs l ++ r)[i * 3]? = some (encI (Ar.nodeAt l i).v) ∧ (encNs l ++ r)[i * 3 + 1]? = some (encI (Ar.nodeAt l i).l) ∧ (encNs l ++ r)[i * 3 + 2]? = some (encI (Ar.nodeAt l i).n)
  | x :: l, 0, r, _ => ⟨rfl, rfl, rfl⟩
  | x :: l, i + 1, r, h => by
    have := encNs_at l i r (by simpa using h)
    rw [encNs_cons, show (i + 1) * 3 = i * 3 + 1 + 1 + 1 by omega, show i * 3 + 1 + 1 + 1 + 1 = (i * 3 + 1) + 1 + 1 + 1 by omega, show i * 3 + 1 + 1 + 1 + 2 = (i * 3 + 2) + 1 + 1 + 1 by omega]
    simp only [List.cons_append, List.getElem?_cons_succ]
    exact this
theorem encNs_set : ∀ (l : List Ar.Node) (i : Nat) (r : List Value) (x : Nat), i < l.length → (encNs l ++ r).set (i * 3) (encI x) = encNs (Ar.setV l i x) ++ r ∧ (encNs l ++ r).set (i * 3 + 1) (encI x) = encNs (Ar.setL l i x) ++ r ∧ (encNs l ++ r).set (i * 3 + 2) (encI x) = encNs (Ar.setN l i x) ++ r
  | y :: l, 0, r, x, _ => ⟨rfl, rfl, rfl⟩
  | y :: l, i + 1, r, x, h => by
    have := encNs_set l i r x (by simpa using h)
    rw [encNs_cons, show (i + 1) * 3 = i * 3 + 1 + 1 + 1 by omega, show i * 3 + 1 + 1 + 1 + 1 = (i * 3 + 1) + 1 + 1 + 1 by omega, show i * 3 + 1 + 1 + 1 + 2 = (i * 3 + 2) + 1 + 1 + 1 by omega]
    simp only [List.cons_append, List.set_cons_succ, this]
    exact ⟨rfl, rfl, rfl⟩
/-- A struct of lists, at o in block C. -/
structure ChE (C o : Nat) (tC : TypeId) (bx : List Value) (N cap : Nat) (rest : List Value) (ns : List Ar.Node) (spare : Nat) (w : World) : Prop where
  box : Blk w C bx tC
  c0 : bx[o]? = some (.slice (some ⟨N, 0, none⟩) ns.length cap)
  c1 : bx[o + 1]? = some (encI spare)
  nd : Blk w N (encNs ns ++ rest) 142
  hcap : rest.length + 3 * ns.length = 3 * cap
  ne : C ≠ N
  len : ns.length ≤ 200000
  cm : cap ≤ maxLen
theorem ChE.node {C o : Nat} {tC : TypeId} {bx : List Value} {N cap : Nat} {rest : List Value} {ns : List Ar.Node} {spare : Nat} {w : World} (h : ChE C o tC bx N cap rest ns spare w) {i : Nat} (hi : i < ns.length) :
    w.cell? ⟨N, i * 3, none⟩ = some (encI (Ar.nodeAt ns i).v) ∧ w.cell? ⟨N, i * 3 + 1, none⟩ = some (encI (Ar.nodeAt ns i).l) ∧ w.cell? ⟨N, i * 3 + 2, none⟩ = some (encI (Ar.nodeAt ns i).n) :=
  ⟨h.nd.cell (encNs_at ns i rest hi).1, h.nd.cell (encNs_at ns i rest hi).2.1, h.nd.cell (encNs_at ns i rest hi).2.2⟩
theorem ChE.box0 {C o : Nat} {tC : TypeId} {bx : List Value} {N cap : Nat} {rest : List Value} {ns : List Ar.Node} {spare : Nat} {w : World} (h : ChE C o tC bx N cap rest ns spare w) : w.cell? ⟨C, o, none⟩ = some (.slice (some ⟨N, 0, none⟩) ns.length cap) ∧ w.cell? ⟨C, o + 1, none⟩ = some (encI spare) := ⟨h.box.cell h.c0, h.box.cell h.c1⟩
theorem ChE.setNd {C o : Nat} {tC : TypeId} {bx : List Value} {N cap : Nat} {rest : List Value} {ns ns' : List Ar.Node} {spare : Nat} {w w' : World} (h : ChE C o tC bx N cap rest ns spare w) (hN : Blk w' N (encNs ns' ++ rest) 142) (hl : ns'.length = ns.length) (hC : w'.heap[C]? = w.heap[C]?) : ChE C o tC bx N cap rest ns' spare w' :=
  ⟨h.box.kept hC, by rw [hl]; exact h.c0, h.c1, hN, by rw [hl]; exact h.hcap, h.ne, by rw [hl]; exact h.len, h.cm⟩
set_option maxHeartbeats 1000000 in
theorem link_any (C o : Nat) (tC : TypeId) (bx : List Value) (N cap : Nat) (rest : List Value) (ns : List Ar.Node) (spare one two : Nat) (w : World) (h : ChE C o tC bx N cap rest ns spare w) (h1 : one < ns.length) (h2 : two < ns.length) :
    Calls Tryd.prog 82 #[.pointer (some ⟨C, o, none⟩), .int .i64 (one : Int), .int .i64 (two : Int)] w fun e w' => e = .returned (.tuple #[]) ∧ Trn (fun k => k = N) w w' ∧ ChE C o tC bx N cap rest (Ar.link ns one two) spare w' := by
  have hb := h.box0.1
  have hn := (h.node h1).2.2
  have hl := (h.node h2).2.1
  have hf1 := h.nd.frozen (one * 3 + 2)
  have hf2 := h.nd.frozen (two * 3 + 1)
  have hlen := h.len
  have hCl := h.box.lt
  have hNl := h.nd.lt
  have hne := h.ne
  go_enter Tryd.func82, Tryd.ntmps82
  go_wp2
  go_region
  have e1 := h.nd.set (one * 3 + 2) (encI two)
  rw [(encNs_set ns one rest two h1).2.2] at e1
  have e2 := e1.set (two * 3 + 1) (encI one)
  rw [(encNs_set (Ar.setN ns one two) two rest one (by rw [Ar.setN_len]; exact h2)).2.1] at e2
  have t1 : Trn (fun k => k = N) w (w.setCell ⟨N, one * 3 + 2, none⟩ (encI two)) := Trn.set1 h.nd _ _
  have t2 := t1.trans (Trn.set (f := grow (fun k => k = N) w (w.setCell ⟨N, one * 3 + 2, none⟩ (encI two))) e1 (.inl rfl) (two * 3 + 1) (encI one))
  all_goals
    go_end0
    exact ⟨rfl, t2.trans (Trn.drew _ 1), h.setNd (w' := World.drew _) e2 (Ar.link_len _ _ _) ((t2.block C hCl hne))⟩
set_option maxHeartbeats 1000000 in
theorem first_any (C o : Nat) (tC : TypeId) (bx : List Value) (N cap : Nat) (rest : List Value) (ns : List Ar.Node) (spare i : Nat) (w : World) (h : ChE C o tC bx N cap rest ns spare w) (h1 : i < ns.length) (h2 : (Ar.nodeAt ns i).n < ns.length) :
    Calls Tryd.prog 102 #[.pointer (some ⟨C, o, none⟩), .int .i64 (i : Int)] w fun e w' => e = .returned (.tuple #[encI (Ar.nodeAt ns (Ar.nodeAt ns i).n).v, .bool (decide ((Ar.nodeAt ns i).n ≠ i))]) ∧ w = w' := by
  have hb := h.box0.1
  have hn := (h.node h1).2.2
  have hl := (h.node h2).1
  have hlen := h.len
  generalize hx : (Ar.nodeAt ns i).n = x at *
  generalize (Ar.nodeAt ns x).v = y at *
  clear hx
  unfold encI at *
  have hd : ((x : Int) != (i : Int)) = decide (x ≠ i) := by rw [Bool.eq_iff_iff]; simp only [bne_iff_ne, decide_eq_true_eq, ne_eq, Int.natCast_inj]
  have Hd := Lib.hid hd
  clear hd
  go_enter Tryd.func102, Tryd.ntmps102
  go_wp2
  go_ret2
  exact ⟨by rw [Hd.out]; rfl, rfl⟩
theorem ChE.alloc {C o : Nat} {tC : TypeId} {bx : List Value} {N cap : Nat} {rest : List Value} {ns : List Ar.Node} {spare : Nat} {w : World} (h : ChE C o tC bx N cap rest ns spare w) (ob : Obj) : ChE C o tC bx N cap rest ns spare (w.alloc ob) :=
  ⟨h.box.alloc _, h.c0, h.c1, h.nd.alloc _, h.hcap, h.ne, h.len, h.cm⟩
theorem ChE.drew {C o : Nat} {tC : TypeId} {bx : List Value} {N cap : Nat} {rest : List Value} {ns : List Ar.Node} {spare : Nat} {w : World} (h : ChE C o tC bx N cap rest ns spare w) (n : Nat) : ChE C o tC bx N cap rest ns spare (w.drewN n) :=
  ⟨h.box, h.c0, h.c1, h.nd, h.hcap, h.ne, h.len, h.cm⟩
theorem ChE.setSp {C o : Nat} {tC : TypeId} {bx : List Value} {N cap : Nat} {rest : List Value} {ns : List Ar.Node} {spare : Nat} {w : World} (h : ChE C o tC bx N cap rest ns spare w) (x : Nat) : ChE C o tC (bx.set (o + 1) (encI x)) N cap rest ns x (w.setCell ⟨C, o + 1, none⟩ (encI x)) :=
  ⟨h.box.set _ _, by rw [List.getElem?_set_ne (by omega)]; exact h.c0, by rw [List.getElem?_set_self (by have := (List.getElem?_eq_some_iff.1 h.c1).1; exact this)], h.nd.other (fun e => h.ne e.symm) _ _, h.hcap, h.ne, h.len, h.cm⟩
namespace Ar
def dropN (nd : List Node) (i spare : Nat) : List Node := (link nd (nodeAt nd i).l (nodeAt nd i).n).set i ⟨0, 0, spare⟩
theorem dropN_len (nd : List Node) (i s : Nat) : (dropN nd i s).length = nd.length := by simp [dropN, link_len]
end Ar
theorem Ar.set3 (ns : List Ar.Node) (i a b c : Nat) (h : i < ns.length) : Ar.setN (Ar.setL (Ar.setV ns i a) i b) i c = ns.set i ⟨a, b, c⟩ := by
  have e : ∀ (l : List Ar.Node) (x : Ar.Node), i < l.length → Ar.nodeAt (l.set i x) i = x := fun l x hl => by simp [Ar.nodeAt, hl]
  unfold Ar.setN Ar.setL Ar.setV
  rw [e _ _ h]
  simp only [List.set_set]
  rw [e _ _ h]
theorem Blk.set3 {W : World} {N i a b c : Nat} {ns : List Ar.Node} {rest : List Value} (h : Blk W N (encNs ns ++ rest) 142) (hi : i < ns.length) :
    Blk (((W.setCell ⟨N, i * 3, none⟩ (encI a)).setCell ⟨N, i * 3 + 1, none⟩ (encI b)).setCell ⟨N, i * 3 + 2, none⟩ (encI c)) N (encNs (ns.set i ⟨a, b, c⟩) ++ rest) 142 ∧ Trn (fun k => k = N) W (((W.setCell ⟨N, i * 3, none⟩ (encI a)).setCell ⟨N, i * 3 + 1, none⟩ (encI b)).setCell ⟨N, i * 3 + 2, none⟩ (encI c)) := by
  have e1 := h.set (i * 3) (encI a)
  rw [(encNs_set ns i rest a hi).1] at e1
  have e2 := e1.set (i * 3 + 1) (encI b)
  rw [(encNs_set _ i rest b (by rw [Ar.setV_len]; exact hi)).2.1] at e2
  have e3 := e2.set (i * 3 + 2) (encI c)
  rw [(encNs_set _ i rest c (by rw [Ar.setL_len, Ar.setV_len]; exact hi)).2.2, Ar.set3 _ _ _ _ _ hi] at e3
  exact ⟨e3, ((Trn.set1 h _ _).trans (Trn.set e1 (.inl rfl) _ _)).trans (Trn.set e2 (.inl rfl) _ _)⟩
set_option maxHeartbeats 2000000 in
theorem chDrop_any (C o : Nat) (tC : TypeId) (bx : List Value) (N cap : Nat) (rest : List Value) (ns : List Ar.Node) (spare i : Nat) (w : World) (h : ChE C o tC bx N cap rest ns spare w) (h1 : i < ns.length) (h2 : (Ar.nodeAt ns i).n < ns.length) (h3 : (Ar.nodeAt ns i).l < ns.length) :
    Calls Tryd.prog 103 #[.pointer (some ⟨C, o, none⟩), .int .i64 (i : Int)] w fun e w' => e = .returned (.tuple #[]) ∧ Trn (fun k => k = C ∨ k = N) w w' ∧ ChE C o tC (bx.set (o + 1) (encI i)) N cap rest (Ar.dropN ns i spare) i w' := by
  have hb := h.box0.1
  have hb1 := h.box0.2
  have hn0 := (h.node h1).1
  have hn1 := (h.node h1).2.1
  have hn2 := (h.node h1).2.2
  have hf1 := h.box.frozen (o + 1)
  have hlen := h.len
  have hCl := h.box.lt
  have hNl := h.nd.lt
  have hne := h.ne
  go_enter Tryd.func103, Tryd.ntmps103
  unfold encI at *
  go_wp2_with (go_at_call 82; (with_reducible refine (link_any C o tC bx N cap rest ns spare _ _ _ (h.alloc _) h3 h2).mono ?_); rintro e w1 ⟨rfl, ht, k⟩)
  have hb2 := k.box0.1
  have hb3 := k.box0.2
  have hi : i < (Ar.link ns (Ar.nodeAt ns i).l (Ar.nodeAt ns i).n).length := by rw [Ar.link_len]; exact h1
  have m0 := (k.node hi).1
  have m1 := (k.node hi).2.1
  have m2 := (k.node hi).2.2
  have mf := fun j => k.nd.frozen j
  have hf2 := k.box.frozen (o + 1)
  rw [Ar.link_len] at hb2
  have K := Lib.hid k
  have T := Lib.hid ht
  clear k ht
  unfold encI at m0 m1 m2 hb3
  go_region
  have kk := Blk.set3 (a := 0) (b := 0) (c := spare) K.out.nd hi
  unfold encI at kk
  simp only [Int.natCast_zero] at kk
  generalize World.setCell (World.setCell (World.setCell w1 _ _) _ _) _ _ = w2 at kk ⊢
  have k2 := (K.out).setNd (w' := w2) kk.1 (by simp) (kk.2.block C K.out.box.lt hne)
  have t2 : Trn (fun k => k = C ∨ k = N) w w2 := (Trn.alloc w _).trans ((T.out.mono (fun k _ e => .inl (.inr e))).trans (kk.2.mono (fun k _ e => .inl (.inl (.inr e)))))
  have hb5 := k2.box0.2
  have hf5 := k2.box.frozen (o + 1)
  have t3 := (t2.trans (Trn.set k2.box (.inl (.inl rfl)) (o + 1) (encI i))).trans (Trn.drew _ 1)
  have k3 := (k2.setSp i).drew 1
  have R := Lib.hid (And.intro t3 k3)
  clear t3 k3 k2 t2 kk
  unfold encI at hb5
  go_wp2
  go_end0
  exact ⟨rfl, R.out.1, R.out.2⟩
end Go.Proofs.YtdbaocphglijbaaDoor

/- push. -/
set_option maxRecDepth 100000
namespace Go.Proofs.YtdbaocphglijbaaDoor
open Go.RowKit Go.Shelf
theorem infoN : (Tryd.prog.info? 142).map (fun i => (i.zero, i.size, i.bytes)) = some (some (.agg #[.int .i64 0, .int .i64 0, .int .i64 0]), 3, 24) := by kernel_rfl
theorem run_apN (w : World) (ty : TypeId) (N cap : Nat) (rest : List Value) (ns : List Ar.Node) (hN : Blk w N (encNs ns ++ rest) 142) (hcap : rest.length + 3 * ns.length = 3 * cap) (hlen : ns.length ≤ 200000) (hcm : cap ≤ maxLen) (ad : Addr) (x : Ar.Node)
    (hc : ∀ j u, (encN x)[j]? = some u → w.cell? (ad.add j) = some u) :
    ∃ N' cap' rest' w', (Builtin.append_ #[90, 90] ty #[.slice (some ⟨N, 0, none⟩) ns.length cap, .slice (some ad) 1 1]).run Tryd.prog w = .ok (.slice (some ⟨N', 0, none⟩) (ns.length + 1) cap') w' ∧
      Blk w' N' (encNs (ns ++ [x]) ++ rest') 142 ∧ rest'.length + 3 * (ns.length + 1) = 3 * cap' ∧ cap' ≤ maxLen ∧ Trn (fun k => k = N) w w' ∧ (N' = N ∨ w.heap.size ≤ N') := by
  obtain ⟨i, hi, hz0, hz1, hz2⟩ := info_parts infoN
  have hown : w.ownsRow 0 142 3 (.slice (some ⟨N, 0, none⟩) ns.length cap) ns.length (encNs ns) :=
    ⟨by rw [encNs_len]; omega, .inr ⟨N, cap, (encNs ns ++ rest).toArray, rfl, Nat.zero_le _, hN, by omega, hcm, by simp [encNs_len]; omega, by rw [show ns.length * 3 = (encNs ns).length by rw [encNs_len]; omega]; simp⟩⟩
  obtain ⟨v', w', hr, ho, hg, hnil, hloc⟩ := run_append_own_at (P := Tryd.prog) w 0 90 ty 142 i _ 3 24 Tryd.underlying90 hi hz0 hz1 hz2 rfl (by decide) _ ns.length (encNs ns) hown ad 1 1 (encN x) rfl hc (fun u hu => by simp [encN] at hu; rcases hu with rfl | rfl | rfl <;> rfl) (by unfold maxLen; omega) (by omega) (Nat.zero_le _)
  rcases ho.2 with ⟨_, h0⟩ | ⟨N', cap', cur, rfl, _, hh, hle, hcm', hcs, htk⟩
  · omega
  refine ⟨N', cap', (cur.toList.drop ((ns.length + 1) * 3)), w', hr, ?_, ?_, hcm', ⟨hg.os, hg.tape, hg.output, hg.size, fun k hk hn => hg.block k hk (fun e => hn (by cases e; rfl)), fun k o hk hb => ?_⟩, ?_⟩
  · show w'.heap[N']? = _
    rw [hh, encNs_app, show encNs [x] = encN x by simp [encNs], ← htk, List.take_append_drop]
  · rw [List.length_drop, Array.length_toList, hcs]; omega
  · refine (hg.block k (Array.getElem?_eq_some_iff.1 hk).1 (fun e => ?_)).trans hk
    cases e
    rw [show w.heap[N]? = _ from hN] at hk
    cases hk
    cases hb
  · rcases hloc with e | e
    · left; simpa [Value.ownBlock] using e
    · right; simp [Value.ownBlock] at e; omega
theorem wpList_apN (w : World) {ops : Array Oper} {rst : List Oper} {o : Oper} {a : Act} {Q : Exit → Act → World → Prop} (hg : o.guard = none) (s x : Operand)
    (hop : o.op = Op.call { callee := Callee.builtin Builtin.append, args := #[s, x], argTypes := #[90, 90] })
    (N cap : Nat) (rest : List Value) (ns : List Ar.Node) (hs : a.eval s = .slice (some ⟨N, 0, none⟩) ns.length cap) (hN : Blk w N (encNs ns ++ rest) 142) (hcap : rest.length + 3 * ns.length = 3 * cap) (hlen : ns.length ≤ 200000) (hcm : cap ≤ maxLen) (ad : Addr) (y : Ar.Node)
    (hx : a.eval x = .slice (some ad) 1 1) (hc : ∀ j u, (encN y)[j]? = some u → w.cell? (ad.add j) = some u)
    (hK : ∀ N' cap' rest' w', Blk w' N' (encNs (ns ++ [y]) ++ rest') 142 → rest'.length + 3 * (ns.length + 1) = 3 * cap' → cap' ≤ maxLen → Trn (fun k => k = N) w w' → (N' = N ∨ w.heap.size ≤ N') → wpList Tryd.prog ops Q rst (a.put o.dst (.slice (some ⟨N', 0, none⟩) (ns.length + 1) cap')) w') :
    wpList Tryd.prog ops Q (o :: rst) a w := by
  refine wpList_plain hg fun K hK' => ?_
  obtain ⟨N', cap', rest', w', hrun, r1, r2, r3, r4, r5⟩ := run_apN w o.type N cap rest ns hN hcap hlen hcm ad y hc
  unfold Oper.wp
  simp [execOp, hop, resolve, invoke, builtin, hs, hx, hrun, Result.andThen]
  exact hK' _ _ (hK N' cap' rest' w' r1 r2 r3 r4 r5)
namespace Ar
structure PushR where
  nd : List Node
  k : Nat
  spare : Nat
def push (nd : List Node) (spare list value : Nat) : PushR :=
  let k := if spare = 0 then nd.length else spare
  let nd1 := if spare = 0 then nd ++ [⟨0, 0, 0⟩] else nd
  let nd2 := setV nd1 k value
  ⟨link (link nd2 k (nodeAt nd2 list).n) list k, k, if spare = 0 then 0 else (nodeAt nd spare).n⟩
end Ar
/-- What push leaves. -/
def PushRet (C o : Nat) (tC : TypeId) (bx : List Value) (N : Nat) (R : Ar.PushR) (w : World) (e : Ending) (w' : World) : Prop :=
  e = .returned (.int .i64 (R.k : Int)) ∧ ∃ N' cap' rest', (N' = N ∨ w.heap.size ≤ N') ∧ Trn (fun k => k = C ∨ k = N) w w' ∧ ChE C o tC ((bx.set o (.slice (some ⟨N', 0, none⟩) R.nd.length cap')).set (o + 1) (encI R.spare)) N' cap' rest' R.nd R.spare w'
theorem Ar.nodeAt_app (ns : List Ar.Node) (x : Ar.Node) (i : Nat) (h : i < ns.length) : Ar.nodeAt (ns ++ [x]) i = Ar.nodeAt ns i := by
  unfold Ar.nodeAt
  simp [List.getD, List.getElem?_append_left h]
theorem Ar.nodeAt_setV_n (ns : List Ar.Node) (i x j : Nat) : (Ar.nodeAt (Ar.setV ns i x) j).n = (Ar.nodeAt ns j).n ∧ (Ar.nodeAt (Ar.setV ns i x) j).l = (Ar.nodeAt ns j).l := by
  unfold Ar.setV
  by_cases h : i = j
  · subst h
    by_cases hl : i < ns.length
    · simp [Ar.nodeAt, hl]
    · simp [Ar.nodeAt, List.getD, List.getElem?_eq_none (show ns.length ≤ i by omega), List.set_eq_of_length_le (show ns.length ≤ i by omega)]
  · simp [Ar.nodeAt, List.getD, List.getElem?_set_ne h]
theorem ChE.setV {C o : Nat} {tC : TypeId} {bx : List Value} {N cap : Nat} {rest : List Value} {ns : List Ar.Node} {spare : Nat} {w : World} (h : ChE C o tC bx N cap rest ns spare w) {i : Nat} (hi : i < ns.length) (x : Nat) : ChE C o tC bx N cap rest (Ar.setV ns i x) spare (w.setCell ⟨N, i * 3, none⟩ (encI x)) := by
  have e := h.nd.set (i * 3) (encI x)
  rw [(encNs_set ns i rest x hi).1] at e
  exact h.setNd e (Ar.setV_len _ _ _) (Below.heap_setCell w ⟨N, i * 3, none⟩ _ C h.ne)
theorem growN {C N N' : Nat} {w W : World} (h : N' = N ∨ w.heap.size ≤ N') (hl : N' < W.heap.size) : grow (fun k => k = C ∨ k = N) w W N' := h.elim (fun e => .inl (.inr e)) (fun e => .inr ⟨e, hl⟩)
set_option maxHeartbeats 2000000 in
theorem push_any (C o : Nat) (tC : TypeId) (bx : List Value) (N cap : Nat) (rest : List Value) (ns : List Ar.Node) (spare list value : Nat) (w : World) (h : ChE C o tC bx N cap rest ns spare w) (h1 : list < ns.length) (h2 : (Ar.nodeAt ns list).n < ns.length) (h3 : spare < ns.length) (hl : ns.length < 200000) :
    Calls Tryd.prog 84 #[.pointer (some ⟨C, o, none⟩), .int .i64 (list : Int), .int .i64 (value : Int)] w (PushRet C o tC bx N (Ar.push ns spare list value) w) := by
  have hb := h.box0.1
  have hb1 := h.box0.2
  have hf0 := h.box.frozen o
  have hf1 := h.box.frozen (o + 1)
  have hlen := h.len
  have hCl := h.box.lt
  have hNl := h.nd.lt
  have hne := h.ne
  by_cases h0 : spare = 0
  · subst h0
    unfold encI at hb1
    go_enter Tryd.func84, Tryd.ntmps84
    go_wp2_with (at_builtin; refine wpList_apN _ rfl _ _ rfl N cap rest ns rfl (h.nd.alloc _) h.hcap h.len h.cm ⟨_, 0, none⟩ ⟨0, 0, 0⟩ rfl (cells_new w _ _) ?_; intro N' cap' rest' w1 k1 k2 k3 k4 k5; refine Hid.out ?_)
    refine Lib.hid ?_
    have hne' : C ≠ N' := by
      rcases k5 with e | e
      · omega
      · simp at e; omega
    have hbk : Blk w1 C bx tC := (h.box.alloc _).trn k4 hne
    have K1 : ChE C o tC (bx.set o (.slice (some ⟨N', 0, none⟩) (ns.length + 1) cap')) N' cap' rest' (ns ++ [⟨0, 0, 0⟩]) 0 (w1.setCell ⟨C, o, none⟩ (.slice (some ⟨N', 0, none⟩) (ns.length + 1) cap')) :=
      ⟨hbk.set _ _, by rw [List.getElem?_set_self (by have := (List.getElem?_eq_some_iff.1 h.c0).1; exact this)]; simp, by rw [List.getElem?_set_ne (by omega)]; exact h.c1, k1.other (fun e => hne' e.symm) _ _, by simpa using k2, hne', by simp; omega, k3⟩
    have K2 := K1.setV (i := ns.length) (by simp) value
    have hb2 := hbk.cell h.c0
    have hf2 := hbk.frozen o
    have n0 := k1.cell (encNs_at (ns ++ [⟨0, 0, 0⟩]) ns.length rest' (by simp)).1
    have n2 := k1.cell (encNs_at (ns ++ [⟨0, 0, 0⟩]) list rest' (by simp; omega)).2.2
    rw [Ar.nodeAt_app ns _ list h1] at n2
    have nf := fun j => k1.frozen j
    have T1 : Trn (fun k => k = C ∨ k = N) w (w1.setCell ⟨C, o, none⟩ (.slice (some ⟨N', 0, none⟩) (ns.length + 1) cap')) :=
      (Trn.alloc w _).trans ((k4.mono (fun k _ e => .inl (.inr e))).trans (Trn.set hbk (.inl (.inl (.inl rfl))) _ _))
    have hz : w.heap.size ≤ w1.heap.size := by have := k4.size; simp at this; omega
    have k5' : N' = N ∨ w.heap.size ≤ N' := by
      rcases k5 with e | e
      · exact .inl e
      · simp at e; exact .inr (by omega)
    have T2 := T1.trans (Trn.set K1.nd (growN k5' K1.nd.lt) (ns.length * 3) (encI value))
    have hl1 : ns.length < ns.length + 1 := by omega
    have hl2 : list < ns.length + 1 := by omega
    have hl3 : ¬ (list * 3 + 2 = ns.length * 3) := by omega
    unfold encI at K2 T2
    have R := Lib.hid (And.intro K2 T2)
    have HB := Lib.hid k5'
    have K1' := Lib.hid k1
    clear K2 T2 T1 K1 k5 k5' k4 k1 hb hb1 hf0 hf1
    unfold encI at n0 n2
    go_wp2_with (go_at_call 82; (with_reducible refine (link_any C o tC _ N' cap' rest' _ 0 ns.length (Ar.nodeAt ns list).n _ R.out.1 (by rw [Ar.setV_len]; simp) (by rw [Ar.setV_len]; simp; omega)).mono ?_); rintro e w3 ⟨rfl, ht3, k3'⟩; refine Hid.out ?_)
    refine Lib.hid ?_
    have T3 := Lib.hid (R.out.2.trans (ht3.to (growN HB.out R.out.1.nd.lt)))
    have HB3 := Lib.hid (And.intro k3' ht3)
    clear k3' ht3
    go_wp2_with (go_at_call 82; (with_reducible refine (link_any C o tC _ N' cap' rest' _ 0 list ns.length _ HB3.out.1 (by rw [Ar.link_len, Ar.setV_len]; simp; omega) (by rw [Ar.link_len, Ar.setV_len]; simp)).mono ?_); rintro e w4 ⟨rfl, ht4, k4⟩; refine Hid.out ?_)
    refine Lib.hid ?_
    have T4 := Lib.hid (T3.out.trans (ht4.to (growN HB.out HB3.out.1.nd.lt)))
    have K4 := Lib.hid k4
    clear ht4 k4
    go_wp2
    go_ret
    refine ⟨rfl, N', cap', rest', HB.out, T4.out, ?_⟩
    have hnd : (Ar.push ns 0 list value).nd = Ar.link (Ar.link (Ar.setV (ns ++ [⟨0, 0, 0⟩]) ns.length value) ns.length (Ar.nodeAt ns list).n) list ns.length := by
      simp only [Ar.push, if_true, (Ar.nodeAt_setV_n _ _ _ _).1, Ar.nodeAt_app _ _ _ h1]
    have hsp : (Ar.push ns 0 list value).spare = 0 := by simp [Ar.push]
    rw [hnd, hsp, set_same (v := encI 0) (by rw [List.getElem?_set_ne (by omega)]; exact h.c1)]
    rw [Ar.link_len, Ar.link_len, Ar.setV_len, List.length_append, List.length_singleton]
    exact K4.out
  · have hs0 : ((spare : Int) == 0) = false := by rw [beq_eq_false_iff_ne]; omega
    have K1 := h.setSp (Ar.nodeAt ns spare).n
    have K2 := K1.setV h3 value
    have T1 : Trn (fun k => k = C ∨ k = N) w (w.setCell ⟨C, o + 1, none⟩ (encI (Ar.nodeAt ns spare).n)) := Trn.set h.box (.inl rfl) _ _
    have T2 := T1.trans (Trn.set K1.nd (.inl (.inr rfl)) (spare * 3) (encI value))
    have m0 := (h.node h3).1
    have m2 := (h.node h3).2.2
    have n2 := (h.node h1).2.2
    have nf := fun j => h.nd.frozen j
    have hl3 : ¬ (list * 3 + 2 = spare * 3) := by omega
    unfold encI at K2 T2
    have R := Lib.hid (And.intro K2 T2)
    clear K2 T2 T1 K1
    unfold encI at m0 m2 n2 hb1
    go_enter Tryd.func84, Tryd.ntmps84
    go_wp2_with (go_at_call 82; (with_reducible refine (link_any C o tC _ N cap rest _ _ spare (Ar.nodeAt ns list).n _ R.out.1 (by rw [Ar.setV_len]; exact h3) (by rw [Ar.setV_len]; exact h2)).mono ?_); rintro e w3 ⟨rfl, ht3, k3'⟩; refine Hid.out ?_)
    refine Lib.hid ?_
    have T3 := Lib.hid (R.out.2.trans (ht3.to (.inl (.inr rfl))))
    have HB3 := Lib.hid (And.intro k3' ht3)
    clear k3' ht3
    go_wp2_with (go_at_call 82; (with_reducible refine (link_any C o tC _ N cap rest _ _ list spare _ HB3.out.1 (by rw [Ar.link_len, Ar.setV_len]; exact h1) (by rw [Ar.link_len, Ar.setV_len]; exact h3)).mono ?_); rintro e w4 ⟨rfl, ht4, k4⟩; refine Hid.out ?_)
    refine Lib.hid ?_
    have T4 := Lib.hid (T3.out.trans (ht4.to (.inl (.inr rfl))))
    have K4 := Lib.hid k4
    clear ht4 k4
    have hk : (Ar.push ns spare list value).k = spare := by simp [Ar.push, h0]
    have Hk := Lib.hid hk
    clear hk
    go_wp2
    go_ret
    refine ⟨by rw [Hk.out]; rfl, N, cap, rest, .inl rfl, T4.out, ?_⟩
    have hnd : (Ar.push ns spare list value).nd = Ar.link (Ar.link (Ar.setV ns spare value) spare (Ar.nodeAt ns list).n) list spare := by
      simp only [Ar.push, if_neg h0, (Ar.nodeAt_setV_n _ _ _ _).1]
    have hsp : (Ar.push ns spare list value).spare = (Ar.nodeAt ns spare).n := by simp [Ar.push, h0]
    rw [hnd, hsp]
    rw [Ar.link_len, Ar.link_len, Ar.setV_len, set_same h.c0]
    exact K4.out
end Go.Proofs.YtdbaocphglijbaaDoor

/- head, putHead. -/
set_option maxRecDepth 100000
namespace Go.Proofs.YtdbaocphglijbaaDoor
open Go.RowKit Go.Shelf
namespace Ar
def headAt (mem : List UInt8) (a : Nat) : Head := headOf (wordOf ((mem.drop a).take 8))
end Ar
theorem word_step (x : Nat) (b : UInt8) (hx : x < 72057594037927936) : bits .or .u64 ((x : Int) * 256) (IntKind.u64.wrap (b.toNat : Int)) = ((x * 256 + b.toNat : Nat) : Int) := by
  have hb := UInt8.toNat_lt b
  have e : IntKind.u64.wrap (b.toNat : Int) = (b.toNat : Int) := by rw [IntKind.wrap_u64]; omega
  rw [e, show ((x : Int) * 256) = ((x * 256 : Nat) : Int) by push_cast; rfl, u64_or_nat _ _ (by omega) (by omega), nat_join 8 (x * 256) _ (by omega) (by omega)]
theorem and_low (y : Nat) (hy : y < 18446744073709551616) : wrap64 (bits .and .u64 (y : Int) 2097151) = ((y % 2097152 : Nat) : Int) := by
  have e : bits .and .u64 (y : Int) 2097151 = ((y % 2097152 : Nat) : Int) := by
    have := u64_and_nat y 2097151 hy (by decide)
    rw [show (2097151 : Nat) = 2 ^ 21 - 1 from rfl, Nat.and_two_pow_sub_one_eq_mod] at this
    exact this
  rw [e]
  unfold wrap64
  omega
theorem and_top (y : Nat) (hy : y < 18446744073709551616) : (bits .and .u64 (y : Int) 9223372036854775808 != 0) = decide (y / 9223372036854775808 % 2 = 1) := by
  have e : bits .and .u64 (y : Int) 9223372036854775808 = ((y / 9223372036854775808 % 2 * 9223372036854775808 : Nat) : Int) := by
    have := u64_and_nat y 9223372036854775808 hy (by decide)
    rw [show (9223372036854775808 : Nat) = 2 ^ 63 from rfl, nat_bit] at this
    exact this
  rw [e]
  have : y / 9223372036854775808 % 2 = 0 ∨ y / 9223372036854775808 % 2 = 1 := by omega
  rcases this with h | h <;> rw [h] <;> decide
theorem and_own (y : Nat) (hy : y < 18446744073709551616) : wrap64 (bits .and .u64 (y : Int) 1048575) = ((y % 1048576 : Nat) : Int) := by
  have e : bits .and .u64 (y : Int) 1048575 = ((y % 1048576 : Nat) : Int) := by
    have := u64_and_nat y 1048575 hy (by decide)
    rw [show (1048575 : Nat) = 2 ^ 20 - 1 from rfl, Nat.and_two_pow_sub_one_eq_mod] at this
    exact this
  rw [e]
  unfold wrap64
  omega
theorem and_mark (y : Nat) (hy : y < 18446744073709551616) : (bits .and .u64 (y : Int) 4611686018427387904 != 0) = decide (y / 4611686018427387904 % 2 = 1) := by
  have e : bits .and .u64 (y : Int) 4611686018427387904 = ((y / 4611686018427387904 % 2 * 4611686018427387904 : Nat) : Int) := by
    have := u64_and_nat y 4611686018427387904 hy (by decide)
    rw [show (4611686018427387904 : Nat) = 2 ^ 62 from rfl, nat_bit] at this
    exact this
  rw [e]
  have : y / 4611686018427387904 % 2 = 0 ∨ y / 4611686018427387904 % 2 = 1 := by omega
  rcases this with h | h <;> rw [h] <;> decide
theorem encH_of (x : Nat) (hx : x < 18446744073709551616) : Value.agg #[.bool (bits .and .u64 (x : Int) 9223372036854775808 != 0), .bool (bits .and .u64 (x : Int) 4611686018427387904 != 0), .int .i64 (wrap64 (bits .and .u64 ((x : Int) / 4398046511104) 1048575)), .int .i64 (wrap64 (bits .and .u64 ((x : Int) / 2097152) 2097151)), .int .i64 (wrap64 (bits .and .u64 (x : Int) 2097151))] = encH (Ar.headOf x) := by
  rw [and_top x hx, and_mark x hx, and_low x hx, show ((x : Int) / 4398046511104) = ((x / 4398046511104 : Nat) : Int) from rfl, show ((x : Int) / 2097152) = ((x / 2097152 : Nat) : Int) from rfl, and_own _ (by omega), and_low _ (by omega)]
  rfl
theorem take_snocD {α : Type} (l : List α) (k : Nat) (h : k < l.length) : l.take (k + 1) = l.take k ++ [l[k]] := by
  rw [List.take_succ_eq_append_getElem h]
set_option maxHeartbeats 1000000 in
theorem head_any (A : Nat) (L : Loc) (S : Ar.St) (f : Nat → Prop) (a : Nat) (w : World) (h : ArE A L S f w) (hm : S.mem.length ≤ 1048576) (ha : a + 8 ≤ S.mem.length) :
    Calls Tryd.prog 59 #[.pointer (some ⟨A, 0, none⟩), .int .i64 (a : Int)] w fun e w' => e = .returned (encH (Ar.headAt S.mem a)) ∧ Below w.heap.size w w' := by
  have hc := h.cells.1
  have hAl := h.box.lt
  have hMl := h.mem.lt
  have hl8 : ((S.mem.drop a).take 8).length = 8 := by simp; omega
  unfold Ar.headAt
  have hcM : ∀ i, (hi : i < 8) → w.cell? ⟨L.M, a + i, none⟩ = some (.int .u8 ((((S.mem.drop a).take 8)[i]'(by rw [hl8]; exact hi)).toNat : Int)) := fun i hi => by
    rw [h.cellM (i := a + i) (by omega)]; simp
  generalize (S.mem.drop a).take 8 = l8 at hl8 hcM ⊢
  have HcM := Lib.hid hcM
  have Hl8 := Lib.hid hl8
  clear hcM
  go_enter Tryd.func59, Tryd.ntmps59
  go_wp2
  go_loop [5, 17] (fun x i => ∃ k : Nat, k ≤ 8 ∧ i = .int .i64 (k : Int) ∧ x = .int .u64 (Ar.wordOf (l8.take k) : Int)) (fun _ i => 8 - (intOf i).toNat)
  case atStart => exact ⟨0, by omega, rfl, rfl⟩
  case round =>
    obtain ⟨k, hk, rfl, rfl⟩ := hrel
    by_cases hlt : k < 8
    · have hcell := HcM.out k hlt
      have hlen := Hl8.out
      have hw := Ar.wordOf_lt (l8.take k)
      rw [List.length_take, hlen, Nat.min_eq_left (by omega)] at hw
      have hw2 : Ar.wordOf (l8.take k) < 72057594037927936 := Nat.lt_of_lt_of_le hw (Nat.le_trans (Nat.pow_le_pow_right (by decide) (show k ≤ 7 by omega)) (by decide))
      clear hlen hw
      go_wp2
      go_round
      case rel => exact ⟨k + 1, by omega, by go_num, by rw [word_step _ _ hw2, take_snocD l8 k (by have := Hl8.out; omega), Ar.wordOf_snoc]⟩
      case measure => simp [intOf]; omega
    · obtain rfl : k = 8 := by omega
      have htk : l8.take 8 = l8 := List.take_of_length_le (by have := Hl8.out; omega)
      have hw := Ar.wordOf_lt l8
      rw [Hl8.out] at hw
      rw [htk]
      generalize hx : Ar.wordOf l8 = x at hw ⊢
      have Hx := Lib.hid hx
      have HE := Lib.hid (encH_of x hw)
      clear hx
      clear htk HcM Hl8 hl8
      go_wp2
      exact bodyPost_ret (v := encH (Ar.headOf x)) (by rw [← HE.out]; simp [results, Tryd.results59, go_sem]) rfl ⟨by rw [Hx.out], (Below.refl _ _).alloc (Nat.le_refl _) _⟩
end Go.Proofs.YtdbaocphglijbaaDoor
