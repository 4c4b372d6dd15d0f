/- Nodes of lists in memory. -/
import Derived.Test.YtkndbldjablhoaaDoorArep
set_option maxRecDepth 100000
namespace Go.Proofs.YtkndbldjablhoaaDoor
open Go.RowKit Go.Shelf
namespace Ar
def nodeAt (nd : List Node) (i : Nat) : Node := nd.getD i ⟨0, 0, 0⟩
def setV (nd : List Node) (i x : Nat) : List Node := nd.set i ⟨x, (nodeAt nd i).l, (nodeAt nd i).n⟩
def setL (nd : List Node) (i x : Nat) : List Node := nd.set i ⟨(nodeAt nd i).v, x, (nodeAt nd i).n⟩
def setN (nd : List Node) (i x : Nat) : List Node := nd.set i ⟨(nodeAt nd i).v, (nodeAt nd i).l, x⟩
def link (nd : List Node) (one two : Nat) : List Node := setL (setN nd one two) two one
theorem setV_len (nd : List Node) (i x : Nat) : (setV nd i x).length = nd.length := by simp [setV]
theorem setL_len (nd : List Node) (i x : Nat) : (setL nd i x).length = nd.length := by simp [setL]
theorem setN_len (nd : List Node) (i x : Nat) : (setN nd i x).length = nd.length := by simp [setN]
theorem link_len (nd : List Node) (i x : Nat) : (link nd i x).length = nd.length := by simp [link, setL_len, setN_len]
end Ar
theorem encNs_cons (x : Ar.Node) (l : List Ar.Node) : encNs (x :: l) = encI x.v :: encI x.l :: encI x.n :: encNs l := rfl
theorem encNs_len : ∀ l : List Ar.Node, (encNs l).length = 3 * l.length
  | [] => rfl
  | x :: l => by rw [encNs_cons]; simp only [List.length_cons, encNs_len l]; omega
theorem encNs_app (a b : List Ar.Node) : encNs (a ++ b) = encNs a ++ encNs b := by simp [encNs]
theorem encNs_at : ∀ (l : List Ar.Node) (i : Nat) (r : List Value), i < l.length → (encNs l ++ r)[i * 3]? = some (encI (Ar.nodeAt l i).v) ∧ (encNs l ++ r)[i * 3 + 1]? = some (encI (Ar.nodeAt l i).l) ∧ (encNs l ++ r)[i * 3 + 2]? = some (encI (Ar.nodeAt l i).n)
  | x :: l, 0, r, _ => ⟨rfl, rfl, rfl⟩
  | x :: l, i + 1, r, h => by
    have := encNs_at l i r (by simpa using h)
    rw [encNs_cons, show (i + 1) * 3 = i * 3 + 1 + 1 + 1 by omega, show i * 3 + 1 + 1 + 1 + 1 = (i * 3 + 1) + 1 + 1 + 1 by omega, show i * 3 + 1 + 1 + 1 + 2 = (i * 3 + 2) + 1 + 1 + 1 by omega]
    simp only [List.cons_append, List.getElem?_cons_succ]
    exact this
theorem encNs_set : ∀ (l : List Ar.Node) (i : Nat) (r : List Value) (x : Nat), i < l.length → (encNs l ++ r).set (i * 3) (encI x) = encNs (Ar.setV l i x) ++ r ∧ (encNs l ++ r).set (i * 3 + 1) (encI x) = encNs (Ar.setL l i x) ++ r ∧ (encNs l ++ r).set (i * 3 + 2) (encI x) = encNs (Ar.setN l i x) ++ r
  | y :: l, 0, r, x, _ => ⟨rfl, rfl, rfl⟩
  | y :: l, i + 1, r, x, h => by
    have := encNs_set l i r x (by simpa using h)
    rw [encNs_cons, show (i + 1) * 3 = i * 3 + 1 + 1 + 1 by omega, show i * 3 + 1 + 1 + 1 + 1 = (i * 3 + 1) + 1 + 1 + 1 by omega, show i * 3 + 1 + 1 + 1 + 2 = (i * 3 + 2) + 1 + 1 + 1 by omega]
    simp only [List.cons_append, List.set_cons_succ, this]
    exact ⟨rfl, rfl, rfl⟩
/-- A struct of lists, at o in block C. -/
structure ChE (C o : Nat) (tC : TypeId) (bx : List Value) (N cap : Nat) (rest : List Value) (ns : List Ar.Node) (spare : Nat) (w : World) : Prop where
  box : Blk w C bx tC
  c0 : bx[o]? = some (.slice (some ⟨N, 0, none⟩) ns.length cap)
  c1 : bx[o + 1]? = some (encI spare)
  nd : Blk w N (encNs ns ++ rest) 99
  hcap : rest.length + 3 * ns.length = 3 * cap
  ne : C ≠ N
  len : ns.length ≤ 200000
  cm : cap ≤ maxLen
theorem ChE.node {C o : Nat} {tC : TypeId} {bx : List Value} {N cap : Nat} {rest : List Value} {ns : List Ar.Node} {spare : Nat} {w : World} (h : ChE C o tC bx N cap rest ns spare w) {i : Nat} (hi : i < ns.length) :
    w.cell? ⟨N, i * 3, none⟩ = some (encI (Ar.nodeAt ns i).v) ∧ w.cell? ⟨N, i * 3 + 1, none⟩ = some (encI (Ar.nodeAt ns i).l) ∧ w.cell? ⟨N, i * 3 + 2, none⟩ = some (encI (Ar.nodeAt ns i).n) :=
  ⟨h.nd.cell (encNs_at ns i rest hi).1, h.nd.cell (encNs_at ns i rest hi).2.1, h.nd.cell (encNs_at ns i rest hi).2.2⟩
theorem ChE.box0 {C o : Nat} {tC : TypeId} {bx : List Value} {N cap : Nat} {rest : List Value} {ns : List Ar.Node} {spare : Nat} {w : World} (h : ChE C o tC bx N cap rest ns spare w) : w.cell? ⟨C, o, none⟩ = some (.slice (some ⟨N, 0, none⟩) ns.length cap) ∧ w.cell? ⟨C, o + 1, none⟩ = some (encI spare) := ⟨h.box.cell h.c0, h.box.cell h.c1⟩
theorem ChE.setNd {C o : Nat} {tC : TypeId} {bx : List Value} {N cap : Nat} {rest : List Value} {ns ns' : List Ar.Node} {spare : Nat} {w w' : World} (h : ChE C o tC bx N cap rest ns spare w) (hN : Blk w' N (encNs ns' ++ rest) 99) (hl : ns'.length = ns.length) (hC : w'.heap[C]? = w.heap[C]?) : ChE C o tC bx N cap rest ns' spare w' :=
  ⟨h.box.kept hC, by rw [hl]; exact h.c0, h.c1, hN, by rw [hl]; exact h.hcap, h.ne, by rw [hl]; exact h.len, h.cm⟩
set_option maxHeartbeats 1000000 in
theorem link_any (C o : Nat) (tC : TypeId) (bx : List Value) (N cap : Nat) (rest : List Value) (ns : List Ar.Node) (spare one two : Nat) (w : World) (h : ChE C o tC bx N cap rest ns spare w) (h1 : one < ns.length) (h2 : two < ns.length) :
    Calls Tryd.prog 50 #[.pointer (some ⟨C, o, none⟩), .int .i64 (one : Int), .int .i64 (two : Int)] w fun e w' => e = .returned (.tuple #[]) ∧ Trn (fun k => k = N) w w' ∧ ChE C o tC bx N cap rest (Ar.link ns one two) spare w' := by
  have hb := h.box0.1
  have hn := (h.node h1).2.2
  have hl := (h.node h2).2.1
  have hf1 := h.nd.frozen (one * 3 + 2)
  have hf2 := h.nd.frozen (two * 3 + 1)
  have hlen := h.len
  have hCl := h.box.lt
  have hNl := h.nd.lt
  have hne := h.ne
  go_enter Tryd.func50, Tryd.ntmps50
  go_wp2
  go_region
  have e1 := h.nd.set (one * 3 + 2) (encI two)
  rw [(encNs_set ns one rest two h1).2.2] at e1
  have e2 := e1.set (two * 3 + 1) (encI one)
  rw [(encNs_set (Ar.setN ns one two) two rest one (by rw [Ar.setN_len]; exact h2)).2.1] at e2
  have t1 : Trn (fun k => k = N) w (w.setCell ⟨N, one * 3 + 2, none⟩ (encI two)) := Trn.set1 h.nd _ _
  have t2 := t1.trans (Trn.set (f := grow (fun k => k = N) w (w.setCell ⟨N, one * 3 + 2, none⟩ (encI two))) e1 (.inl rfl) (two * 3 + 1) (encI one))
  all_goals
    go_end0
    exact ⟨rfl, t2.trans (Trn.drew _ 1), h.setNd (w' := World.drew _) e2 (Ar.link_len _ _ _) ((t2.block C hCl hne))⟩
set_option maxHeartbeats 1000000 in
theorem first_any (C o : Nat) (tC : TypeId) (bx : List Value) (N cap : Nat) (rest : List Value) (ns : List Ar.Node) (spare i : Nat) (w : World) (h : ChE C o tC bx N cap rest ns spare w) (h1 : i < ns.length) (h2 : (Ar.nodeAt ns i).n < ns.length) :
    Calls Tryd.prog 65 #[.pointer (some ⟨C, o, none⟩), .int .i64 (i : Int)] w fun e w' => e = .returned (.tuple #[encI (Ar.nodeAt ns (Ar.nodeAt ns i).n).v, .bool (decide ((Ar.nodeAt ns i).n ≠ i))]) ∧ w = w' := by
  have hb := h.box0.1
  have hn := (h.node h1).2.2
  have hl := (h.node h2).1
  have hlen := h.len
  generalize hx : (Ar.nodeAt ns i).n = x at *
  generalize (Ar.nodeAt ns x).v = y at *
  clear hx
  unfold encI at *
  have hd : ((x : Int) != (i : Int)) = decide (x ≠ i) := by rw [Bool.eq_iff_iff]; simp only [bne_iff_ne, decide_eq_true_eq, ne_eq, Int.natCast_inj]
  have Hd := Lib.hid hd
  clear hd
  go_enter Tryd.func65, Tryd.ntmps65
  go_wp2
  go_ret2
  exact ⟨by rw [Hd.out]; rfl, rfl⟩
theorem ChE.alloc {C o : Nat} {tC : TypeId} {bx : List Value} {N cap : Nat} {rest : List Value} {ns : List Ar.Node} {spare : Nat} {w : World} (h : ChE C o tC bx N cap rest ns spare w) (ob : Obj) : ChE C o tC bx N cap rest ns spare (w.alloc ob) :=
  ⟨h.box.alloc _, h.c0, h.c1, h.nd.alloc _, h.hcap, h.ne, h.len, h.cm⟩
theorem ChE.drew {C o : Nat} {tC : TypeId} {bx : List Value} {N cap : Nat} {rest : List Value} {ns : List Ar.Node} {spare : Nat} {w : World} (h : ChE C o tC bx N cap rest ns spare w) (n : Nat) : ChE C o tC bx N cap rest ns spare (w.drewN n) :=
  ⟨h.box, h.c0, h.c1, h.nd, h.hcap, h.ne, h.len, h.cm⟩
theorem ChE.setSp {C o : Nat} {tC : TypeId} {bx : List Value} {N cap : Nat} {rest : List Value} {ns : List Ar.Node} {spare : Nat} {w : World} (h : ChE C o tC bx N cap rest ns spare w) (x : Nat) : ChE C o tC (bx.set (o + 1) (encI x)) N cap rest ns x (w.setCell ⟨C, o + 1, none⟩ (encI x)) :=
  ⟨h.box.set _ _, by rw [List.getElem?_set_ne (by omega)]; exact h.c0, by rw [List.getElem?_set_self (by have := (List.getElem?_eq_some_iff.1 h.c1).1; exact this)], h.nd.other (fun e => h.ne e.symm) _ _, h.hcap, h.ne, h.len, h.cm⟩
namespace Ar
def dropN (nd : List Node) (i spare : Nat) : List Node := (link nd (nodeAt nd i).l (nodeAt nd i).n).set i ⟨0, 0, spare⟩
theorem dropN_len (nd : List Node) (i s : Nat) : (dropN nd i s).length = nd.length := by simp [dropN, link_len]
end Ar
theorem Ar.set3 (ns : List Ar.Node) (i a b c : Nat) (h : i < ns.length) : Ar.setN (Ar.setL (Ar.setV ns i a) i b) i c = ns.set i ⟨a, b, c⟩ := by
  have e : ∀ (l : List Ar.Node) (x : Ar.Node), i < l.length → Ar.nodeAt (l.set i x) i = x := fun l x hl => by simp [Ar.nodeAt, hl]
  unfold Ar.setN Ar.setL Ar.setV
  rw [e _ _ h]
  simp only [List.set_set]
  rw [e _ _ h]
theorem Blk.set3 {W : World} {N i a b c : Nat} {ns : List Ar.Node} {rest : List Value} (h : Blk W N (encNs ns ++ rest) 99) (hi : i < ns.length) :
    Blk (((W.setCell ⟨N, i * 3, none⟩ (encI a)).setCell ⟨N, i * 3 + 1, none⟩ (encI b)).setCell ⟨N, i * 3 + 2, none⟩ (encI c)) N (encNs (ns.set i ⟨a, b, c⟩) ++ rest) 99 ∧ Trn (fun k => k = N) W (((W.setCell ⟨N, i * 3, none⟩ (encI a)).setCell ⟨N, i * 3 + 1, none⟩ (encI b)).setCell ⟨N, i * 3 + 2, none⟩ (encI c)) := by
  have e1 := h.set (i * 3) (encI a)
  rw [(encNs_set ns i rest a hi).1] at e1
  have e2 := e1.set (i * 3 + 1) (encI b)
  rw [(encNs_set _ i rest b (by rw [Ar.setV_len]; exact hi)).2.1] at e2
  have e3 := e2.set (i * 3 + 2) (encI c)
  rw [(encNs_set _ i rest c (by rw [Ar.setL_len, Ar.setV_len]; exact hi)).2.2, Ar.set3 _ _ _ _ _ hi] at e3
  exact ⟨e3, ((Trn.set1 h _ _).trans (Trn.set e1 (.inl rfl) _ _)).trans (Trn.set e2 (.inl rfl) _ _)⟩
set_option maxHeartbeats 2000000 in
theorem chDrop_any (C o : Nat) (tC : TypeId) (bx : List Value) (N cap : Nat) (rest : List Value) (ns : List Ar.Node) (spare i : Nat) (w : World) (h : ChE C o tC bx N cap rest ns spare w) (h1 : i < ns.length) (h2 : (Ar.nodeAt ns i).n < ns.length) (h3 : (Ar.nodeAt ns i).l < ns.length) :
    Calls Tryd.prog 66 #[.pointer (some ⟨C, o, none⟩), .int .i64 (i : Int)] w fun e w' => e = .returned (.tuple #[]) ∧ Trn (fun k => k = C ∨ k = N) w w' ∧ ChE C o tC (bx.set (o + 1) (encI i)) N cap rest (Ar.dropN ns i spare) i w' := by
  have hb := h.box0.1
  have hb1 := h.box0.2
  have hn0 := (h.node h1).1
  have hn1 := (h.node h1).2.1
  have hn2 := (h.node h1).2.2
  have hf1 := h.box.frozen (o + 1)
  have hlen := h.len
  have hCl := h.box.lt
  have hNl := h.nd.lt
  have hne := h.ne
  go_enter Tryd.func66, Tryd.ntmps66
  unfold encI at *
  go_wp2_with (go_at_call 50; (with_reducible refine (link_any C o tC bx N cap rest ns spare _ _ _ (h.alloc _) h3 h2).mono ?_); rintro e w1 ⟨rfl, ht, k⟩)
  have hb2 := k.box0.1
  have hb3 := k.box0.2
  have hi : i < (Ar.link ns (Ar.nodeAt ns i).l (Ar.nodeAt ns i).n).length := by rw [Ar.link_len]; exact h1
  have m0 := (k.node hi).1
  have m1 := (k.node hi).2.1
  have m2 := (k.node hi).2.2
  have mf := fun j => k.nd.frozen j
  have hf2 := k.box.frozen (o + 1)
  rw [Ar.link_len] at hb2
  have K := Lib.hid k
  have T := Lib.hid ht
  clear k ht
  unfold encI at m0 m1 m2 hb3
  go_region
  have kk := Blk.set3 (a := 0) (b := 0) (c := spare) K.out.nd hi
  unfold encI at kk
  simp only [Int.ofNat_eq_natCast, Int.natCast_zero] at kk
  generalize World.setCell (World.setCell (World.setCell w1 _ _) _ _) _ _ = w2 at kk ⊢
  have k2 := (K.out).setNd (w' := w2) kk.1 (by simp) (kk.2.block C K.out.box.lt hne)
  have t2 : Trn (fun k => k = C ∨ k = N) w w2 := (Trn.alloc w _).trans ((T.out.mono (fun k _ e => .inl (.inr e))).trans (kk.2.mono (fun k _ e => .inl (.inl (.inr e)))))
  have hb5 := k2.box0.2
  have hf5 := k2.box.frozen (o + 1)
  have t3 := (t2.trans (Trn.set k2.box (.inl (.inl rfl)) (o + 1) (encI i))).trans (Trn.drew _ 1)
  have k3 := (k2.setSp i).drew 1
  have R := Lib.hid (And.intro t3 k3)
  clear t3 k3 k2 t2 kk
  unfold encI at hb5
  go_wp2
  go_end0
  exact ⟨rfl, R.out.1, R.out.2⟩
end Go.Proofs.YtkndbldjablhoaaDoor
