/- 4 texts put together: Vapi, Harn, Shm, Math. -/
import Derived.WalkKit
import Derived.Test.YtagjjpmhacknpaaDoorJB12
import Derived.Test.YtagjjpmhacknpaaDoorJB13
/- The package's functions over an arena that a law made, by its blocks in the order of their handles; x are blocks of memory of the law's own beside it. -/
set_option maxRecDepth 100000
namespace Go.Proofs.YtagjjpmhacknpaaDoor
open Go.RowKit Go.Shelf
def fx (x : Nat → Prop) (n0 : Nat) (w : World) : Nat → Prop := fun j => n0 ≤ j ∧ j < w.heap.size ∧ ¬ x j
structure HX (x : Nat → Prop) (A B : Nat) (L : List Bl) (n0 : Nat) (w : World) : Prop where
  ex : ∃ bs, Hold A B bs (fx x n0 w) w ∧ Vw L bs
  low : n0 ≤ w.heap.size
  xlt : ∀ k, x k → k < w.heap.size
  xlow : ∀ k, x k → n0 ≤ k
  tab : TabOk w
  tlt : 0 < n0
structure LX (x : Nat → Prop) (A B : Nat) (L : List Bl) (n0 : Nat) (w w' : World) : Prop where
  at_ : HX x A B L n0 w'
  below : Below n0 w w'
  own : ∀ k, x k → w'.heap[k]? = w.heap[k]?
theorem Hold.wide {A B : Nat} {bs : List Ar.Pc} {f g : Nat → Prop} {w : World} (h : Hold A B bs f w) (hf : ∀ k, f k → g k) (hg : ∀ k, g k → k < w.heap.size) : Hold A B bs g w := by
  obtain ⟨L, S, pcs, a, I, e, m⟩ := h
  exact ⟨L, S, pcs, a.wide hf hg, I, e, m⟩
theorem Hold.lt {A B : Nat} {bs : List Ar.Pc} {f : Nat → Prop} {w : World} (h : Hold A B bs f w) : ∀ k, f k → k < w.heap.size := by
  obtain ⟨L, S, pcs, a, I, e, m⟩ := h
  exact a.fb
theorem Hold.ok {A B : Nat} {bs : List Ar.Pc} {f : Nat → Prop} {w : World} (h : Hold A B bs f w) : ∀ q ∈ bs, q.Ok ∧ q.free = false := by
  obtain ⟨L, S, pcs, a, I, rfl, m⟩ := h
  intro q hq
  obtain ⟨q1, q2⟩ := Ar.mem_blocks.1 hq
  exact ⟨I.ok q q1, q2⟩
theorem Hold.sum_le {A B : Nat} {bs : List Ar.Pc} {f : Nat → Prop} {w : World} (h : Hold A B bs f w) : Ar.sumT bs ≤ B ∧ B ≤ 1048576 := by
  obtain ⟨L, S, pcs, a, I, rfl, rfl⟩ := h
  rw [← I.used]
  exact ⟨I.sane.used, I.lim⟩
theorem HX.left {x : Nat → Prop} {A B : Nat} {L L' : List Bl} {bs' : List Ar.Pc} {n0 : Nat} {w w' : World} (h : HX x A B L n0 w) (k : Left_ A B bs' (fx x n0 w) w w') (hv : Vw L' bs') : LX x A B L' n0 w w' := by
  have hs := k.trn.size
  have hb : Below n0 w w' := k.trn.below (fun j e => e.1) h.low
  refine ⟨⟨⟨bs', k.hold.wide (fun j e => ?_) (fun j e => e.2.1), hv⟩, Nat.le_trans h.low hs, fun j e => Nat.lt_of_lt_of_le (h.xlt j e) hs, h.xlow, h.tab.below h.tlt hb, h.tlt⟩, hb, fun j e => k.trn.block j (h.xlt j e) (fun e' => e'.2.2 e)⟩
  rcases e with e | e
  · exact ⟨e.1, Nat.lt_of_lt_of_le e.2.1 hs, e.2.2⟩
  · exact ⟨Nat.le_trans h.low e.1, e.2, fun e' => by have := h.xlt j e'; omega⟩
theorem HX.lx {x : Nat → Prop} {A B : Nat} {L : List Bl} {n0 : Nat} {w w' : World} (h : HX x A B L n0 w) (hb : Below w.heap.size w w') : LX x A B L n0 w w' := by
  obtain ⟨bs, hh, hv⟩ := h.ex
  exact h.left (Left_.below hh hb) hv
theorem HX.after {x : Nat → Prop} {A B : Nat} {L : List Bl} {n0 : Nat} {w w' : World} (h : HX x A B L n0 w) (hb : Below w.heap.size w w') : HX x A B L n0 w' := (h.lx hb).at_
theorem HX.sum_le {x : Nat → Prop} {A B : Nat} {L : List Bl} {n0 : Nat} {w : World} (h : HX x A B L n0 w) : sumC L ≤ B ∧ B ≤ 1048576 := by
  obtain ⟨bs, hh, hv⟩ := h.ex
  rw [← hv.sum]
  exact hh.sum_le
theorem HX.each {x : Nat → Prop} {A B : Nat} {L : List Bl} {n0 : Nat} {w : World} (h : HX x A B L n0 w) : L.Pairwise (fun x y => x.1 < y.1) ∧ ∀ b ∈ L, 1 ≤ b.1 ∧ b.2.length ≤ 4096 := by
  obtain ⟨bs, hh, hv⟩ := h.ex
  refine ⟨hv.srt, fun b hb => ⟨hv.pos b hb, ?_⟩⟩
  obtain ⟨q, hq, rfl⟩ := List.mem_map.1 (hv.perm.mem_iff.1 hb)
  obtain ⟨k1, _, k3⟩ := blk_len (hv.ok q hq)
  show (q.data.take q.size).length ≤ 4096
  omega
/-- A block of the law's own, just made. -/
theorem HX.mine {x : Nat → Prop} {A B : Nat} {L : List Bl} {n0 : Nat} {w : World} (h : HX x A B L n0 w) (o : Obj) : HX (fun k => x k ∨ k = w.heap.size) A B L n0 (w.alloc o) := by
  obtain ⟨bs, hh, hv⟩ := h.ex
  have hb : Below w.heap.size w (w.alloc o) := (Below.refl _ w).alloc (Nat.le_refl _) o
  have hs : (w.alloc o).heap.size = w.heap.size + 1 := World.size_alloc _ _
  have hl := Left_.below hh hb
  refine ⟨⟨bs, ?_, hv⟩, by rw [hs]; exact Nat.le_succ_of_le h.low, fun k e => by rw [hs]; exact e.elim (fun e => Nat.lt_succ_of_lt (h.xlt k e)) (fun e => by omega), fun k e => e.elim (h.xlow k) (fun e => by rw [e]; exact h.low), h.tab.below h.tlt (hb.mono h.low), h.tlt⟩
  obtain ⟨L', S, pcs, a, I, e, m⟩ := hh
  have a2 := a.below hb
  exact ⟨L', S, pcs, a2.wide (fun j e => ⟨e.1, by rw [hs]; exact Nat.lt_succ_of_lt e.2.1, fun e' => e'.elim e.2.2 (fun e' => by have := e.2.1; omega)⟩) (fun j e => e.2.1), I, e, m⟩
theorem blk_notIn {x : Nat → Prop} {A : Nat} {L : Loc} {S : Ar.St} {n0 : Nat} {w w' : World} (a : ArE A L S (fx x n0 w) w) (hs : w'.heap.size = w.heap.size) (hk : ∀ k, ¬ x k → w'.heap[k]? = w.heap[k]?) : ArE A L S (fx x n0 w') w' :=
  ⟨a.box.kept (hk _ a.fA.2.2), a.mem.kept (hk _ a.fM.2.2), a.pl.kept (hk _ a.fP.2.2), a.us.kept (hk _ a.fU.2.2), a.nd.kept (hk _ a.fN.2.2), a.cap, a.cm, ⟨a.fA.1, by rw [hs]; exact a.fA.2.1, a.fA.2.2⟩, ⟨a.fM.1, by rw [hs]; exact a.fM.2.1, a.fM.2.2⟩, ⟨a.fP.1, by rw [hs]; exact a.fP.2.1, a.fP.2.2⟩, ⟨a.fU.1, by rw [hs]; exact a.fU.2.1, a.fU.2.2⟩, ⟨a.fN.1, by rw [hs]; exact a.fN.2.1, a.fN.2.2⟩, fun k e => e.2.1⟩
/-- A store into a block of the law's own. -/
theorem HX.put {x : Nat → Prop} {A B : Nat} {L : List Bl} {n0 : Nat} {w : World} (h : HX x A B L n0 w) {k : Nat} (hk : x k) (i : Nat) (v : Value) : HX x A B L n0 (w.setCell ⟨k, i, none⟩ v) := by
  obtain ⟨bs, ⟨L', S, pcs, a, I, e, m⟩, hv⟩ := h.ex
  have hs : (w.setCell ⟨k, i, none⟩ v).heap.size = w.heap.size := by simp [World.setCell]
  have hb : Below n0 w (w.setCell ⟨k, i, none⟩ v) := (Below.refl n0 w).setCell (h.xlow k hk) v
  exact ⟨⟨bs, ⟨L', S, pcs, blk_notIn a hs (fun j hj => Below.heap_setCell w ⟨k, i, none⟩ v j (fun e => hj (e ▸ hk))), I, e, m⟩, hv⟩, by rw [hs]; exact h.low, fun j e => by rw [hs]; exact h.xlt j e, h.xlow, h.tab.below h.tlt hb, h.tlt⟩
/-- Fewer blocks of the law's own. -/
theorem HX.less {x y : Nat → Prop} {A B : Nat} {L : List Bl} {n0 : Nat} {w : World} (h : HX x A B L n0 w) (hy : ∀ k, y k → x k) : HX y A B L n0 w := by
  obtain ⟨bs, hh, hv⟩ := h.ex
  exact ⟨⟨bs, hh.wide (fun j e => ⟨e.1, e.2.1, fun e' => e.2.2 (hy j e')⟩) (fun j e => e.2.1), hv⟩, h.low, fun k e => h.xlt k (hy k e), fun k e => h.xlow k (hy k e), h.tab, h.tlt⟩
theorem LX.to {x : Nat → Prop} {A B : Nat} {L L' : List Bl} {n0 : Nat} {w w1 w2 : World} (h : LX x A B L n0 w w1) (k : LX x A B L' n0 w1 w2) : LX x A B L' n0 w w2 :=
  ⟨k.at_, h.below.trans k.below, fun j e => (k.own j e).trans (h.own j e)⟩
theorem LX.blk {x : Nat → Prop} {A B : Nat} {L : List Bl} {n0 : Nat} {w w' : World} (h : LX x A B L n0 w w') {I : Nat} {l : List Value} {t : TypeId} (hI : x I) (hb : Blk w I l t) : Blk w' I l t := hb.kept (h.own I hI)
def AllocX (x : Nat → Prop) (A B : Nat) (L : List Bl) (n0 : Nat) (n : Int) (w : World) (e : Ending) (w' : World) : Prop :=
  (Ar.costI n = 0 ∧ e = .returned (.tuple #[.int .i64 0, .int .i64 3]) ∧ w = w') ∨ (Ar.costI n ≠ 0 ∧ B - sumC L < Ar.costI n ∧ e = .returned (.tuple #[.int .i64 0, .int .i64 4]) ∧ w = w') ∨
  (Ar.costI n ≠ 0 ∧ Ar.costI n ≤ B - sumC L ∧ ∃ (k : Nat) (L1 L2 : List Bl), n = (k : Int) ∧ k ≤ 4096 ∧ L = L1 ++ L2 ∧ Least L1 L2 ∧ e = .returned (.tuple #[.int .i64 ((L1.length + 1 : Nat) : Int), .int .i64 0]) ∧ LX x A B (L1 ++ (L1.length + 1, Ar.zeros k) :: L2) n0 w w')
theorem costI_pos {n : Int} (h : Ar.costI n ≠ 0) : ∃ k : Nat, n = (k : Int) ∧ k ≤ 4096 ∧ Ar.costI n = Ar.cost k := by
  unfold Ar.costI at h ⊢
  by_cases h1 : 0 ≤ n ∧ n ≤ 4096
  · exact ⟨n.toNat, by omega, by omega, by rw [if_pos h1]⟩
  · rw [if_neg h1] at h; exact absurd rfl h
theorem alloc_x (x : Nat → Prop) (A B : Nat) (L : List Bl) (n0 : Nat) (n : Int) (w : World) (h : HX x A B L n0 w) :
    Calls Tryd.prog 8 #[.pointer (some ⟨A, 0, none⟩), .int .i64 n] w (AllocX x A B L n0 n w) := by
  obtain ⟨bs, hh, hv⟩ := h.ex
  refine (alloc_api A B bs _ n w hh h.tab (fun e => by have := e.1; have := h.tlt; omega)).mono fun e w' hk => ?_
  rcases hk with hk | hk | ⟨k1, k2, i, B1, B2, b, he, rfl, hL, hz, hN, g1, g2, g3⟩
  · exact .inl hk
  · exact .inr (.inl (by rw [← hv.sum]; exact hk))
  · obtain ⟨k, rfl, hk4, _⟩ := costI_pos k1
    have hz' : b.size = k := by omega
    obtain ⟨L1, L2, rfl, hl, rfl, hv'⟩ := hv.add hN (hL.hold.ok b (by simp)).1 g1 g2 g3
    rw [hz'] at hv'
    exact .inr (.inr ⟨k1, by rw [← hv.sum]; exact k2, k, L1, L2, rfl, hk4, rfl, hl, he, h.left hL hv'⟩)
def FreeX (x : Nat → Prop) (A B : Nat) (L : List Bl) (n0 : Nat) (z : Int) (w : World) (e : Ending) (w' : World) : Prop :=
  ((∀ b ∈ L, (b.1 : Int) ≠ z) ∧ e = .returned (.int .i64 5) ∧ LX x A B L n0 w w') ∨ (∃ (L1 : List Bl) (b : Bl) (L2 : List Bl), L = L1 ++ b :: L2 ∧ (b.1 : Int) = z ∧ e = .returned (.int .i64 0) ∧ LX x A B (L1 ++ L2) n0 w w')
theorem free_x (x : Nat → Prop) (A B : Nat) (L : List Bl) (n0 : Nat) (z : Int) (w : World) (h : HX x A B L n0 w) :
    Calls Tryd.prog 10 #[.pointer (some ⟨A, 0, none⟩), .int .i64 z] w (FreeX x A B L n0 z w) := by
  obtain ⟨bs, hh, hv⟩ := h.ex
  refine (free_api A B bs _ z w hh).mono fun e w' hk => ?_
  rcases hk with ⟨h1, he, hb⟩ | ⟨B1, q, B2, rfl, ho, he, hL⟩
  · exact .inl ⟨hv.none.1 h1, he, h.lx hb⟩
  · obtain ⟨L1, L2, rfl⟩ := hv.at_ (q := q) (by simp)
    exact .inr ⟨L1, prB q, L2, rfl, ho, he, h.left hL hv.drop⟩
def SizeX (x : Nat → Prop) (A B : Nat) (L : List Bl) (n0 : Nat) (z : Int) (w : World) (e : Ending) (w' : World) : Prop :=
  LX x A B L n0 w w' ∧ Below w.heap.size w w' ∧ (((∀ b ∈ L, (b.1 : Int) ≠ z) ∧ e = .returned (.tuple #[.int .i64 0, .bool false])) ∨ ∃ b ∈ L, (b.1 : Int) = z ∧ e = .returned (.tuple #[.int .i64 (b.2.length : Int), .bool true]))
theorem size_x (x : Nat → Prop) (A B : Nat) (L : List Bl) (n0 : Nat) (z : Int) (w : World) (h : HX x A B L n0 w) :
    Calls Tryd.prog 19 #[.pointer (some ⟨A, 0, none⟩), .int .i64 z] w (SizeX x A B L n0 z w) := by
  obtain ⟨bs, hh, hv⟩ := h.ex
  refine (size_api A B bs _ z w hh).mono fun e w' ⟨hb, hk⟩ => ⟨h.lx hb, hb, ?_⟩
  rcases hk with ⟨h1, he⟩ | ⟨q, hq, ho, he⟩
  · exact .inl ⟨hv.none.1 h1, he⟩
  · exact .inr ⟨prB q, hv.perm.mem_iff.2 (List.mem_map.2 ⟨q, hq, rfl⟩), ho, by rw [he]; show _ = Ending.returned (.tuple #[.int .i64 ((q.data.take q.size).length : Int), _]); rw [(blk_len (hv.ok q hq)).1]⟩
theorem used_x (x : Nat → Prop) (A B : Nat) (L : List Bl) (n0 : Nat) (w : World) (h : HX x A B L n0 w) : Calls Tryd.prog 21 #[.pointer (some ⟨A, 0, none⟩)] w fun e w' => e = .returned (.int .i64 (sumC L : Int)) ∧ w = w' := by
  obtain ⟨bs, hh, hv⟩ := h.ex
  rw [← hv.sum]
  exact used_api A B bs _ w hh
theorem left_x (x : Nat → Prop) (A B : Nat) (L : List Bl) (n0 : Nat) (w : World) (h : HX x A B L n0 w) : Calls Tryd.prog 22 #[.pointer (some ⟨A, 0, none⟩)] w fun e w' => e = .returned (.int .i64 ((B - sumC L : Nat) : Int)) ∧ w = w' := by
  obtain ⟨bs, hh, hv⟩ := h.ex
  rw [← hv.sum]
  exact left_api A B bs _ w hh
theorem compact_x (x : Nat → Prop) (A B : Nat) (L : List Bl) (n0 : Nat) (w : World) (h : HX x A B L n0 w) : Calls Tryd.prog 16 #[.pointer (some ⟨A, 0, none⟩)] w fun e w' => e = .returned (.int .i64 ((B - sumC L : Nat) : Int)) ∧ LX x A B L n0 w w' := by
  obtain ⟨bs, hh, hv⟩ := h.ex
  rw [← hv.sum]
  exact (compact_api A B bs _ w hh).mono fun e w' ⟨he, hL⟩ => ⟨he, h.left hL hv⟩
def ReadX (x : Nat → Prop) (A B : Nat) (L : List Bl) (n0 : Nat) (z at_ n : Int) (w : World) (e : Ending) (w' : World) : Prop :=
  LX x A B L n0 w w' ∧ Below w.heap.size w w' ∧ (((∀ b ∈ L, (b.1 : Int) ≠ z) ∧ e = .returned (.tuple #[.slice none 0 0, .int .i64 5])) ∨ ∃ b ∈ L, (b.1 : Int) = z ∧
    ((¬ Within b.2.length at_ n ∧ e = .returned (.tuple #[.slice none 0 0, .int .i64 1])) ∨ (Within b.2.length at_ n ∧ ∃ v l, l = (b.2.drop at_.toNat).take n.toNat ∧ e = .returned (.tuple #[v, .int .i64 0]) ∧ w'.ownsRow w.heap.size 5 1 v l.length (l.map encB))))
theorem read_x (x : Nat → Prop) (A B : Nat) (L : List Bl) (n0 : Nat) (z at_ n : Int) (w : World) (h : HX x A B L n0 w)
    (hI1 : -9223372036854775808 ≤ at_) (hI2 : at_ ≤ 9223372036854775807) (hI3 : -9223372036854775808 ≤ n) (hI4 : n ≤ 9223372036854775807) :
    Calls Tryd.prog 12 #[.pointer (some ⟨A, 0, none⟩), .int .i64 z, .int .i64 at_, .int .i64 n] w (ReadX x A B L n0 z at_ n w) := by
  obtain ⟨bs, hh, hv⟩ := h.ex
  refine (read_api A B bs _ z at_ n w hh hI1 hI2 hI3 hI4).mono fun e w' ⟨hb, hk⟩ => ⟨h.lx hb, hb, ?_⟩
  rcases hk with ⟨h1, he⟩ | ⟨q, hq, ho, hk⟩
  · exact .inl ⟨hv.none.1 h1, he⟩
  · obtain ⟨e1, _, _⟩ := blk_len (hv.ok q hq)
    refine .inr ⟨prB q, hv.perm.mem_iff.2 (List.mem_map.2 ⟨q, hq, rfl⟩), ho, ?_⟩
    show (¬ Within (q.data.take q.size).length at_ n ∧ _) ∨ (Within (q.data.take q.size).length at_ n ∧ _)
    rw [e1]
    rcases hk with hk | ⟨k1, v, l, hl, he, hr⟩
    · exact .inl hk
    · refine .inr ⟨k1, v, l, ?_, he, hr⟩
      obtain ⟨w1, w2, w3, w4⟩ := k1
      rw [hl]
      exact take_drop_take _ _ _ _ (by omega)
def WriteX (x : Nat → Prop) (A B : Nat) (L : List Bl) (n0 : Nat) (z at_ : Int) (l : List UInt8) (w : World) (e : Ending) (w' : World) : Prop :=
  ((∀ b ∈ L, (b.1 : Int) ≠ z) ∧ e = .returned (.int .i64 5) ∧ LX x A B L n0 w w') ∨ ∃ (L1 : List Bl) (b : Bl) (L2 : List Bl), L = L1 ++ b :: L2 ∧ (b.1 : Int) = z ∧
    ((¬ Within b.2.length at_ l.length ∧ e = .returned (.int .i64 1) ∧ LX x A B L n0 w w') ∨ (Within b.2.length at_ l.length ∧ e = .returned (.int .i64 0) ∧ LX x A B (L1 ++ (b.1, Ar.put b.2 at_.toNat l) :: L2) n0 w w'))
theorem write_x (x : Nat → Prop) (A B : Nat) (L : List Bl) (n0 : Nat) (z at_ : Int) (v : Value) (l : List UInt8) (w : World) (h : HX x A B L n0 w) (hb : RdB v l w) (hl : l.length ≤ 1048576)
    (hI1 : -9223372036854775808 ≤ at_) (hI2 : at_ ≤ 9223372036854775807) :
    Calls Tryd.prog 14 #[.pointer (some ⟨A, 0, none⟩), .int .i64 z, .int .i64 at_, v] w (WriteX x A B L n0 z at_ l w) := by
  obtain ⟨bs, hh, hv⟩ := h.ex
  refine (write_api A B bs _ z at_ v l w hh hb hl hI1 hI2).mono fun e w' hk => ?_
  rcases hk with ⟨h1, he, hbw⟩ | ⟨B1, q, B2, rfl, ho, hk⟩
  · exact .inl ⟨hv.none.1 h1, he, h.lx hbw⟩
  · obtain ⟨L1, L2, rfl⟩ := hv.at_ (q := q) (by simp)
    obtain ⟨e1, _, _⟩ := blk_len (hv.ok q (by simp))
    refine .inr ⟨L1, prB q, L2, rfl, ho, ?_⟩
    show (¬ Within (q.data.take q.size).length at_ l.length ∧ _) ∨ (Within (q.data.take q.size).length at_ l.length ∧ _)
    rw [e1]
    rcases hk with ⟨k1, he, hbw⟩ | ⟨k1, he, hL⟩
    · exact .inl ⟨k1, he, h.lx hbw⟩
    · obtain ⟨w1, w2, w3, w4⟩ := id k1
      have hq := hv.ok q (by simp)
      have hd := data_ge hq.1 hq.2
      have hv' := hv.swap (q' := { q with data := Ar.put q.data at_.toNat l }) rfl (hL.hold.ok _ (by simp))
      have hp : prB { q with data := Ar.put q.data at_.toNat l } = ((prB q).1, Ar.put (prB q).2 at_.toNat l) := by
        unfold prB
        simp only
        rw [put_take _ _ _ _ (by omega) hd.1]
      rw [hp] at hv'
      exact .inr ⟨k1, he, h.left hL hv'⟩
theorem new_x (B : Nat) (w : World) (h1 : 1024 ≤ B) (h2 : B ≤ 1048576) (hT : TabOk w) :
    Calls Tryd.prog 6 #[.int .i64 (B : Int)] w fun e w' => ∃ A, e = .returned (.tuple #[.pointer (some ⟨A, 0, none⟩), .int .i64 0]) ∧ HX (fun _ => False) A B [] w.heap.size w' ∧ Below w.heap.size w w' := by
  have hg : 0 < w.heap.size := cell_lt (hT 0 (by decide))
  exact (new_api B w h1 h2).mono fun e w' ⟨A, he, hH, hb⟩ => ⟨A, he, ⟨⟨[], hH.wide (fun j e => ⟨e.1, e.2, id⟩) (fun j e => e.2.1), Vw.nil⟩, hb.size, fun _ e => e.elim, fun _ e => e.elim, hT.below hg hb, hg⟩, hb⟩
end Go.Proofs.YtagjjpmhacknpaaDoor

/- Handles: the arena's iterator. -/
set_option maxRecDepth 100000
namespace Go.Proofs.YtagjjpmhacknpaaDoor
open Go.RowKit Go.Shelf
attribute [local go_sem] Oper.semAt_some
theorem blk_own {W W' : World} {row : Option Nat} {k : Nat} {l : List Value} {t : TypeId} (h : Blk W k l t) (hg : W.grownBy W' row) (hr : ∀ r, row = some r → ∃ o : Obj, W.heap[r]? = some o ∧ o.isCells = false) : Blk W' k l t :=
  h.kept (hg.block k h.lt (fun e => by
    obtain ⟨o, ho, hc⟩ := hr k e.symm
    rw [show W.heap[k]? = _ from h] at ho
    cases ho
    cases hc))
theorem are_own {A : Nat} {L : Loc} {S : Ar.St} {f : Nat → Prop} {W W' : World} {row : Option Nat} (h : ArE A L S f W) (hg : W.grownBy W' row) (hr : ∀ r, row = some r → ∃ o : Obj, W.heap[r]? = some o ∧ o.isCells = false) : ArE A L S f W' :=
  ⟨blk_own h.box hg hr, blk_own h.mem hg hr, blk_own h.pl hg hr, blk_own h.us hg hr, blk_own h.nd hg hr, h.cap, h.cm, h.fA, h.fM, h.fP, h.fU, h.fN, fun k e => Nat.lt_of_lt_of_le (h.fb k e) hg.size⟩
theorem KH.up {A : Nat} {L : Loc} {S : Ar.St} {B B' : Nat} {W W' : World} (h : KH A L S B W W') (hb : B ≤ B') : KH A L S B' W W' := ⟨fun k l t hk b => h.1 k l t (by omega) b, h.2⟩
def toHN (S : Ar.St) (x : Nat × Nat) : Nat × Nat := (x.1, (Ar.headAt S.mem x.2).size)
namespace Ar
/-- What Handles tells. -/
def told (S : St) : List (Nat × Nat) := (tabl S S.pl.length).map (toHN S)
end Ar
set_option maxHeartbeats 64000000 in
theorem handles1_in (m l Bn A : Nat) (L : Loc) (S : Ar.St) (f : Nat → Prop) (hm : 4 ≤ m) (hs : Ar.Sane S) (hP : ∀ x ∈ Ar.tabl S S.pl.length, x.2 + 8 ≤ S.mem.length) (J Jx : List (Nat × Nat) → World → Prop) (W : World) (hJ : OwnBk W.heap.size J) (hJx : OwnBk W.heap.size Jx)
    (hY : ∀ pre x W1, J pre W1 → pre.length < 1000000 → pre ++ [x] <+: Ar.told S → YieldAt Fence.wide (m - 1) Tryd.prog l (encHP x) W1 fun e W' =>
      (e = .returned (.bool true) ∧ J (pre ++ [x]) W' ∧ KH A L S Bn W1 W' ∧ KeepsBk W.heap.size W1 W') ∨ (e = .returned (.bool false) ∧ Jx (pre ++ [x]) W' ∧ KeepsBk W.heap.size W1 W'))
    (hB : Blk W Bn [.pointer (some ⟨A, 0, none⟩)] 25) (hA : ArE A L S f W) (h0 : J [] W) :
    CallsIn Fence.wide m Tryd.prog 55 #[.func (.yield l) #[] #[], .pointer (some ⟨Bn, 0, none⟩)] W fun e W' => (∃ v, e = .returned v) ∧
      ((∃ ys, ys = Ar.told S ∧ J ys W') ∨ (∃ pre, pre <+: Ar.told S ∧ Jx pre W')) := by
  have hm1 : 1 ≤ m := by omega
  have hm2 : 1 ≤ m - 1 := by omega
  have hm3 : 1 ≤ m - 1 - 1 := by omega
  have hBl := hB.lt
  refine callsIn_of_wp_marks Tryd.func55 rfl trivial ?_ rfl
  simp only [Tryd.ntmps55, List.size_toArray, List.length_cons, List.length_nil, Nat.reduceAdd, Nat.reduceSub, Array.replicate_succ, Array.replicate_zero, List.push_toArray, List.append_toArray, List.nil_append, List.cons_append]
  have b1 := hB.alloc (.cells #[.func (.yield l) #[] #[]] 88)
  have c1 := b1.cell (i := 0) rfl
  have y1 := Blk.new W [.func (.yield l) #[] #[]] 88
  have a1 := hA.below ((Below.refl _ W).alloc (Nat.le_refl _) (.cells #[.func (.yield l) #[] #[]] 88))
  have j1 := hJ.alloc (.cells #[.func (.yield l) #[] #[]] 88) h0
  have s1 : (W.alloc (.cells #[.func (.yield l) #[] #[]] 88)).heap.size = W.heap.size + 1 := World.size_alloc _ _
  gi_wp2_with (refine ⟨trivial, ?_⟩; gi_at_call 56; refine (callsIn_wide.2 (all_any A _)).mono ?_; rintro e w' ⟨rfl, rfl⟩)
  have b2 := b1.alloc (.cells #[.pointer (some ⟨A, 2, none⟩)] 80)
  have y2 := y1.alloc (.cells #[.pointer (some ⟨A, 2, none⟩)] 80)
  have t2 := Blk.new (W.alloc (.cells #[.func (.yield l) #[] #[]] 88)) [.pointer (some ⟨A, 2, none⟩)] 80
  have a2 := a1.below ((Below.refl _ _).alloc (Nat.le_refl _) (.cells #[.pointer (some ⟨A, 2, none⟩)] 80))
  have j2 := hJ.alloc (.cells #[.pointer (some ⟨A, 2, none⟩)] 80) j1
  have s2 : ((W.alloc (.cells #[.func (.yield l) #[] #[]] 88)).alloc (.cells #[.pointer (some ⟨A, 2, none⟩)] 80)).heap.size = W.heap.size + 2 := by rw [World.size_alloc, s1]
  rw [s1] at t2
  clear b1 c1 y1 a1 j1 s1
  generalize ((W.alloc (.cells #[.func (.yield l) #[] #[]] 88)).alloc (.cells #[.pointer (some ⟨A, 2, none⟩)] 80)) = W0 at *
  refine wpIn_rangeFunc_ownB rfl (by omega) (gf := 61) (lb := #[.pointer (some ⟨W.heap.size + 1, 0, none⟩)]) (by rfl) trivial (enters_of Tryd.func61 (by kernel_rfl) rfl)
    (all_stops _ (by omega) (W.heap.size + 1) A L S f hs _ t2 a2) kh_t kh_b (Below.refl _ _) (fun _ => rfl)
    (fun pre W' => J (pre.map (toHN S)) W' ∧ ArE A L S f W' ∧ Blk W' Bn [.pointer (some ⟨A, 0, none⟩)] 25 ∧ Blk W' W.heap.size [.func (.yield l) #[] #[]] 88)
    (fun c pre W' => Jx (pre.map (toHN S)) W' ∧ c = .ret)
    (fun s X Y row hs hg hr => ⟨hJ _ X Y row hs.1 hg (fun r e => ⟨by have := (hr r e).1; omega, (hr r e).2⟩), are_own hs.2.1 hg (fun r e => bookC (hr r e).2), blk_own hs.2.2.1 hg (fun r e => bookC (hr r e).2), blk_own hs.2.2.2 hg (fun r e => bookC (hr r e).2)⟩)
    (fun c s X Y row hs hg hr => ⟨hJx _ X Y row hs.1 hg (fun r e => ⟨by have := (hr r e).1; omega, (hr r e).2⟩), hs.2⟩)
    ⟨j2, a2, b2, y2⟩
    (fun x => { tmps := #[.func (.yield l) #[] #[], .pointer (some ⟨Bn, 0, none⟩), .pointer (some ⟨W.heap.size, 0, none⟩), .int .i64 (x.1 : Int), .int .i64 (x.2 : Int), .pointer (some ⟨A, 0, none⟩), .bool false, .pointer (some ⟨A, 0, none⟩), .pointer (some ⟨A, 0, none⟩), .pointer (some ⟨A, 2, none⟩), .func (.func 61) #[] #[.pointer (some ⟨W.heap.size + 1, 0, none⟩)], .int .i64 (x.1 : Int), .int .i64 (x.2 : Int), undef, undef, undef, undef, undef, undef, undef, undef], defers := [] }) ?assign ?body ?done ?stop
  case assign =>
    intro l x W K hK
    unfold encHP
    gi_wp2
    exact hK
  case body =>
    have hF1 : Fence.wide.fn 32 := trivial
    have hmx : Tryd.prog.follows .mixedOrders = true := by kernel_rfl
    rintro l1 pre x W1 ⟨hJ1, hA1, hx1, hx2⟩ hlen hsp
    have d1 := hx1.cell (i := 0) rfl
    have d2 := hx2.cell (i := 0) rfl
    have hmem := hP x (hsp.subset (by simp))
    have hhd : ∀ W', ArE A L S f W' → Calls Tryd.prog 32 #[.pointer (some ⟨A, 0, none⟩), .int .i64 (x.2 : Int)] W' _ := fun W' h => head_agg A L S f _ x.2 (Ar.headAt S.mem x.2) W' rfl h hs.mem hmem rfl
    have hfd := field_head (Ar.headAt S.mem x.2)
    have hpl : (pre.map (toHN S)).length < 1000000 := by rw [List.length_map]; exact hlen
    have hyr : ∀ W2, Below W1.heap.size W1 W2 → J (pre.map (toHN S)) W2 := fun W2 hb => hJ _ W1 W2 none hJ1 ⟨hb.os, hb.tape, hb.output, hb.size, fun k hk _ => hb.block k hk⟩ (fun r e => by cases e)
    have hspl : pre.map (toHN S) ++ [toHN S x] <+: Ar.told S := by
      have h := List.IsPrefix.map (toHN S) hsp
      rw [List.map_append] at h
      exact h
    have HSpl := Lib.hid hspl
    have HHD := Lib.hid hhd
    have HYr := Lib.hid hyr
    have HPl := Lib.hid hpl
    have HA1 := Lib.hid hA1
    have hxs : (toHN S x).1 = x.1 ∧ (toHN S x).2 = (Ar.headAt S.mem x.2).size := ⟨rfl, rfl⟩
    have HXS := Lib.hid hxs
    have HYY := Lib.hid hY
    clear hspl hsp hhd hyr hpl hA1 hxs hY hmem
    generalize Ar.headAt S.mem x.2 = p at *
    gi_wp2
    gi_region_with_o (first
      | (gi_at_call 32; refine (CallsIn.inRound l1 (callsIn_wide.2 (HHD.out _ (HA1.out.below ((Below.refl W1.heap.size W1).drew))))).mono ?_; rintro e W2 ⟨rfl, hb2⟩; have hbb := ((Below.refl W1.heap.size W1).drew).trans hb2; have e2 := (hx2.kept (hbb.block _ hx2.lt)).cell (i := 0) rfl; have e1 := (hx1.kept (hbb.block _ hx1.lt)).cell (i := 0) rfl; obtain ⟨fn, tmps, assign, body, hy, hR⟩ := HYY.out _ (toHN S x) W2 (HYr.out W2 hbb) HPl.out HSpl.out; unfold encHP at hy; rw [HXS.out.1, HXS.out.2] at hy)
      | (refine (roundIn_any hR).mono ?_; intro e W3 hor; obtain ⟨bb, rfl, hbb3⟩ := one_of hor))
    all_goals
      have hfin := hbb3.out
      clear hbb3
      have hkb : KeepsBk W0.heap.size W1 W3 := by
        have hkf : KeepsBk W.heap.size W2 W3 := hfin.elim (fun h => h.2.2.2) (fun h => h.2.2)
        have hkg : KeepsBk W0.heap.size W1 W2 := ⟨hbb.size, fun k o _ hk _ => (hbb.block k (Array.getElem?_eq_some_iff.1 hk).1).trans hk⟩
        exact hkg.trans ⟨hkf.size, fun k o hk => hkf.same k o (by omega)⟩
      cases bb
      · obtain ⟨hJ3, _⟩ := (hfin.resolve_left (fun h => by cases h.1)).2
        gi_wp2
        exact ⟨by first | exact hkb | (rw [← s2]; exact hkb), by simpa using hJ3, rfl⟩
      · obtain ⟨hJ3, hk3, _⟩ := (hfin.resolve_right (fun h => by cases h.1)).2
        have hkh : KH A L S Bn W1 W3 := kh_t (KH.below hbb) hk3
        have hA3 := hkh.2 _ HA1.out
        have hx13 := hkh.1 _ _ _ (Nat.le_refl _) hx1
        have hx23 := hkh.1 _ _ _ (by omega) hx2
        gi_wp2
        exact ⟨by first | exact hkb | (rw [← s2]; exact hkb), hkh.up (by omega), by simpa using hJ3, hA3, hx13, hx23⟩
  case done =>
    rintro D ys W2 hD hS ⟨hJ1, hA1, hx1, hx2⟩ hK
    gi_wp2
    refine ⟨by simp, .inl ⟨_, _, rfl, run_takeDeferred hK, ?_⟩⟩
    exact ⟨_, results_none rfl _ _ _, ⟨_, rfl⟩, .inl ⟨ys.map (toHN S), by rw [hS]; rfl, hJ.putObj _ hJ1 (by omega) hK rfl⟩⟩
  case stop =>
    rintro D c pre W2 hD hSp ⟨hJ1, rfl⟩ hK
    gi_wp2
    refine ⟨by simp, .inl ⟨_, _, rfl, run_takeDeferred hK, ?_⟩⟩
    exact ⟨_, results_none rfl _ _ _, ⟨_, rfl⟩, .inr ⟨pre.map (toHN S), List.IsPrefix.map (toHN S) hSp, hJx.putObj _ hJ1 (by omega) hK rfl⟩⟩
theorem handles_stops (m : Nat) (hm : 4 ≤ m) (Bn A : Nat) (L : Loc) (S : Ar.St) (f : Nat → Prop) (hs : Ar.Sane S) (hP : ∀ x ∈ Ar.tabl S S.pl.length, x.2 + 8 ≤ S.mem.length) (w : World) (hB : Blk w Bn [.pointer (some ⟨A, 0, none⟩)] 25) (hA : ArE A L S f w) :
    SeqStopsB Fence.wide m Tryd.prog 55 #[.pointer (some ⟨Bn, 0, none⟩)] encHP (KH A L S Bn) (fun ys => ys = Ar.told S) (fun pre => pre <+: Ar.told S) 1000000 w :=
  fun l J Jx W hW hJ hJx hY h0 => handles1_in m l Bn A L S f hm hs hP J Jx W hJ hJx hY (hB.kept (hW.block _ hB.lt)) (hA.below hW) h0
set_option maxHeartbeats 1000000 in
theorem handles_any (a : Option Addr) (w : World) :
    Calls Tryd.prog 42 #[.pointer a] w fun e w' => e = .returned (.func (.func 55) #[] #[.pointer (some ⟨w.heap.size, 0, none⟩)]) ∧ w' = w.alloc (.cells #[.pointer a] 25) := by
  go_enter Tryd.func42, Tryd.ntmps42
  go_wp2
  go_ret
  exact ⟨rfl, rfl⟩
end Go.Proofs.YtagjjpmhacknpaaDoor

/- What Handles tells of an arena, by its view. -/
set_option maxRecDepth 100000
namespace Go.Proofs.YtagjjpmhacknpaaDoor
open Go.RowKit Go.Shelf
theorem srt_ext : ∀ {X Y : List (Nat × Nat)}, X.Pairwise (fun x y => x.1 < y.1) → Y.Pairwise (fun x y => x.1 < y.1) → (∀ p, p ∈ X ↔ p ∈ Y) → X = Y
  | [], [], _, _, _ => rfl
  | [], y :: Y, _, _, h => absurd ((h y).2 (by simp)) (by simp)
  | x :: X, [], _, _, h => absurd ((h x).1 (by simp)) (by simp)
  | x :: X, y :: Y, h1, h2, h => by
    rw [List.pairwise_cons] at h1 h2
    have e : x = y := by
      rcases List.mem_cons.1 ((h x).1 (by simp)) with e | k1
      · exact e
      · rcases List.mem_cons.1 ((h y).2 (by simp)) with e | k2
        · exact e.symm
        · have := h2.1 x k1
          have := h1.1 y k2
          omega
    subst e
    rw [srt_ext h1.2 h2.2 fun p => ⟨fun hp => ?_, fun hp => ?_⟩]
    · rcases List.mem_cons.1 ((h p).1 (List.mem_cons_of_mem _ hp)) with e | k
      · subst e; have := h1.1 p hp; omega
      · exact k
    · rcases List.mem_cons.1 ((h p).2 (List.mem_cons_of_mem _ hp)) with e | k
      · subst e; have := h2.1 p hp; omega
      · exact k
theorem told_view {S : Ar.St} {pcs : List Ar.Pc} {L : List Bl} (I : Ar.Inv S pcs) (hv : Vw L (Ar.blocks pcs)) : Ar.told S = L.map (fun b => (b.1, b.2.length)) := by
  refine srt_ext (Ar.told_lt S (toHN S) (fun _ => rfl) S.pl.length) (by rw [List.pairwise_map]; exact hv.srt) fun p => ?_
  obtain ⟨h, n⟩ := p
  have h1 := I.told (h := h) (n := n)
  refine Iff.trans h1 ?_
  rw [List.mem_map]
  constructor
  · rintro ⟨q, hq, e1, e2⟩
    refine ⟨prB q, hv.perm.mem_iff.2 (List.mem_map.2 ⟨q, hq, rfl⟩), ?_⟩
    show (q.owner, (q.data.take q.size).length) = (h, n)
    rw [(blk_len (hv.ok q hq)).1, e1, e2]
  · rintro ⟨b, hb, e⟩
    obtain ⟨q, hq, rfl⟩ := List.mem_map.1 (hv.perm.mem_iff.1 hb)
    have e2 : (q.owner, (q.data.take q.size).length) = (h, n) := e
    rw [(blk_len (hv.ok q hq)).1] at e2
    cases e2
    exact ⟨q, hq, rfl, rfl⟩
end Go.Proofs.YtagjjpmhacknpaaDoor

/- Plain mathematics of names (no program in it): a name's labels, and that a name and its labels say the same. -/
namespace Go.Proofs.YtagjjpmhacknpaaDoor.Nm

/-- The labels of what is written (however long it is), with fuel. -/
def labsF : Nat → List UInt8 → Option (List (List UInt8))
  | 0, _ => none
  | _ + 1, [] => none
  | f + 1, c :: r =>
    if c = 0 then (if r.isEmpty then some [] else none)
    else if 63 < c.toNat ∨ r.length < c.toNat then none
    else (labsF f (r.drop c.toNat)).map (fun l => r.take c.toNat :: l)

def labsU (n : List UInt8) : Option (List (List UInt8)) := labsF n.length n
def labs (n : List UInt8) : Option (List (List UInt8)) := if 255 < n.length then none else labsU n

theorem labsF_fuel : ∀ (f g : Nat) (n : List UInt8), n.length ≤ f → n.length ≤ g → labsF f n = labsF g n
  | 0, 0, _, _, _ => rfl
  | 0, g + 1, n, h, _ => by
    obtain rfl : n = [] := List.length_eq_zero_iff.1 (by omega)
    rfl
  | f + 1, 0, n, _, h => by
    obtain rfl : n = [] := List.length_eq_zero_iff.1 (by omega)
    rfl
  | f + 1, g + 1, [], _, _ => rfl
  | f + 1, g + 1, c :: r, h, h' => by
    simp only [List.length_cons] at h h'
    simp only [labsF]
    rw [labsF_fuel f g (r.drop c.toNat) (by simp; omega) (by simp; omega)]

theorem labsU_nil : labsU [] = none := rfl
theorem labsU_cons (c : UInt8) (r : List UInt8) : labsU (c :: r) =
    if c = 0 then (if r.isEmpty then some [] else none)
    else if 63 < c.toNat ∨ r.length < c.toNat then none
    else (labsU (r.drop c.toNat)).map (fun l => r.take c.toNat :: l) := by
  show labsF (r.length + 1) (c :: r) = _
  simp only [labsF, labsU]
  rw [labsF_fuel r.length (r.drop c.toNat).length _ (by simp) (Nat.le_refl _)]

/-- The name of labels. -/
def made : List (List UInt8) → List UInt8
  | [] => [0]
  | l :: ls => UInt8.ofNat l.length :: (l ++ made ls)
def good (ls : List (List UInt8)) : Prop := ∀ l ∈ ls, 1 ≤ l.length ∧ l.length ≤ 63

theorem ofNat_toNat {k : Nat} (h : k ≤ 63) : (UInt8.ofNat k).toNat = k := by
  simp; omega
theorem ofNat_ne {k : Nat} (h0 : 1 ≤ k) (h : k ≤ 63) : UInt8.ofNat k ≠ 0 := by
  intro e
  have := congrArg UInt8.toNat e
  rw [ofNat_toNat h] at this
  simp at this
  omega

theorem labsU_made : ∀ {ls : List (List UInt8)}, good ls → labsU (made ls) = some ls
  | [], _ => rfl
  | l :: ls, h => by
    obtain ⟨h1, h2⟩ := h l (by simp)
    rw [made, labsU_cons, if_neg (ofNat_ne h1 h2), ofNat_toNat h2, if_neg (by simp; omega)]
    have g : good ls := fun x hx => h x (List.mem_cons_of_mem _ hx)
    simp [labsU_made g]

theorem labsF_some : ∀ (f : Nat) {n : List UInt8} {ls : List (List UInt8)}, labsF f n = some ls → n = made ls ∧ good ls
  | 0, _, _, h => by cases h
  | f + 1, [], _, h => by cases h
  | f + 1, c :: r, ls, h => by
    simp only [labsF] at h
    split at h
    · rename_i hc
      split at h
      · rename_i hr
        cases h
        have : r = [] := by simpa using hr
        exact ⟨by rw [hc, this]; rfl, fun l hl => by cases hl⟩
      · cases h
    · rename_i hc
      split at h
      · cases h
      · rename_i hb
        obtain ⟨ls', h', rfl⟩ := Option.map_eq_some_iff.1 h
        obtain ⟨e, g⟩ := labsF_some f h'
        have hlen : (r.take c.toNat).length = c.toNat := by simp; omega
        have hc0 : c.toNat ≠ 0 := fun e0 => hc (by rw [← UInt8.toNat_inj]; simpa using e0)
        refine ⟨?_, ?_⟩
        · rw [made, hlen, ← e, List.take_append_drop]; simp
        · intro l hl
          rcases List.mem_cons.1 hl with rfl | hl
          · rw [hlen]; omega
          · exact g l hl

theorem labsU_iff {n : List UInt8} {ls : List (List UInt8)} : labsU n = some ls ↔ n = made ls ∧ good ls :=
  ⟨labsF_some _, fun ⟨e, g⟩ => e ▸ labsU_made g⟩
theorem labs_iff {n : List UInt8} {ls : List (List UInt8)} : labs n = some ls ↔ n = made ls ∧ good ls ∧ n.length ≤ 255 := by
  unfold labs
  split
  · rename_i h
    constructor
    · intro h; cases h
    · rintro ⟨_, _, h'⟩; omega
  · rename_i h
    rw [labsU_iff]
    constructor
    · rintro ⟨a, b⟩; exact ⟨a, b, by omega⟩
    · rintro ⟨a, b, _⟩; exact ⟨a, b⟩

def valid (n : List UInt8) : Bool := (labs n).isSome
def validU (n : List UInt8) : Bool := (labsU n).isSome

theorem validU_nil : validU [] = false := rfl
theorem validU_cons (c : UInt8) (r : List UInt8) : validU (c :: r) =
    if c = 0 then r.isEmpty
    else if 63 < c.toNat ∨ r.length < c.toNat then false
    else validU (r.drop c.toNat) := by
  unfold validU
  rw [labsU_cons]
  split
  · split <;> simp_all
  · split <;> simp

/-- Where a walk over a name stands: what is left decides. -/
def ValidAt (n : List UInt8) (k : Nat) : Prop := (k ≤ n.length → validU (n.drop k) = validU n) ∧ (n.length < k → validU n = false)
theorem validAt_zero (n : List UInt8) : ValidAt n 0 := ⟨fun _ => rfl, fun h => by omega⟩
theorem drop_cons {n : List UInt8} {k : Nat} (h : k < n.length) : n.drop k = n[k] :: n.drop (k + 1) := List.drop_eq_getElem_cons h
theorem valid_of_short {n : List UInt8} (h : ¬ 255 < n.length) : valid n = validU n := by simp [valid, validU, labs, h]
theorem ValidAt.stop {n : List UInt8} {k : Nat} (h : ValidAt n k) (hk : n.length ≤ k) : validU n = false := by
  by_cases e : k = n.length
  · have := h.1 (by omega)
    rw [← this, e, List.drop_length]; rfl
  · exact h.2 (by omega)
theorem ValidAt.zero {n : List UInt8} {k : Nat} (h : ValidAt n k) (hk : k < n.length) (h0 : n[k] = 0) : validU n = decide (k + 1 = n.length) := by
  rw [← h.1 (by omega), drop_cons hk, validU_cons, if_pos h0, Bool.eq_iff_iff]
  simp
  omega
theorem ValidAt.big {n : List UInt8} {k : Nat} (h : ValidAt n k) (hk : k < n.length) (h0 : 63 < n[k].toNat) : validU n = false := by
  rw [← h.1 (by omega), drop_cons hk, validU_cons, if_neg, if_pos (Or.inl h0)]
  intro e; rw [e] at h0; simp at h0
theorem ValidAt.step {n : List UInt8} {k : Nat} (h : ValidAt n k) (hk : k < n.length) (h0 : n[k] ≠ 0) (hb : ¬ 63 < n[k].toNat) : ValidAt n (k + (1 + n[k].toNat)) := by
  have e := h.1 (by omega)
  rw [drop_cons hk, validU_cons, if_neg h0] at e
  constructor
  · intro hl
    rw [if_neg (by simp; omega), List.drop_drop] at e
    rw [← e]
    congr 2
    omega
  · intro hl
    rw [if_pos (by simp; omega)] at e
    exact e.symm

/-! Letters made small, and how two are compared. -/
def small (c : UInt8) : UInt8 := if 65 ≤ c.toNat ∧ c.toNat ≤ 90 then c + 32 else c
theorem small_yes {c : UInt8} (h1 : 65 ≤ c.toNat) (h2 : c.toNat ≤ 90) : ((small c).toNat : Int) = (c.toNat : Int) + 32 := by
  unfold small
  rw [if_pos ⟨h1, h2⟩, UInt8.toNat_add]
  simp
  omega
theorem small_no {c : UInt8} (h : ¬ (65 ≤ c.toNat ∧ c.toNat ≤ 90)) : small c = c := by
  unfold small
  rw [if_neg h]
def cmpI (x y : Int) : Int := if x < y then -1 else if y < x then 1 else 0
theorem cmpI_lt {x y : Int} (h : x < y) : cmpI x y = -1 := if_pos h
theorem cmpI_gt {x y : Int} (h : y < x) : cmpI x y = 1 := by unfold cmpI; rw [if_neg (by omega), if_pos h]
theorem cmpI_eq {x y : Int} (h1 : ¬ x < y) (h2 : ¬ y < x) : cmpI x y = 0 := by unfold cmpI; rw [if_neg h1, if_neg h2]
theorem cmpI_self (x : Int) : cmpI x x = 0 := cmpI_eq (by omega) (by omega)
theorem cmpI_bounds (x y : Int) : -1 ≤ cmpI x y ∧ cmpI x y ≤ 1 := by unfold cmpI; split <;> (try split) <;> omega
theorem cmpI_zero {x y : Int} : cmpI x y = 0 ↔ x = y := by unfold cmpI; split <;> (try split) <;> constructor <;> intro h <;> omega
def cmpN : List UInt8 → List UInt8 → Int
  | [], [] => 0
  | [], _ :: _ => -1
  | _ :: _, [] => 1
  | a :: x, b :: y => if cmpI (small a).toNat (small b).toNat = 0 then cmpN x y else cmpI (small a).toNat (small b).toNat
theorem cmpN_bounds : ∀ (a b : List UInt8), -1 ≤ cmpN a b ∧ cmpN a b ≤ 1
  | [], [] => by simp [cmpN]
  | [], _ :: _ => by simp [cmpN]
  | _ :: _, [] => by simp [cmpN]
  | a :: x, b :: y => by
    unfold cmpN
    split
    · exact cmpN_bounds x y
    · exact cmpI_bounds _ _
/-- Where a comparison of two stands: what is left decides. -/
theorem cmpN_step {a b : List UInt8} {k : Nat} (ha : k < a.length) (hb : k < b.length) (h : cmpN (a.drop k) (b.drop k) = cmpN a b) :
    (cmpI (small a[k]).toNat (small b[k]).toNat = 0 → cmpN (a.drop (k + 1)) (b.drop (k + 1)) = cmpN a b) ∧ (cmpI (small a[k]).toNat (small b[k]).toNat ≠ 0 → cmpN a b = cmpI (small a[k]).toNat (small b[k]).toNat) := by
  rw [drop_cons ha, drop_cons hb, cmpN] at h
  constructor
  · intro e; rw [if_pos e] at h; exact h
  · intro e; rw [if_neg e] at h; exact h.symm
theorem cmpN_end {a b : List UInt8} {k : Nat} (hk : k = min a.length b.length) (h : cmpN (a.drop k) (b.drop k) = cmpN a b) : cmpN a b = cmpI a.length b.length := by
  rw [← h]
  by_cases e : a.length ≤ b.length
  · have e1 : a.drop k = [] := List.drop_of_length_le (by omega)
    rw [e1]
    by_cases e' : a.length = b.length
    · rw [List.drop_of_length_le (by omega : b.length ≤ k), e', cmpI_self]; rfl
    · rw [drop_cons (by omega : k < b.length), cmpI_lt (by omega)]; rfl
  · rw [List.drop_of_length_le (by omega : b.length ≤ k), drop_cons (by omega : k < a.length), cmpI_gt (by omega)]; rfl
def folded (n : List UInt8) : List UInt8 := n.map small
theorem cmpN_zero : ∀ {a b : List UInt8}, cmpN a b = 0 ↔ folded a = folded b
  | [], [] => by simp [cmpN, folded]
  | [], _ :: _ => by simp [cmpN, folded]
  | _ :: _, [] => by simp [cmpN, folded]
  | a :: x, b :: y => by
    unfold cmpN
    split
    · rename_i h
      rw [cmpI_zero] at h
      rw [cmpN_zero]
      have : small a = small b := by rw [← UInt8.toNat_inj]; omega
      simp [folded, this]
    · rename_i h
      constructor
      · intro e; exact absurd e h
      · intro e
        simp only [folded, List.map_cons, List.cons.injEq] at e
        exact absurd (by rw [cmpI_zero, e.1]) h

def same (a b : List UInt8) : Bool := valid a && valid b && folded a == folded b
theorem folded_length (n : List UInt8) : (folded n).length = n.length := by simp [folded]
theorem same_len {a b : List UInt8} (h : a.length ≠ b.length) : same a b = false := by
  have : folded a ≠ folded b := fun e => h (by rw [← folded_length a, e, folded_length])
  simp [same, this]

end Go.Proofs.YtagjjpmhacknpaaDoor.Nm
