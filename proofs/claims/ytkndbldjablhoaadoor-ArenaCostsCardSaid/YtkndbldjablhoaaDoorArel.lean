/- release: a free piece of a block. -/
import Derived.Test.YtkndbldjablhoaaDoorAset
set_option maxRecDepth 100000
namespace Go.Proofs.YtkndbldjablhoaaDoor
open Go.RowKit Go.Shelf
namespace Ar
def release (S : St) (at_ : Nat) : St :=
  let p := headAt S.mem at_
  let q := tookFree S (at_ + p.takes)
  let S1 := takeFree S (at_ + p.takes)
  let size := if q.2 then p.takes + q.1.size else p.takes
  let r := tookFree S1 (at_ - p.ahead)
  let S2 := takeFree S1 (at_ - p.ahead)
  if r.2 then putFree S2 (at_ - p.ahead) (size + r.1.size) r.1.ahead else putFree S2 at_ size p.ahead
/-- What a piece that is taken must be. -/
def TakeOk (S : St) (a : Nat) : Prop := (a ≠ fin S → a + 8 ≤ S.mem.length) ∧ (a ≠ fin S → (headAt S.mem a).free = true → (headAt S.mem a).owner < S.nd.length ∧ (nodeAt S.nd (headAt S.mem a).owner).n < S.nd.length ∧ (nodeAt S.nd (headAt S.mem a).owner).l < S.nd.length) ∧ S.nd.length ≤ 200000
/-- What a piece that is put must be. -/
def PutOk (S : St) (a size ahead : Nat) : Prop := 16 ≤ size ∧ a + size ≤ S.mem.length ∧ (a + size) % 16 = 0 ∧ ahead ≤ 1048576 ∧ cls size < S.nd.length ∧ (nodeAt S.nd (cls size)).n < S.nd.length ∧ S.spare < S.nd.length ∧ S.nd.length < 200000
def relSize (tk : Nat) (q : Head) (bq : Bool) : Nat := match bq with | true => tk + q.size | false => tk
def relEnd (S2 : St) (a : Nat) (p : Head) (sz : Nat) (r : Head) (br : Bool) : St := match br with | true => putFree S2 (a - p.ahead) (sz + r.size) r.ahead | false => putFree S2 a sz p.ahead
def RelOk (S2 : St) (a : Nat) (p : Head) (sz : Nat) (r : Head) (br : Bool) : Prop := match br with | true => PutOk S2 (a - p.ahead) (sz + r.size) r.ahead | false => PutOk S2 a sz p.ahead
end Ar
theorem takeFree_at (A : Nat) (L : Loc) (S : Ar.St) (f : Nat → Prop) (z : Int) (a : Nat) (p : Ar.Head) (b : Bool) (S1 : Ar.St) (w : World) (hz : z = (a : Int)) (h : ArE A L S f w) (hm : S.mem.length ≤ 1048576) (ht : Ar.TakeOk S a) (h1 : Ar.tookFree S a = (p, b)) (h2 : Ar.takeFree S a = S1) :
    Calls Tryd.prog 58 #[.pointer (some ⟨A, 0, none⟩), .int .i64 z] w fun e w' => (e = .returned (.tuple #[.agg #[.bool p.free, .int .i64 (p.owner : Int), .int .i64 (p.size : Int), .int .i64 (p.ahead : Int)], .bool b])) ∧ Ars A L S1 f w w' := by
  have := takeFree_any A L S f z a w hz h hm ht.1 ht.2.1 ht.2.2
  rw [h1, h2] at this
  exact this
theorem takes_agg (p : Ar.Head) (n : Nat) (w : World) (hn : p.takes = n) : Calls Tryd.prog 39 #[.agg #[.bool p.free, .int .i64 (p.owner : Int), .int .i64 (p.size : Int), .int .i64 (p.ahead : Int)]] w fun e w' => e = .returned (.int .i64 (n : Int)) ∧ Below w.heap.size w w' := by
  subst hn
  exact takes_any p w
set_option maxHeartbeats 4000000 in
theorem release_any (A : Nat) (L : Loc) (S S1 S2 : Ar.St) (f : Nat → Prop) (a tk : Nat) (p q r : Ar.Head) (bq br : Bool) (w : World) (hA : ArE A L S f w) (hm : S.mem.length ≤ 1048576) (ha : a + 8 ≤ S.mem.length) (hp : Ar.headAt S.mem a = p) (htk : p.takes = tk)
    (htk2 : tk ≤ 1048576) (hah : p.ahead ≤ a)
    (hq : Ar.tookFree S (a + tk) = (q, bq)) (hS1 : Ar.takeFree S (a + tk) = S1) (ok1 : Ar.TakeOk S (a + tk))
    (hr : Ar.tookFree S1 (a - p.ahead) = (r, br)) (hS2 : Ar.takeFree S1 (a - p.ahead) = S2) (ok2 : Ar.TakeOk S1 (a - p.ahead))
    (hqs : q.size ≤ 1048576) (hrs : r.size ≤ 1048576)
    (ok3 : Ar.RelOk S2 a p (Ar.relSize tk q bq) r br) :
    Calls Tryd.prog 41 #[.pointer (some ⟨A, 0, none⟩), .int .i64 (a : Int)] w (ArRet A (Ar.relEnd S2 a p (Ar.relSize tk q bq) r br) f (.tuple #[]) w) := by
  have hm1 : S1.mem.length ≤ 1048576 := by rw [← hS1, Ar.takeFree_mem]; exact hm
  have hm2 : S2.mem.length ≤ 1048576 := by rw [← hS2, Ar.takeFree_mem]; exact hm1
  have HQ := Lib.hid hq
  have HR := Lib.hid hr
  have H1 := Lib.hid hS1
  have H2 := Lib.hid hS2
  have HP := Lib.hid hp
  have HT := Lib.hid htk
  clear hq hr hS1 hS2 hp htk
  go_enter Tryd.func41, Tryd.ntmps41
  go_wp2_with (go_at_call 38; (with_reducible refine (head_agg A L S _ _ a p _ rfl hA hm ha HP.out).mono ?_); rintro e w1 ⟨rfl, hb1⟩; refine Hid.out ?_)
  refine Lib.hid ?_
  have A1 := Lib.hid ((Ars.start hA).below hb1)
  have hz1 := hb1.size
  clear hb1
  have HB := Lib.hid ((Blk.new w1 [.bool p.free, .int .i64 (p.owner : Int), .int .i64 (p.size : Int), .int .i64 (p.ahead : Int)] 76).drw)
  have A2 := Lib.hid ((A1.out.below ((Below.refl _ _).alloc (Nat.le_refl _) (.cells #[.bool p.free, .int .i64 (p.owner : Int), .int .i64 (p.size : Int), .int .i64 (p.ahead : Int)] 76))).drw)
  go_wp2
  go_region_with (go_at_call 39; refine (takes_agg p tk _ HT.out).mono ?_; rintro e w2 ⟨rfl, hb2⟩; have hB2 := HB.out.kept (hb2.block _ HB.out.lt); have y3 := hB2.cell (i := 3) rfl; have A3 := Lib.hid (A2.out.below hb2); replace hb2 := Lib.hid hB2; clear hB2)
  all_goals
    clear HB A2 A1
    have hz2 : w.heap.size ≤ w2.heap.size := A3.out.trn.size
    go_wp2_with (go_at_call 58; (with_reducible refine (takeFree_at A L S _ ((a : Int) + (tk : Int)) (a + tk) q bq S1 _ (by omega) A3.out.ar.tight hm ok1 HQ.out H1.out).mono ?_); rintro e w3 ⟨rfl, hA3⟩; refine Hid.out ?_)
    refine Lib.hid ?_
    have A4 := Lib.hid (A3.out.callR hA3)
    have A5 := Lib.hid (A4.out.below (w2 := w3.alloc (.cells #[.bool q.free, .int .i64 (q.owner : Int), .int .i64 (q.size : Int), .int .i64 (q.ahead : Int)] 76)) ((Below.refl _ _).alloc (Nat.le_refl _) _))
    clear hA3 A4 A3 hb2 y3 hz1 hz2
    cases bq
    · go_wp2_with (go_at_call 58; (with_reducible refine (takeFree_at A L S1 _ ((a : Int) - (p.ahead : Int)) (a - p.ahead) r br S2 _ (by omega) A5.out.ar.tight hm1 ok2 HR.out H2.out).mono ?_); rintro e w4 ⟨rfl, hA4⟩; refine Hid.out ?_)
      refine Lib.hid ?_
      have A6 := Lib.hid (A5.out.callR hA4)
      have A7 := Lib.hid (A6.out.below (w2 := w4.alloc (.cells #[.bool r.free, .int .i64 (r.owner : Int), .int .i64 (r.size : Int), .int .i64 (r.ahead : Int)] 76)) ((Below.refl _ _).alloc (Nat.le_refl _) _))
      clear hA4 A6 A5
      cases br
      · obtain ⟨o1, o2, o3, o4, o5, o6, o7, o8⟩ : Ar.PutOk S2 a (tk) p.ahead := ok3
        have A8 := A7.out
        have A8 := Lib.hid A8
        clear A7
        go_wp2_with (go_at_call 31; (refine (putFree_at A L S2 _ (a : Int) (tk : Int) (p.ahead : Int) a (tk) p.ahead _ A8.out.ar.tight (by omega) (by omega) rfl hm2 o1 o2 o3 o4 o5 o6 o7 o8).mono ?_); rintro e w6 ⟨rfl, L6, hA6⟩)
        go_end0
        exact ⟨rfl, L6, A8.out.callR hA6⟩
      · obtain ⟨o1, o2, o3, o4, o5, o6, o7, o8⟩ : Ar.PutOk S2 (a - p.ahead) (tk + r.size) r.ahead := ok3
        go_wp2
        go_quiet (fail)
        generalize hW : World.drewN _ _ = W5
        have A8 := hW ▸ A7.out.drew _
        have A8 := Lib.hid A8
        clear A7
        go_wp2_with (go_at_call 31; (refine (putFree_at A L S2 _ ((a : Int) - (p.ahead : Int)) ((tk : Int) + (r.size : Int)) (r.ahead : Int) (a - p.ahead) (tk + r.size) r.ahead _ A8.out.ar.tight (by omega) (by omega) rfl hm2 o1 o2 o3 o4 o5 o6 o7 o8).mono ?_); rintro e w6 ⟨rfl, L6, hA6⟩)
        go_end0
        exact ⟨rfl, L6, A8.out.callR hA6⟩
    · go_wp2_with (go_at_call 58; (with_reducible refine (takeFree_at A L S1 _ ((a : Int) - (p.ahead : Int)) (a - p.ahead) r br S2 _ (by omega) A5.out.ar.tight hm1 ok2 HR.out H2.out).mono ?_); rintro e w4 ⟨rfl, hA4⟩; refine Hid.out ?_)
      refine Lib.hid ?_
      have A6 := Lib.hid (A5.out.callR hA4)
      have A7 := Lib.hid (A6.out.below (w2 := w4.alloc (.cells #[.bool r.free, .int .i64 (r.owner : Int), .int .i64 (r.size : Int), .int .i64 (r.ahead : Int)] 76)) ((Below.refl _ _).alloc (Nat.le_refl _) _))
      clear hA4 A6 A5
      cases br
      · obtain ⟨o1, o2, o3, o4, o5, o6, o7, o8⟩ : Ar.PutOk S2 a (tk + q.size) p.ahead := ok3
        have A8 := A7.out
        have A8 := Lib.hid A8
        clear A7
        go_wp2_with (go_at_call 31; (refine (putFree_at A L S2 _ (a : Int) ((tk : Int) + (q.size : Int)) (p.ahead : Int) a (tk + q.size) p.ahead _ A8.out.ar.tight (by omega) (by omega) rfl hm2 o1 o2 o3 o4 o5 o6 o7 o8).mono ?_); rintro e w6 ⟨rfl, L6, hA6⟩)
        go_end0
        exact ⟨rfl, L6, A8.out.callR hA6⟩
      · obtain ⟨o1, o2, o3, o4, o5, o6, o7, o8⟩ : Ar.PutOk S2 (a - p.ahead) (tk + q.size + r.size) r.ahead := ok3
        go_wp2
        go_quiet (fail)
        generalize hW : World.drewN _ _ = W5
        have A8 := hW ▸ A7.out.drew _
        have A8 := Lib.hid A8
        clear A7
        go_wp2_with (go_at_call 31; (refine (putFree_at A L S2 _ ((a : Int) - (p.ahead : Int)) (((tk : Int) + (q.size : Int)) + (r.size : Int)) (r.ahead : Int) (a - p.ahead) (tk + q.size + r.size) r.ahead _ A8.out.ar.tight (by omega) (by omega) rfl hm2 o1 o2 o3 o4 o5 o6 o7 o8).mono ?_); rintro e w6 ⟨rfl, L6, hA6⟩)
        go_end0
        exact ⟨rfl, L6, A8.out.callR hA6⟩
end Go.Proofs.YtkndbldjablhoaaDoor
