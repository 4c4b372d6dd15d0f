/- The table's own iterator: the handles that are used, and their places. -/
import Derived.RangeFuncNested
import Derived.RangeFuncBound
import Derived.RangeFuncCalls
import Derived.RangeFuncLeaves
import Derived.Shelf.Abstract
import Derived.Shelf.RegionOpen
import Derived.OwnWalkIn
import Derived.TacticsInMore
import Derived.LoopNIn
import Derived.LoopIn
import Derived.Test.YtkndbldjablhoaaDoorAfree
import Derived.Test.YtkndbldjablhoaaDoorAblk
import Derived.Test.YtkndbldjablhoaaDoorSeqB
set_option maxRecDepth 100000
namespace Go.Proofs.YtkndbldjablhoaaDoor
open Go.RowKit Go.Shelf
attribute [local go_sem] Oper.semAt_some
namespace Ar
/-- The handles up to n that are used, and their places. -/
def tabl (S : St) (n : Nat) : List (Nat × Nat) := (List.range n).filterMap fun i => (PlaceOf S ((i + 1 : Nat) : Int)).map fun v => (i + 1, v)
theorem tabl_some {S : St} {n v : Nat} (h : PlaceOf S ((n + 1 : Nat) : Int) = some v) : tabl S (n + 1) = tabl S n ++ [(n + 1, v)] := by
  unfold tabl
  have h : PlaceOf S ((n : Int) + 1) = _ := h
  rw [List.range_succ, List.filterMap_append]
  simp [List.filterMap_cons, h]
theorem tabl_none {S : St} {n : Nat} (h : PlaceOf S ((n + 1 : Nat) : Int) = none) : tabl S (n + 1) = tabl S n := by
  unfold tabl
  have h : PlaceOf S ((n : Int) + 1) = _ := h
  rw [List.range_succ, List.filterMap_append]
  simp [List.filterMap_cons, h]
theorem tabl_pre (S : St) {n m : Nat} (h : n ≤ m) : tabl S n <+: tabl S m := by
  induction m with
  | zero => obtain rfl : n = 0 := by omega
            exact List.prefix_refl _
  | succ m ih =>
    by_cases e : n = m + 1
    · rw [e]
      exact List.prefix_refl _
    · refine (ih (by omega)).trans ?_
      cases hp : PlaceOf S ((m + 1 : Nat) : Int) with
      | none => rw [tabl_none hp]; exact List.prefix_refl _
      | some v => rw [tabl_some hp]; exact List.prefix_append _ _
theorem tabl_len (S : St) (n : Nat) : (tabl S n).length ≤ n := by
  unfold tabl
  exact Nat.le_trans (List.length_filterMap_le _ _) (by simp)
end Ar
theorem Blk.putD {W : World} {B D : Nat} {l : List Value} {t : TypeId} (h : Blk W B l t) {o : Obj} (hD : W.heap[D]? = some o) (ho : o.isCells = false) (o' : Obj) : Blk (W.putObj D o') B l t := by
  have hne : B ≠ D := fun e => by
    subst e
    rw [show W.heap[B]? = _ from h] at hD
    cases hD
    cases ho
  exact (World.putObj_heap_other hne).trans h
theorem ArE.putD {A : Nat} {L : Loc} {S : Ar.St} {f : Nat → Prop} {W : World} {D : Nat} (h : ArE A L S f W) {o : Obj} (hD : W.heap[D]? = some o) (ho : o.isCells = false) (o' : Obj) : ArE A L S f (W.putObj D o') :=
  ⟨h.box.putD hD ho o', h.mem.putD hD ho o', h.pl.putD hD ho o', h.us.putD hD ho o', h.nd.putD hD ho o', h.cap, h.cm, h.fA, h.fM, h.fP, h.fU, h.fN, fun k e => by have := h.fb k e; simpa [World.putObj] using this⟩
/-- What the iterators ask of a round: blocks from B on hold what they held, and the arena is as it was. -/
def KH (A : Nat) (L : Loc) (S : Ar.St) (B : Nat) (W W' : World) : Prop := (∀ k l t, B ≤ k → Blk W k l t → Blk W' k l t) ∧ ∀ f, ArE A L S f W → ArE A L S f W'
theorem kh_t {A : Nat} {L : Loc} {S : Ar.St} {B : Nat} {X Y Z : World} (h : KH A L S B X Y) (k : KH A L S B Y Z) : KH A L S B X Z := ⟨fun i l t hi b => k.1 i l t hi (h.1 i l t hi b), fun f a => k.2 f (h.2 f a)⟩
theorem kh_b {A : Nat} {L : Loc} {S : Ar.St} {B : Nat} {w : World} (W : World) (l : Nat) (o o' : Obj) (_ : w.heap.size ≤ l) (h : W.heap[l]? = some o) (hc : o.isCells = false) (_ : o.isWalk = false) : KH A L S B W (W.putObj l o') := ⟨fun _ _ _ _ b => b.putD h hc o', fun _ a => a.putD h hc o'⟩
theorem KH.below {A : Nat} {L : Loc} {S : Ar.St} {B : Nat} {W W' : World} (h : Below W.heap.size W W') : KH A L S B W W' := ⟨fun _ _ _ _ b => b.kept (h.block _ b.lt), fun _ a => a.below h⟩
theorem one_of {e : Ending} {A B : Prop} (h : (e = .returned (.bool true) ∧ A) ∨ (e = .returned (.bool false) ∧ B)) : ∃ b : Bool, e = .returned (.bool b) ∧ Hid ((b = true ∧ A) ∨ (b = false ∧ B)) :=
  h.elim (fun ⟨e, a⟩ => ⟨true, e, .inl ⟨rfl, a⟩⟩) (fun ⟨e, b⟩ => ⟨false, e, .inr ⟨rfl, b⟩⟩)
theorem roundIn_any {P : Program} {l1 k k' l f : Nat} {tmps : Array Value} {asg body : Code} {W : World} {R : Ending → World → Prop} (h : RoundIn Fence.wide k P l f tmps asg body W R) : RoundIn (Fence.wide.inRound l1) k' P l f tmps asg body W R :=
  ⟨h.1, fun c cs _ => h.2 c cs (room_wide _)⟩
def encHP (x : Nat × Nat) : Array Value := #[.int .i64 (x.1 : Int), .int .i64 (x.2 : Int)]
set_option maxHeartbeats 4000000 in
theorem all1_in (m l Bn A : Nat) (L : Loc) (S : Ar.St) (f : Nat → Prop) (hm : 1 ≤ m) (hs : Ar.Sane S) (J Jx : List (Nat × Nat) → World → Prop) (W : World) (hJ : OwnBk W.heap.size J)
    (hY : ∀ pre x W1, J pre W1 → pre.length < 1000000 → pre ++ [x] <+: Ar.tabl S S.pl.length → YieldAt Fence.wide (m - 1) Tryd.prog l (encHP x) W1 fun e W' =>
      (e = .returned (.bool true) ∧ J (pre ++ [x]) W' ∧ KH A L S Bn W1 W') ∨ (e = .returned (.bool false) ∧ Jx (pre ++ [x]) W'))
    (hB : Blk W Bn [.pointer (some ⟨A, 2, none⟩)] 86) (hA : ArE A L S f W) (h0 : J [] W) :
    CallsIn Fence.wide m Tryd.prog 67 #[.func (.yield l) #[] #[], .pointer (some ⟨Bn, 0, none⟩)] W fun e W' => (∃ v, e = .returned v) ∧
      ((∃ ys, ys = Ar.tabl S S.pl.length ∧ J ys W') ∨ (∃ pre, pre <+: Ar.tabl S S.pl.length ∧ Jx pre W')) := by
  have hJb : Hid (∀ (pre : List (Nat × Nat)) (W1 : World) (k : Nat), J pre W1 → J pre (W1.drewN k)) := Lib.hid (fun pre W1 k h => hJ _ _ _ none h (by
    have hb : Below W1.heap.size W1 (W1.drewN k) := ⟨rfl, rfl, rfl, Nat.le_refl _, fun _ _ => rfl⟩
    exact ⟨hb.os, hb.tape, hb.output, hb.size, fun k hk _ => hb.block k hk⟩) (fun r e => by cases e))
  have HY := Lib.hid hY
  have HA := Lib.hid hA
  have hpl := hs.pl
  have k0 := hB.cell (i := 0) rfl
  have k2 := hA.cells.2.2.1
  have HB := Lib.hid hB
  clear hY hA hB
  refine callsIn_of_wp Tryd.func67 rfl trivial ?_ rfl
  simp only [Tryd.ntmps67, List.size_toArray, List.length_cons, List.length_nil, Nat.reduceAdd, Nat.reduceSub, Array.replicate_succ, Array.replicate_zero, List.push_toArray, List.append_toArray, List.nil_append, List.cons_append]
  gi_wp2_with fail
  gi_loopw [11] (fun p wr => ∃ i : Nat, p = .int .i64 (i : Int) ∧ i ≤ S.pl.length ∧ Hid (J (Ar.tabl S i) wr) ∧ Hid (ArE A L S f wr) ∧ Hid (Blk wr Bn [.pointer (some ⟨A, 2, none⟩)] 86)) (fun p _ => S.pl.length + 1 - (intOf p).toNat)
  case atStart => exact ⟨0, rfl, Nat.zero_le _, Lib.hid h0, HA, HB⟩
  case round =>
    clear HA HB h0 k0 k2
    obtain ⟨i, rfl, hi, HJ, HA, HB⟩ := hrel
    by_cases hlt : i < S.pl.length
    · have k0 := HB.out.cell (i := 0) rfl
      have hpc := fun w' (hw : ArE A L S f w') => place_any A L S f ((i : Int) + 1) w' hw hs.pl hs.plus hs.us hs.place
      cases hq : Ar.PlaceOf S ((i : Int) + 1) with
      | none =>
        rw [hq] at hpc
        have HPL := Lib.hid hpc
        have HQ := Lib.hid (Ar.tabl_none (S := S) (n := i) hq)
        clear hpc hq
        gi_wp2_with (refine ⟨trivial, ?_⟩; gi_at_call 60; (refine (callsIn_wide.2 (HPL.out _ HA.out)).mono ?_); rintro e w' ⟨rfl, n, rfl⟩; unfold optV encI)
        refine ⟨(fun _ e => by cases e), ?_⟩
        gi_wp2_with fail
        go_roundw
        case rel => exact ⟨i + 1, by go_num, by omega, by rw [HQ.out]; exact Lib.hid (hJb.out _ _ _ HJ.out), Lib.hid (HA.out.drew _), Lib.hid (HB.out.drew _)⟩
        case measure => simp [intOf]; omega
      | some v =>
        rw [hq] at hpc
        have HPL := Lib.hid hpc
        have HQ := Lib.hid (Ar.tabl_some (S := S) (n := i) hq)
        have hyi := fun k => HY.out (Ar.tabl S i) (i + 1, v) (wr.drewN k) (hJb.out _ _ k HJ.out) (by have := Ar.tabl_len S i; omega) (by rw [← HQ.out]; exact Ar.tabl_pre S (by omega))
        have HYI := Lib.hid hyi
        clear hpc hq hyi
        gi_wp2_with (first
          | (refine ⟨trivial, ?_⟩; gi_at_call 60; (refine (callsIn_wide.2 (HPL.out _ HA.out)).mono ?_); rintro e w' ⟨rfl, n, rfl⟩; obtain ⟨fn, tmps, assign, body, hy, hR⟩ := HYI.out n; unfold optV encI; simp only [encHP, Int.natCast_add, Int.cast_ofNat_Int] at hy)
          | (refine hR.mono ?_; intro e W3 hor; obtain ⟨bb, rfl, hbb3⟩ := one_of hor))
        all_goals
          have hfin := hbb3.out
          clear hbb3 hor
        · rename_i hbt
          obtain rfl : bb = false := by cases bb <;> simp_all
          obtain ⟨_, hJx3⟩ := hfin.resolve_left (fun h => by cases h.1)
          refine bodyPost_ret (results_none rfl _ _ _) rfl ?_
          exact ⟨⟨_, rfl⟩, .inr ⟨_, by rw [← HQ.out]; exact Ar.tabl_pre S (by omega), hJx3⟩⟩
        · rename_i hbt
          obtain rfl : bb = true := by cases bb <;> simp_all
          obtain ⟨_, hJ3, hk3⟩ := hfin.resolve_right (fun h => by cases h.1)
          have HJ3 := Lib.hid hJ3
          go_roundw
          case rel => exact ⟨i + 1, by go_num, by omega, by rw [HQ.out]; exact HJ3, Lib.hid (hk3.2 _ (HA.out.drew _)), Lib.hid (hk3.1 _ _ _ (Nat.le_refl _) (HB.out.drew _))⟩
          case measure => simp [intOf]; omega
    · obtain rfl : i = S.pl.length := by omega
      have HJ4 := HJ.out
      gi_wp2_with fail
      go_end0
      exact ⟨⟨_, rfl⟩, .inl ⟨_, rfl, HJ4⟩⟩
theorem all_stops (m : Nat) (hm : 1 ≤ m) (Bn A : Nat) (L : Loc) (S : Ar.St) (f : Nat → Prop) (hs : Ar.Sane S) (w : World) (hB : Blk w Bn [.pointer (some ⟨A, 2, none⟩)] 86) (hA : ArE A L S f w) :
    SeqStopsB Fence.wide m Tryd.prog 67 #[.pointer (some ⟨Bn, 0, none⟩)] encHP (KH A L S Bn) (fun ys => ys = Ar.tabl S S.pl.length) (fun pre => pre <+: Ar.tabl S S.pl.length) 1000000 w :=
  fun l J Jx W hW hJ _ hY h0 => all1_in m l Bn A L S f hm hs J Jx W hJ (fun pre x W1 h1 hl hp => by
    obtain ⟨fn, tmps, assign, body, hy, hR⟩ := hY pre x W1 h1 hl hp
    exact ⟨fn, tmps, assign, body, hy, hR.mono fun e W' h => h.imp (fun h => ⟨h.1, h.2.1, h.2.2.1⟩) (fun h => ⟨h.1, h.2.1⟩)⟩) (hB.kept (hW.block _ hB.lt)) (hA.below hW) h0
set_option maxHeartbeats 1000000 in
theorem all_any (A : Nat) (w : World) :
    Calls Tryd.prog 62 #[.pointer (some ⟨A, 2, none⟩)] w fun e w' => e = .returned (.func (.func 67) #[] #[.pointer (some ⟨w.heap.size, 0, none⟩)]) ∧ w' = w.alloc (.cells #[.pointer (some ⟨A, 2, none⟩)] 86) := by
  go_enter Tryd.func62, Tryd.ntmps62
  go_wp2
  go_ret
  exact ⟨rfl, rfl⟩
end Go.Proofs.YtkndbldjablhoaaDoor
