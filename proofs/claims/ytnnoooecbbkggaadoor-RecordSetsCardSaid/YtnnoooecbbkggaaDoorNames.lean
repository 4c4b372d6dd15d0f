/- Names: the iterator over names in data. -/
import Derived.RangeFuncNested
import Derived.RangeFuncBound
import Derived.RangeFuncCalls
import Derived.RangeFuncLeaves
import Derived.Shelf.Abstract
import Derived.Shelf.RegionOpen
import Derived.OwnWalkIn
import Derived.TacticsInMore
import Derived.LoopNIn
import Derived.LoopIn
import Derived.Test.YtnnoooecbbkggaaDoorTarget
import Derived.Test.YtnnoooecbbkggaaDoorSeqB
namespace Go.Proofs.YtnnoooecbbkggaaDoor
open Go.RowKit Go.Shelf
attribute [local go_sem] Oper.semAt_some

set_option maxHeartbeats 400000 in
theorem names_any (t : Int) (d : List UInt8) (w : World) :
    Calls Tryd.prog 39 #[.int .i64 t, .string ⟨d.toArray⟩] w fun e w' => e = .returned (.func (.func 61) #[] #[.pointer (some ⟨w.heap.size, 0, none⟩), .pointer (some ⟨w.heap.size + 1, 0, none⟩)]) ∧
      w' = (w.alloc (.cells #[.int .i64 t] 3)).alloc (.cells #[.string ⟨d.toArray⟩] 9) := by
  go_enter Tryd.func39, Tryd.ntmps39
  go_wp2
  go_ret
  exact ⟨rfl, rfl⟩

/-- What the iterators ask of a round: the box B holds what it held. -/
def KB (B : Nat) (W W' : World) : Prop := ∀ v, W.cell? ⟨B, 0, none⟩ = some v → W'.cell? ⟨B, 0, none⟩ = some v
theorem KB.refl (B : Nat) (W : World) : KB B W W := fun _ h => h
theorem KB.trans {B : Nat} {A W W' : World} (h : KB B A W) (k : KB B W W') : KB B A W' := fun v e => k v (h v e)
theorem KB.below {B : Nat} {W W' : World} (h : Below W.heap.size W W') : KB B W W' := fun _ e => (h.cell (p := ⟨B, 0, none⟩) (cell_lt e)).trans e
theorem KB.alloc (B : Nat) (W : World) (o : Obj) : KB B W (W.alloc o) := KB.below ((Below.refl _ W).alloc (Nat.le_refl _) o)
theorem KB.setCell {B b : Nat} (h : b ≠ B) (W : World) (v : Value) : KB B W (W.setCell ⟨b, 0, none⟩ v) := fun u e => by
  rw [World.cell?_of_block (w := W) (Below.heap_setCell W ⟨b, 0, none⟩ v B (fun e => h e.symm))]; exact e
theorem kb_t {B : Nat} {A W C : World} (h : KB B A W) (k : KB B W C) : KB B A C := h.trans k
theorem kb_b {B : Nat} {w : World} (W : World) (l : Nat) (o o' : Obj) (_ : w.heap.size ≤ l) (h : W.heap[l]? = some o) (hc : o.isCells = false) (_ : o.isWalk = false) : KB B W (W.putObj l o') := fun _ e =>
  cell_kept e (grownBy_putObj' W l o') (fun r hr => by cases hr; exact ⟨o, h, hc⟩)

namespace Rd
def layD (t : Int) : Nat × Nat × Nat := (lay t).getD (0, 0, 0)
theorem parts_run {t : Int} {d : List UInt8} (h : dataOk t d = true) : ∃ e, run d (layD t).2.1 (layD t).1 = some (partsD t d, e) := by
  obtain ⟨ps, hp⟩ : ∃ ps, parts t d = some ps := Option.isSome_iff_exists.1 h
  have hD : partsD t d = ps := by unfold partsD; rw [hp]; rfl
  cases hl : lay t with
  | none =>
    have := parts_other16 hl hp
    subst this
    exact ⟨0, by unfold layD; rw [hl, hD]; rfl⟩
  | some x =>
    obtain ⟨a, n, b⟩ := x
    obtain ⟨e, hr, _, _⟩ := parts_len hl hp
    exact ⟨e, by unfold layD; rw [hl, hD]; exact hr⟩
theorem layD_bounds (t : Int) : (layD t).1 ≤ 16 ∧ (layD t).2.1 ≤ 2 := by
  unfold layD
  cases h : lay t with
  | none => exact ⟨by decide, by decide⟩
  | some x =>
    obtain ⟨a, n, b⟩ := x
    have := lay_bounds h
    exact ⟨this.1, this.2.1⟩
theorem partsD_no {t : Int} {d : List UInt8} (h : dataOk t d = false) : partsD t d = [] := by
  unfold dataOk at h
  unfold partsD
  cases hp : parts t d with
  | none => rfl
  | some x => rw [hp] at h; cases h
end Rd
theorem layV_D (t : Int) : layV (Rd.lay t) = layL (Rd.layD t).1 (Rd.layD t).2.1 (Rd.layD t).2.2 := by
  unfold Rd.layD
  cases h : Rd.lay t with
  | none => rfl
  | some x => rfl

/-- The names that have come, and those that will. -/
def NamesAt (d : List UInt8) (n : Nat) (ps pre : List (Nat × Nat)) (e k : Nat) : Prop := ∃ rest e', Rd.run d (n - k) e = some (rest, e') ∧ ps = pre ++ rest
theorem namesAt_step {d : List UInt8} {n : Nat} {ps pre : List (Nat × Nat)} {e k : Nat} (h : NamesAt d n ps pre e k) (hk : k < n) : 1 ≤ Rd.nsz (d.drop e) ∧ pre ++ [(e, Rd.nsz (d.drop e))] <+: ps ∧ NamesAt d n ps (pre ++ [(e, Rd.nsz (d.drop e))]) (e + Rd.nsz (d.drop e)) (k + 1) := by
  obtain ⟨rest, e', hr, hp⟩ := h
  rw [show n - k = (n - (k + 1)) + 1 from by omega] at hr
  have h0 : Rd.nsz (d.drop e) ≠ 0 := fun h0 => by rw [Rd.run_zero h0] at hr; cases hr
  rw [Rd.run_succ rfl h0] at hr
  obtain ⟨y, hy, he⟩ := Option.map_eq_some_iff.1 hr
  simp only [Prod.mk.injEq] at he
  obtain ⟨rfl, rfl⟩ := he
  exact ⟨by omega, ⟨y.1, by rw [hp]; simp⟩, y.1, y.2, hy, by rw [hp]; simp⟩
theorem namesAt_done {d : List UInt8} {n : Nat} {ps pre : List (Nat × Nat)} {e k : Nat} (h : NamesAt d n ps pre e k) (hk : ¬ k < n) : pre = ps := by
  obtain ⟨rest, e', hr, hp⟩ := h
  rw [show n - k = 0 from by omega] at hr
  simp only [Rd.run, Option.some.injEq, Prod.mk.injEq] at hr
  rw [hp, ← hr.1, List.append_nil]

def encPV (x : Nat × Nat) : Array Value := #[.int .i64 (x.1 : Int), .int .i64 (x.2 : Int)]

set_option maxRecDepth 100000 in
set_option maxHeartbeats 4000000 in
theorem names1_in (m l Bt Bd : Nat) (hm : 1 ≤ m) (t : Int) (d : List UInt8) (hs : d.length ≤ 100000) (J Jx : List (Nat × Nat) → World → Prop) (W : World) (hJ : OwnBk W.heap.size J)
    (hY : ∀ pre x W1, J pre W1 → pre.length < 3 → pre ++ [x] <+: Rd.partsD t d → YieldAt Fence.wide (m - 1) Tryd.prog l #[.int .i64 (x.1 : Int), .int .i64 (x.2 : Int)] W1 fun e W' =>
      (e = .returned (.bool true) ∧ J (pre ++ [x]) W' ∧ KB Bd W1 W') ∨ (e = .returned (.bool false) ∧ Jx (pre ++ [x]) W'))
    (hBt : W.cell? ⟨Bt, 0, none⟩ = some (.int .i64 t)) (hBd : W.cell? ⟨Bd, 0, none⟩ = some (.string ⟨d.toArray⟩)) (h0 : J [] W) :
    CallsIn Fence.wide m Tryd.prog 61 #[.func (.yield l) #[] #[], .pointer (some ⟨Bt, 0, none⟩), .pointer (some ⟨Bd, 0, none⟩)] W fun e W' => (∃ v, e = .returned v) ∧
      ((∃ ys, ys = Rd.partsD t d ∧ J ys W') ∨ (∃ pre, pre <+: Rd.partsD t d ∧ Jx pre W')) := by
  have hJb : ∀ {pre : List (Nat × Nat)} {W1 W2 : World}, J pre W1 → Below W1.heap.size W1 W2 → J pre W2 := fun h hb => hJ _ _ _ none h ⟨hb.os, hb.tape, hb.output, hb.size, fun k hk _ => hb.block k hk⟩ (fun r e => by cases e)
  refine callsIn_of_wp Tryd.func61 rfl trivial ?_ rfl
  simp only [Tryd.ntmps61, List.size_toArray, List.length_cons, List.length_nil, Nat.reduceAdd, Nat.reduceSub, Array.replicate_succ, Array.replicate_zero, List.push_toArray, List.append_toArray, List.nil_append, List.cons_append]
  have hlt := cell_lt hBt
  have hld := cell_lt hBd
  simp only at hlt hld
  obtain ⟨y, hy⟩ : ∃ y, Rd.dataOk t d = y := ⟨_, rfl⟩
  have HD := Lib.hid hy
  cases y
  · have HP := Lib.hid (Rd.partsD_no hy)
    clear hy
    gi_wp2_with (refine ⟨trivial, ?_⟩; gi_at_call 12; refine (callsIn_wide.2 (data_any t d _ hs)).mono ?_; rw [HD.out]; rintro e w1 ⟨rfl, b1⟩)
    refine bodyPost_ret (results_none rfl _ _ _) rfl ?_
    exact ⟨⟨_, rfl⟩, .inl ⟨[], HP.out.symm, hJb h0 b1⟩⟩
  · obtain ⟨e0, he0⟩ := Rd.parts_run hy
    obtain ⟨ha, hn⟩ := Rd.layD_bounds t
    have hst : NamesAt d (Rd.layD t).2.1 (Rd.partsD t d) [] (Rd.layD t).1 0 := ⟨_, _, he0, rfl⟩
    have hLV := layV_D t
    obtain ⟨⟨a, n, b⟩, hab⟩ : ∃ x, Rd.layD t = x := ⟨_, rfl⟩
    rw [hab] at ha hn hst hLV
    simp only at ha hn hst hLV
    obtain ⟨ps, hps⟩ : ∃ ps, Rd.partsD t d = ps := ⟨_, rfl⟩
    rw [hps] at hst hY
    have HPS := Lib.hid hps
    have HLV := Lib.hid hLV
    have HS := Lib.hid hst
    clear hy he0 hLV hab hps hst
    gi_wp2_with (refine ⟨trivial, ?_⟩; gi_at_call 12; refine (callsIn_wide.2 (data_any t d _ hs)).mono ?_; rw [HD.out]; rintro e w1 ⟨rfl, b1⟩; have cBt : w1.cell? ⟨Bt, 0, none⟩ = some (.int .i64 t) := (b1.cell (p := ⟨Bt, 0, none⟩) hlt).trans hBt; refine Hid.out ?_)
    refine Lib.hid ?_
    have cBd : w1.cell? ⟨Bd, 0, none⟩ = some (.string ⟨d.toArray⟩) := (b1.cell (p := ⟨Bd, 0, none⟩) hld).trans hBd
    gi_wp2_with (refine ⟨trivial, ?_⟩; gi_at_call 41; refine (callsIn_wide.2 (layoutOf_any t _)).mono ?_; rintro e w2 ⟨rfl, b2⟩; rw [HLV.out]; simp only [layL]; refine Hid.out ?_)
    refine Lib.hid ?_
    have b12 := below_trans b1 b2
    have cBd2 : w2.cell? ⟨Bd, 0, none⟩ = some (.string ⟨d.toArray⟩) := (b12.cell (p := ⟨Bd, 0, none⟩) hld).trans hBd
    have hld2 : Bd < w2.heap.size := cell_lt cBd2
    have hJ2 : ∀ o, J [] (w2.alloc o) := fun o => hJb h0 (b12.alloc b12.size o)
    have cBd3 : ∀ o, (w2.alloc o).cell? ⟨Bd, 0, none⟩ = some (.string ⟨d.toArray⟩) := fun o => (((Below.refl _ w2).alloc (Nat.le_refl _) o).cell (p := ⟨Bd, 0, none⟩) hld2).trans cBd2
    have HJ2 := Lib.hid hJ2
    have HC3 := Lib.hid cBd3
    clear hJ2 cBd3
    gi_wp2
    gi_loopw [6, 21] (fun p q wr => ∃ (pre : List (Nat × Nat)) (e k : Nat), p = .int .i64 (e : Int) ∧ q = .int .i64 (k : Int) ∧ e ≤ 16 + 300 * k ∧ k ≤ n ∧ pre.length ≤ k ∧ Hid (NamesAt d n ps pre e k) ∧ J pre wr ∧ wr.cell? ⟨Bd, 0, none⟩ = some (.string ⟨d.toArray⟩)) (fun _ q _ => n + 1 - (intOf q).toNat)
    case atStart => exact ⟨[], a, 0, rfl, rfl, by omega, by omega, by simp, HS, HJ2.out _, HC3.out _⟩
    case round =>
      obtain ⟨pre, e, k, rfl, rfl, he, hk, hpk, hh, hJr, hBr⟩ := hrel
      by_cases hlt : k < n
      · obtain ⟨h1, h2, h3⟩ := namesAt_step hh.out hlt
        obtain ⟨z, hz⟩ : ∃ z, Rd.nsz (d.drop e) = z := ⟨_, rfl⟩
        have hz255 := (Rd.nsz_le (d.drop e)).2
        rw [hz] at h1 h2 h3 hz255
        obtain ⟨fn, tmps, assign, body, hyy, hR⟩ := hY pre (e, z) wr hJr (by omega) h2
        simp only at hyy
        have HZ := Lib.hid hz
        have H2 := Lib.hid h2
        have H3 := Lib.hid h3
        clear hz h2 h3 hh
        gi_wp2_with (refine ⟨trivial, ?_⟩; gi_at_call 62; refine (callsIn_wide.2 (nameSize_any d e _ hs (by omega))).mono ?_; rw [HZ.out]; rintro e1 w3 ⟨rfl, rfl⟩)
        refine hR.mono ?_
        rintro e1 W3 (⟨rfl, hJ3, hk3⟩ | ⟨rfl, hJx3⟩)
        · have hBr3 : W3.cell? ⟨Bd, 0, none⟩ = some (.string ⟨d.toArray⟩) := hk3 _ hBr
          gi_wp2
          go_roundw
          case rel => exact ⟨pre ++ [(e, z)], e + z, k + 1, by go_num, by go_num, by omega, by omega, by simp; omega, H3, hJ3, hBr3⟩
          case measure => simp [intOf]; omega
        · gi_wp2
          refine bodyPost_ret (results_none rfl _ _ _) rfl ?_
          exact ⟨⟨_, rfl⟩, .inr ⟨pre ++ [(e, z)], by rw [HPS.out]; exact H2.out, hJx3⟩⟩
      · have HE := Lib.hid (namesAt_done hh.out hlt)
        clear hh
        gi_wp2
        go_end0
        exact ⟨⟨_, rfl⟩, .inl ⟨pre, by rw [HPS.out]; exact HE.out, hJr⟩⟩
end Go.Proofs.YtnnoooecbbkggaaDoor
