/- 3 texts put together: Names, Parts, Slots. -/
import Derived.RangeFuncNested
import Derived.RangeFuncBound
import Derived.RangeFuncCalls
import Derived.RangeFuncLeaves
import Derived.Shelf.Abstract
import Derived.Shelf.RegionOpen
import Derived.OwnWalkIn
import Derived.TacticsInMore
import Derived.LoopNIn
import Derived.LoopIn
import Derived.Orders
import Derived.WalkKit
import Derived.Test.YtdodamkndigjkaaJB3
import Derived.Test.YtdodamkndigjkaaJB5
import Derived.Test.YtdodamkndigjkaaJB6
import Derived.Test.YtdodamkndigjkaaJB8
/- Names: the iterator over names in data. -/
namespace Go.Proofs.Ytdodamkndigjkaa
open Go.RowKit Go.Shelf
attribute [local go_sem] Oper.semAt_some

set_option maxHeartbeats 400000 in
theorem names_any (t : Int) (d : List UInt8) (w : World) :
    Calls Try.prog 98 #[.int .i64 t, .string ⟨d.toArray⟩] w fun e w' => e = .returned (.func (.func 113) #[] #[.pointer (some ⟨w.heap.size, 0, none⟩), .pointer (some ⟨w.heap.size + 1, 0, none⟩)]) ∧
      w' = (w.alloc (.cells #[.int .i64 t] 3)).alloc (.cells #[.string ⟨d.toArray⟩] 9) := by
  go_enter Try.func98, Try.ntmps98
  go_wp2
  go_ret
  exact ⟨rfl, rfl⟩

namespace Rd
def layD (t : Int) : Nat × Nat × Nat := (lay t).getD (0, 0, 0)
theorem parts_run {t : Int} {d : List UInt8} (h : dataOk t d = true) : ∃ e, run d (layD t).2.1 (layD t).1 = some (partsD t d, e) := by
  obtain ⟨ps, hp⟩ : ∃ ps, parts t d = some ps := Option.isSome_iff_exists.1 h
  have hD : partsD t d = ps := by unfold partsD; rw [hp]; rfl
  cases hl : lay t with
  | none =>
    have := parts_other16 hl hp
    subst this
    exact ⟨0, by unfold layD; rw [hl, hD]; rfl⟩
  | some x =>
    obtain ⟨a, n, b⟩ := x
    obtain ⟨e, hr, _, _⟩ := parts_len hl hp
    exact ⟨e, by unfold layD; rw [hl, hD]; exact hr⟩
theorem layD_bounds (t : Int) : (layD t).1 ≤ 16 ∧ (layD t).2.1 ≤ 2 := by
  unfold layD
  cases h : lay t with
  | none => exact ⟨by decide, by decide⟩
  | some x =>
    obtain ⟨a, n, b⟩ := x
    have := lay_bounds h
    exact ⟨this.1, this.2.1⟩
theorem partsD_no {t : Int} {d : List UInt8} (h : dataOk t d = false) : partsD t d = [] := by
  unfold dataOk at h
  unfold partsD
  cases hp : parts t d with
  | none => rfl
  | some x => rw [hp] at h; cases h
end Rd
theorem layV_D (t : Int) : layV (Rd.lay t) = layL (Rd.layD t).1 (Rd.layD t).2.1 (Rd.layD t).2.2 := by
  unfold Rd.layD
  cases h : Rd.lay t with
  | none => rfl
  | some x => rfl

/-- The names that have come, and those that will. -/
def NamesAt (d : List UInt8) (n : Nat) (ps pre : List (Nat × Nat)) (e k : Nat) : Prop := ∃ rest e', Rd.run d (n - k) e = some (rest, e') ∧ ps = pre ++ rest
theorem namesAt_step {d : List UInt8} {n : Nat} {ps pre : List (Nat × Nat)} {e k : Nat} (h : NamesAt d n ps pre e k) (hk : k < n) : 1 ≤ Rd.nsz (d.drop e) ∧ pre ++ [(e, Rd.nsz (d.drop e))] <+: ps ∧ NamesAt d n ps (pre ++ [(e, Rd.nsz (d.drop e))]) (e + Rd.nsz (d.drop e)) (k + 1) := by
  obtain ⟨rest, e', hr, hp⟩ := h
  rw [show n - k = (n - (k + 1)) + 1 from by omega] at hr
  have h0 : Rd.nsz (d.drop e) ≠ 0 := fun h0 => by rw [Rd.run_zero h0] at hr; cases hr
  rw [Rd.run_succ rfl h0] at hr
  obtain ⟨y, hy, he⟩ := Option.map_eq_some_iff.1 hr
  simp only [Prod.mk.injEq] at he
  obtain ⟨rfl, rfl⟩ := he
  exact ⟨by omega, ⟨y.1, by rw [hp]; simp⟩, y.1, y.2, hy, by rw [hp]; simp⟩
theorem namesAt_done {d : List UInt8} {n : Nat} {ps pre : List (Nat × Nat)} {e k : Nat} (h : NamesAt d n ps pre e k) (hk : ¬ k < n) : pre = ps := by
  obtain ⟨rest, e', hr, hp⟩ := h
  rw [show n - k = 0 from by omega] at hr
  simp only [Rd.run, Option.some.injEq, Prod.mk.injEq] at hr
  rw [hp, ← hr.1, List.append_nil]

def encPV (x : Nat × Nat) : Array Value := #[.int .i64 (x.1 : Int), .int .i64 (x.2 : Int)]

set_option maxRecDepth 100000 in
set_option maxHeartbeats 4000000 in
theorem names1_in (m l Bt Bd : Nat) (hm : 1 ≤ m) (t : Int) (d : List UInt8) (hs : d.length ≤ 100000) (J Jx : List (Nat × Nat) → World → Prop) (W : World) (hJ : OwnBk W.heap.size J)
    (hY : ∀ pre x W1, J pre W1 → pre.length < 3 → pre ++ [x] <+: Rd.partsD t d → YieldAt Fence.wide (m - 1) Try.prog l #[.int .i64 (x.1 : Int), .int .i64 (x.2 : Int)] W1 fun e W' =>
      (e = .returned (.bool true) ∧ J (pre ++ [x]) W' ∧ KB Bd W1 W') ∨ (e = .returned (.bool false) ∧ Jx (pre ++ [x]) W'))
    (hBt : W.cell? ⟨Bt, 0, none⟩ = some (.int .i64 t)) (hBd : W.cell? ⟨Bd, 0, none⟩ = some (.string ⟨d.toArray⟩)) (h0 : J [] W) :
    CallsIn Fence.wide m Try.prog 113 #[.func (.yield l) #[] #[], .pointer (some ⟨Bt, 0, none⟩), .pointer (some ⟨Bd, 0, none⟩)] W fun e W' => (∃ v, e = .returned v) ∧
      ((∃ ys, ys = Rd.partsD t d ∧ J ys W') ∨ (∃ pre, pre <+: Rd.partsD t d ∧ Jx pre W')) := by
  have hJb : ∀ {pre : List (Nat × Nat)} {W1 W2 : World}, J pre W1 → Below W1.heap.size W1 W2 → J pre W2 := fun h hb => hJ _ _ _ none h ⟨hb.os, hb.tape, hb.output, hb.size, fun k hk _ => hb.block k hk⟩ (fun r e => by cases e)
  refine callsIn_of_wp Try.func113 rfl trivial ?_ rfl
  simp only [Try.ntmps113, List.size_toArray, List.length_cons, List.length_nil, Nat.reduceAdd, Nat.reduceSub, Array.replicate_succ, Array.replicate_zero, List.push_toArray, List.append_toArray, List.nil_append, List.cons_append]
  have hlt := cell_lt hBt
  have hld := cell_lt hBd
  simp only at hlt hld
  obtain ⟨y, hy⟩ : ∃ y, Rd.dataOk t d = y := ⟨_, rfl⟩
  have HD := Lib.hid hy
  cases y
  · have HP := Lib.hid (Rd.partsD_no hy)
    clear hy
    gi_wp2_with (refine ⟨trivial, ?_⟩; gi_at_call 83; refine (callsIn_wide.2 (data_any t d _ hs)).mono ?_; rw [HD.out]; rintro e w1 ⟨rfl, b1⟩)
    refine bodyPost_ret (results_none rfl _ _ _) rfl ?_
    exact ⟨⟨_, rfl⟩, .inl ⟨[], HP.out.symm, hJb h0 b1⟩⟩
  · obtain ⟨e0, he0⟩ := Rd.parts_run hy
    obtain ⟨ha, hn⟩ := Rd.layD_bounds t
    have hst : NamesAt d (Rd.layD t).2.1 (Rd.partsD t d) [] (Rd.layD t).1 0 := ⟨_, _, he0, rfl⟩
    have hLV := layV_D t
    obtain ⟨⟨a, n, b⟩, hab⟩ : ∃ x, Rd.layD t = x := ⟨_, rfl⟩
    rw [hab] at ha hn hst hLV
    simp only at ha hn hst hLV
    obtain ⟨ps, hps⟩ : ∃ ps, Rd.partsD t d = ps := ⟨_, rfl⟩
    rw [hps] at hst hY
    have HPS := Lib.hid hps
    have HLV := Lib.hid hLV
    have HS := Lib.hid hst
    clear hy he0 hLV hab hps hst
    gi_wp2_with (refine ⟨trivial, ?_⟩; gi_at_call 83; refine (callsIn_wide.2 (data_any t d _ hs)).mono ?_; rw [HD.out]; rintro e w1 ⟨rfl, b1⟩; have cBt : w1.cell? ⟨Bt, 0, none⟩ = some (.int .i64 t) := (b1.cell (p := ⟨Bt, 0, none⟩) hlt).trans hBt; refine Hid.out ?_)
    refine Lib.hid ?_
    have cBd : w1.cell? ⟨Bd, 0, none⟩ = some (.string ⟨d.toArray⟩) := (b1.cell (p := ⟨Bd, 0, none⟩) hld).trans hBd
    gi_wp2_with (refine ⟨trivial, ?_⟩; gi_at_call 100; refine (callsIn_wide.2 (layoutOf_any t _)).mono ?_; rintro e w2 ⟨rfl, b2⟩; rw [HLV.out]; simp only [layL]; refine Hid.out ?_)
    refine Lib.hid ?_
    have b12 := below_trans b1 b2
    have cBd2 : w2.cell? ⟨Bd, 0, none⟩ = some (.string ⟨d.toArray⟩) := (b12.cell (p := ⟨Bd, 0, none⟩) hld).trans hBd
    have hld2 : Bd < w2.heap.size := cell_lt cBd2
    have hJ2 : ∀ o, J [] (w2.alloc o) := fun o => hJb h0 (b12.alloc b12.size o)
    have cBd3 : ∀ o, (w2.alloc o).cell? ⟨Bd, 0, none⟩ = some (.string ⟨d.toArray⟩) := fun o => (((Below.refl _ w2).alloc (Nat.le_refl _) o).cell (p := ⟨Bd, 0, none⟩) hld2).trans cBd2
    have HJ2 := Lib.hid hJ2
    have HC3 := Lib.hid cBd3
    clear hJ2 cBd3
    gi_wp2
    gi_loopw [6, 21] (fun p q wr => ∃ (pre : List (Nat × Nat)) (e k : Nat), p = .int .i64 (e : Int) ∧ q = .int .i64 (k : Int) ∧ e ≤ 16 + 300 * k ∧ k ≤ n ∧ pre.length ≤ k ∧ Hid (NamesAt d n ps pre e k) ∧ J pre wr ∧ wr.cell? ⟨Bd, 0, none⟩ = some (.string ⟨d.toArray⟩)) (fun _ q _ => n + 1 - (intOf q).toNat)
    case atStart => exact ⟨[], a, 0, rfl, rfl, by omega, by omega, by simp, HS, HJ2.out _, HC3.out _⟩
    case round =>
      obtain ⟨pre, e, k, rfl, rfl, he, hk, hpk, hh, hJr, hBr⟩ := hrel
      by_cases hlt : k < n
      · obtain ⟨h1, h2, h3⟩ := namesAt_step hh.out hlt
        obtain ⟨z, hz⟩ : ∃ z, Rd.nsz (d.drop e) = z := ⟨_, rfl⟩
        have hz255 := (Rd.nsz_le (d.drop e)).2
        rw [hz] at h1 h2 h3 hz255
        obtain ⟨fn, tmps, assign, body, hyy, hR⟩ := hY pre (e, z) wr hJr (by omega) h2
        simp only at hyy
        have HZ := Lib.hid hz
        have H2 := Lib.hid h2
        have H3 := Lib.hid h3
        clear hz h2 h3 hh
        gi_wp2_with (refine ⟨trivial, ?_⟩; gi_at_call 114; refine (callsIn_wide.2 (nameSize_any d e _ hs (by omega))).mono ?_; rw [HZ.out]; rintro e1 w3 ⟨rfl, rfl⟩)
        refine hR.mono ?_
        rintro e1 W3 (⟨rfl, hJ3, hk3⟩ | ⟨rfl, hJx3⟩)
        · have hBr3 : W3.cell? ⟨Bd, 0, none⟩ = some (.string ⟨d.toArray⟩) := hk3 _ hBr
          gi_wp2
          go_roundw
          case rel => exact ⟨pre ++ [(e, z)], e + z, k + 1, by go_num, by go_num, by omega, by omega, by simp; omega, H3, hJ3, hBr3⟩
          case measure => simp [intOf]; omega
        · gi_wp2
          refine bodyPost_ret (results_none rfl _ _ _) rfl ?_
          exact ⟨⟨_, rfl⟩, .inr ⟨pre ++ [(e, z)], by rw [HPS.out]; exact H2.out, hJx3⟩⟩
      · have HE := Lib.hid (namesAt_done hh.out hlt)
        clear hh
        gi_wp2
        go_end0
        exact ⟨⟨_, rfl⟩, .inl ⟨pre, by rw [HPS.out]; exact HE.out, hJr⟩⟩
end Go.Proofs.Ytdodamkndigjkaa

/- parts of freshetlaw3: where names stand, as the iterator tells. -/
namespace Go.Proofs.Ytdodamkndigjkaa
open Go.RowKit Go.Shelf
attribute [local go_sem] Oper.semAt_some

theorem names_stops (m : Nat) (hm : 1 ≤ m) (Bt Bd : Nat) (t : Int) (d : List UInt8) (hs : d.length ≤ 100000) (w : World) (hBt : w.cell? ⟨Bt, 0, none⟩ = some (.int .i64 t)) (hBd : w.cell? ⟨Bd, 0, none⟩ = some (.string ⟨d.toArray⟩)) :
    SeqStopsB Fence.wide m Try.prog 113 #[.pointer (some ⟨Bt, 0, none⟩), .pointer (some ⟨Bd, 0, none⟩)] (fun x : Nat × Nat => #[Value.int .i64 (x.1 : Int), .int .i64 (x.2 : Int)]) (KB Bd) (fun ys => ys = Rd.partsD t d) (fun pre => pre <+: Rd.partsD t d) 3 w :=
  fun l J Jx W hW hJ _ hY h0 => names1_in m l Bt Bd hm t d hs J Jx W hJ (fun pre x W1 h1 hl hp => by
    obtain ⟨fn, tmps, assign, body, hy, hR⟩ := hY pre x W1 h1 hl hp
    exact ⟨fn, tmps, assign, body, hy, hR.mono fun e W' h => h.imp (fun h => ⟨h.1, h.2.1, h.2.2.1⟩) (fun h => ⟨h.1, h.2.1⟩)⟩) (KB.below hW _ hBt) (KB.below hW _ hBd) h0

theorem ko_ownK {α : Type} {enc : α → List Value} {k : Nat} {e : TypeId} {base : Nat} {v : Value} {l : List α} {w w' : World} (h : OwnK enc k e base v l w) (hg : w.grownBy w' v.ownBlock) : KeepsOthers w w' :=
  KeepsOthers.of_grownBy hg (fun j o e ho => by
    rcases h.2 with ⟨rfl, _⟩ | ⟨g, cap, cur, rfl, _, hh, _⟩
    · cases e
    · cases e
      rw [hh] at ho
      cases ho
      rfl)
theorem equalIn_func {P : Program} (w : World) (d : Nat) (t : TypeId) {u : TypeDesc} (f : Fn) (x y : Array Value) (h : P.underlying t = some u) (hu : ∃ p r v, u = .func p r v) :
    (Op.equalIn (d + 1) t (.func f x y) .nilFunc).run P w = .ok false w := by
  obtain ⟨p, r, v, rfl⟩ := hu
  simp [Op.equalIn, run_underlying h]
theorem eql_nilFunc (W : World) (f B C : Nat) : (binOp .eql 150 (.func (.func f) #[] #[.pointer (some ⟨B, 0, none⟩), .pointer (some ⟨C, 0, none⟩)]) .nilFunc).run Try.prog W = .ok (.bool false) W := by
  simp only [binOp]
  simp [Op.equal, Op.maxDepth, equalIn_func W 9999 150 _ _ _ Try.underlying150 ⟨_, _, _, rfl⟩]

end Go.Proofs.Ytdodamkndigjkaa

/- A region that draws its order, by what each slot holds: every operation is met once, in a frame of which only what it looks at is known; what a slot holds may hang on the world, where it stands whatever comes behind. -/
namespace Go.Proofs.Ytdodamkndigjkaa
open Go

def dstAt (ops : Array Oper) (j : Nat) : Option Tmp := (ops[j]?).bind (·.dst)
def waitsFor (ops : Array Oper) (j i : Nat) : Bool := ((ops[j]?).map fun o => o.after.any fun e => Region.binds .any e && e.on == i).getD false
def depOn (ops : Array Oper) (i j d : Nat) : Bool := waitsFor ops i j && dstAt ops j == some d
def isOld (ops : Array Oper) (i k : Nat) : Bool := (List.range ops.size).all fun j => dstAt ops j != some k || j == i || waitsFor ops j i
/-- Edges lead to operations ahead; slots are each written once, and lie in the frame. -/
def fwdOk (ops : Array Oper) : Bool := (List.range ops.size).all fun i => ((ops[i]?).map fun o => o.after.all fun e => !Region.binds .any e || decide (e.on < i)).getD true
def dstsOk (ops : Array Oper) (n : Nat) : Bool := (List.range ops.size).all fun i => match dstAt ops i with
  | none => true
  | some d => decide (d < n) && (List.range i).all fun j => dstAt ops j != some d

section
variable {P : Program} {ops : Array Oper} {Q : Exit → Act → World → Prop} {le : World → World → Prop} {φ : Nat → Value → World → Prop} {a0 : Act} {w0 : World}

structure Now (ops : Array Oper) (le : World → World → Prop) (φ : Nat → Value → World → Prop) (a0 : Act) (w0 : World) (i : Nat) (a : Act) (w : World) : Prop where
  le : le w0 w
  dep : ∀ j d, depOn ops i j d = true → φ j (a.eval (.tmp d)) w
  old : ∀ k, isOld ops i k = true → a.eval (.tmp k) = a0.eval (.tmp k)
  size : a.tmps.size = a0.tmps.size

theorem eval_get (a : Act) (k : Nat) : a.eval (.tmp k) = a.tmps[k]?.getD undef := by
  show a.tmps.getD k undef = _
  rw [Array.getD_eq_getD_getElem?]
theorem Now.was' {i : Nat} {a : Act} {w : World} (N : Now ops le φ a0 w0 i a w) (k : Nat) (v : Value) (h : isOld ops i k = true) (hv : a0.eval (.tmp k) = v) : a.tmps[k]?.getD undef = v := by
  rw [← eval_get]; exact (N.old k h).trans hv
theorem Now.dep' {i : Nat} {a : Act} {w : World} (N : Now ops le φ a0 w0 i a w) (j d : Nat) (h : depOn ops i j d = true) : φ j (a.tmps[d]?.getD undef) w := by
  rw [← eval_get]; exact N.dep j d h
theorem Now.was {i : Nat} {a : Act} {w : World} (N : Now ops le φ a0 w0 i a w) (k : Nat) (v : Value) (h : isOld ops i k = true) (hv : a0.eval (.tmp k) = v) : a.eval (.tmp k) = v := (N.old k h).trans hv

theorem wanted_no {o : Oper} {f : Nat → Option Bool} (h : o.guard = none) : Region.wanted o f = true := by unfold Region.wanted; rw [h]
theorem wanted_is {o : Oper} {a : Act} {g d : Nat} {b x : Bool} (h : o.guard = some (g, b)) (hd : dstAt ops g = some d) (he : a.eval (.tmp d) = .bool x) : Region.wanted o (yielded ops a.tmps) = (x == b) := by
  unfold Region.wanted
  rw [h]
  simp only
  unfold dstAt at hd
  unfold yielded
  rw [hd]
  simp only [Option.bind_some]
  have he : a.tmps.getD d undef = .bool x := he
  rw [Array.getD_eq_getD_getElem?] at he
  have hx : a.tmps[d]? = some (.bool x) := by
    cases hx : a.tmps[d]? with
    | none => rw [hx] at he; simp [undef] at he
    | some v => rw [hx] at he; exact congrArg some he
  rw [hx]
  cases x <;> cases b <;> rfl

theorem wanted_get {o : Oper} {a : Act} {g d : Nat} {b x : Bool} (h : o.guard = some (g, b)) (hd : dstAt ops g = some d) (he : a.tmps[d]?.getD undef = .bool x) : Region.wanted o (yielded ops a.tmps) = (x == b) :=
  wanted_is h hd ((eval_get a d).trans he)

structure Inv (ops : Array Oper) (le : World → World → Prop) (φ : Nat → Value → World → Prop) (a0 : Act) (w0 : World) (listed : Array Bool) (a : Act) (w : World) : Prop where
  size : listed.size = ops.size
  le : le w0 w
  tmps : a.tmps.size = a0.tmps.size
  defers : a.defers = a0.defers
  closed : ∀ j o, ops[j]? = some o → listed.getD j false = true → ∀ e ∈ o.after, Region.binds .any e = true → listed.getD e.on false = true
  done : ∀ j d, dstAt ops j = some d → listed.getD j false = true → φ j (a.eval (.tmp d)) w
  rest : ∀ k, (∀ j, listed.getD j false = true → dstAt ops j ≠ some k) → a.eval (.tmp k) = a0.eval (.tmp k)

theorem eval_put_same {a : Act} {d : Nat} {v : Value} (h : d < a.tmps.size) : (a.put (some d) v).eval (.tmp d) = v := by
  unfold Act.put Act.eval
  simp [Array.getD_eq_getD_getElem?, Array.getElem?_setIfInBounds_self_of_lt h]
theorem eval_put_other {a : Act} {x : Option Tmp} {k : Nat} {v : Value} (h : x ≠ some k) : (a.put x v).eval (.tmp k) = a.eval (.tmp k) := by
  cases x with
  | none => rfl
  | some d =>
    unfold Act.put Act.eval
    simp only [Array.getD_eq_getD_getElem?]
    rw [Array.getElem?_setIfInBounds_ne (fun e => h (by rw [e]))]
theorem size_put {a : Act} {x : Option Tmp} {v : Value} : (a.put x v).tmps.size = a.tmps.size := by
  cases x <;> simp [Act.put]
theorem defers_put {a : Act} {x : Option Tmp} {v : Value} : (a.put x v).defers = a.defers := by
  cases x <;> rfl

theorem getD_true_false {l : Array Bool} {i : Nat} (h : i < l.size) (hn : l.getD i true = false) : l.getD i false = false := by
  simp only [Array.getD_eq_getD_getElem?, Array.getElem?_eq_getElem h, Option.getD_some] at *
  exact hn
theorem getD_set_same {l : Array Bool} {i : Nat} (h : i < l.size) : (l.setIfInBounds i true).getD i false = true := by
  simp [Array.getD_eq_getD_getElem?, Array.getElem?_setIfInBounds_self_of_lt h]

theorem Inv.now {listed : Array Bool} {a : Act} {w : World} (I : Inv ops le φ a0 w0 listed a w) {i : Nat} (hr : i ∈ Region.ready .any ops listed) : Now ops le φ a0 w0 i a w := by
  obtain ⟨hn, o, ho, hall⟩ := mem_ready.1 hr
  have hlt : i < ops.size := (Array.getElem?_eq_some_iff.1 ho).1
  have hn' := getD_true_false (by rw [I.size]; exact hlt) hn
  refine ⟨I.le, fun j d h => ?_, fun k h => I.rest k fun j hj hd => ?_, I.tmps⟩
  · unfold depOn waitsFor at h
    rw [ho] at h
    simp only [Option.map_some, Option.getD_some, Bool.and_eq_true, beq_iff_eq] at h
    obtain ⟨h1, h2⟩ := h
    rw [Array.any_eq_true'] at h1
    obtain ⟨e, he, hb⟩ := h1
    simp only [Bool.and_eq_true, beq_iff_eq] at hb
    exact I.done j d h2 (by rw [← hb.2]; exact hall e he hb.1)
  · unfold isOld at h
    rw [List.all_eq_true] at h
    have hj2 : j < ops.size := by
      rcases Nat.lt_or_ge j ops.size with h' | h'
      · exact h'
      · unfold dstAt at hd; rw [Array.getElem?_eq_none h'] at hd; cases hd
    have := h j (List.mem_range.2 hj2)
    simp only [Bool.or_eq_true, bne_iff_ne, beq_iff_eq] at this
    rcases this with (h1 | h1) | h1
    · exact h1 hd
    · subst h1; rw [hn'] at hj; cases hj
    · unfold waitsFor at h1
      cases hoj : ops[j]? with
      | none => rw [hoj] at h1; cases h1
      | some oj =>
        rw [hoj] at h1
        simp only [Option.map_some, Option.getD_some] at h1
        rw [Array.any_eq_true'] at h1
        obtain ⟨e, he, hb⟩ := h1
        simp only [Bool.and_eq_true, beq_iff_eq] at hb
        have := I.closed j oj hoj hj e he hb.1
        rw [hb.2, hn'] at this
        cases this

theorem Inv.step {listed : Array Bool} {a : Act} {w : World} (I : Inv ops le φ a0 w0 listed a w) (trans : ∀ {x y z}, le x y → le y z → le x z) (stable : ∀ j v x y, le x y → φ j v x → φ j v y)
    (hD : dstsOk ops a0.tmps.size = true) {i : Nat} (hr : i ∈ Region.ready .any ops listed) {o : Oper} (ho : ops[i]? = some o) {v : Value} {w' : World} (hw : le w w') (hv : ∀ d, o.dst = some d → φ i v w') :
    Inv ops le φ a0 w0 (listed.setIfInBounds i true) (a.put o.dst v) w' := by
  obtain ⟨hn, o', ho', hall⟩ := mem_ready.1 hr
  rw [ho] at ho'
  cases ho'
  have hlt : i < ops.size := (Array.getElem?_eq_some_iff.1 ho).1
  have hlt' : i < listed.size := by rw [I.size]; exact hlt
  have hdst : dstAt ops i = o.dst := by unfold dstAt; rw [ho]; rfl
  have hdist : ∀ j, j ≠ i → ∀ d, dstAt ops j = some d → o.dst ≠ some d := by
    intro j hji d hd e
    have hj2 : j < ops.size := by
      rcases Nat.lt_or_ge j ops.size with h' | h'
      · exact h'
      · unfold dstAt at hd; rw [Array.getElem?_eq_none h'] at hd; cases hd
    unfold dstsOk at hD
    rw [List.all_eq_true] at hD
    rcases Nat.lt_or_ge j i with h | h
    · have := hD i (List.mem_range.2 hlt)
      rw [hdst, e] at this
      simp only [Bool.and_eq_true, List.all_eq_true, List.mem_range, bne_iff_ne] at this
      exact this.2 j h hd
    · have := hD j (List.mem_range.2 hj2)
      rw [hd] at this
      simp only [Bool.and_eq_true, List.all_eq_true, List.mem_range, bne_iff_ne] at this
      exact this.2 i (by omega) (by rw [hdst, e])
  have hin : ∀ d, o.dst = some d → d < a.tmps.size := by
    intro d e
    unfold dstsOk at hD
    rw [List.all_eq_true] at hD
    have := hD i (List.mem_range.2 hlt)
    rw [hdst, e] at this
    simp only [Bool.and_eq_true, decide_eq_true_eq] at this
    rw [I.tmps]; exact this.1
  refine ⟨by simp [I.size], trans I.le hw, by rw [size_put]; exact I.tmps, by rw [defers_put]; exact I.defers, ?_, ?_, ?_⟩
  · intro j oj hj hl e he hb
    by_cases hji : j = i
    · subst hji
      rw [ho] at hj; cases hj
      exact getD_set_true (hall e he hb)
    · rw [getD_set_ne false (Ne.symm hji)] at hl
      exact getD_set_true (I.closed j oj hj hl e he hb)
  · intro j d hd hl
    by_cases hji : j = i
    · subst hji
      rw [hdst] at hd
      rw [hd, eval_put_same (hin d hd)]
      exact hv d hd
    · rw [getD_set_ne false (Ne.symm hji)] at hl
      rw [eval_put_other (hdist j hji d hd)]
      exact stable _ _ _ _ hw (I.done j d hd hl)
  · intro k hk
    have hki : o.dst ≠ some k := by
      have := hk i (getD_set_same hlt')
      rw [hdst] at this; exact this
    rw [eval_put_other hki]
    refine I.rest k fun j hj => hk j (getD_set_true hj)

/-- What is asked at one operation. -/
def StepOk (P : Program) (ops : Array Oper) (Q : Exit → Act → World → Prop) (le : World → World → Prop) (φ : Nat → Value → World → Prop) (a0 : Act) (w0 : World) (i : Nat) (o : Oper) : Prop :=
  ∀ (a : Act) (w : World) (K : Act → World → Prop), Now ops le φ a0 w0 i a w → (∀ v w', le w w' → φ i v w' → K (a.put o.dst v) w') →
    if Region.wanted o (yielded ops a.tmps) = true then o.wp P a w K Q else K (a.put o.dst undef) w

theorem wpAny_of_steps (trans : ∀ {x y z}, le x y → le y z → le x z) (stable : ∀ j v x y, le x y → φ j v x → φ j v y) (hD : dstsOk ops a0.tmps.size = true)
    (steps : ∀ i o, ops[i]? = some o → StepOk P ops Q le φ a0 w0 i o)
    (fin : ∀ listed a w, Inv ops le φ a0 w0 listed a w → Region.ready .any ops listed = [] → Q .normal a w) :
    ∀ (fuel : Nat) (listed : Array Bool) (a : Act) (w : World), Inv ops le φ a0 w0 listed a w → (List.range ops.size).countP (fun i => !listed.getD i true) ≤ fuel → wpAny P .any ops Q fuel listed a w
  | 0, listed, a, w, I, hc => by
    have : Region.ready .any ops listed = [] := by
      rw [List.eq_nil_iff_forall_not_mem]
      intro i hi
      obtain ⟨hn, o, ho, _⟩ := mem_ready.1 hi
      have hlt : i < ops.size := (Array.getElem?_eq_some_iff.1 ho).1
      have : 0 < (List.range ops.size).countP (fun i => !listed.getD i true) := List.countP_pos_iff.2 ⟨i, List.mem_range.2 hlt, by simp only [hn, Bool.not_false]⟩
      omega
    exact ⟨this, fin listed a w I this⟩
  | fuel + 1, listed, a, w, I, hc => by
    refine ⟨fun h => fin listed a w I h, fun i hi => ?_⟩
    obtain ⟨hn, o, ho, _⟩ := mem_ready.1 hi
    have hlt : i < ops.size := (Array.getElem?_eq_some_iff.1 ho).1
    have hs := steps i o ho a w (fun a' w' => wpAny P .any ops Q fuel (listed.setIfInBounds i true) a' w') (I.now hi)
      (fun v w' hw hv => wpAny_of_steps trans stable hD steps fin fuel _ _ _ (I.step trans stable hD hi ho hw (fun _ _ => hv)) (by
        have hlt' : i < listed.size := by rw [I.size]; exact hlt
        have h1 : (List.range ops.size).countP (fun j => !(listed.setIfInBounds i true).getD j true) < (List.range ops.size).countP (fun i => !listed.getD i true) := by
          refine countP_lt (i := i) (List.mem_range.2 hlt) ?_ ?_ ?_
          · intro j _ hj
            by_cases hji : j = i
            · subst hji; rw [hn]; rfl
            · rw [getD_set_ne true (Ne.symm hji)] at hj; exact hj
          · rw [hn]; rfl
          · simp [Array.getD_eq_getD_getElem?, Array.getElem?_setIfInBounds_self_of_lt hlt']
        omega))
    unfold wpOp
    rw [ho]
    simp only
    split
    · rename_i hw; rw [if_pos hw] at hs; exact .inl hs
    · rename_i hw; rw [if_neg hw] at hs; exact hs
where
  countP_lt {l : List Nat} {p q : Nat → Bool} {i : Nat} (hi : i ∈ l) (hpq : ∀ j ∈ l, p j = true → q j = true) (hq : q i = true) (hp : p i = false) : l.countP p < l.countP q := by
    induction l with
    | nil => cases hi
    | cons x l ih =>
      rw [List.countP_cons, List.countP_cons]
      rcases List.mem_cons.1 hi with rfl | hi
      · have := List.countP_mono_left (p := p) (q := q) (l := l) (fun j hj => hpq j (List.mem_cons_of_mem _ hj))
        rw [hq, hp]
        simp
        omega
      · have h1 := ih hi (fun j hj => hpq j (List.mem_cons_of_mem _ hj))
        have h2 := hpq x (List.mem_cons_self ..)
        cases hpx : p x <;> cases hqx : q x <;> simp_all <;> omega

theorem all_listed (hf0 : fwdOk ops = true) {listed : Array Bool} (hs : listed.size = ops.size) (hr : Region.ready .any ops listed = []) : ∀ n i, i < n → i < ops.size → listed.getD i false = true
  | 0, _, h, _ => absurd h (Nat.not_lt_zero _)
  | n + 1, i, h, hi => by
    rcases Nat.lt_or_ge i n with h' | h'
    · exact all_listed hf0 hs hr n i h' hi
    · cases hl : listed.getD i false with
      | true => rfl
      | false =>
        exfalso
        have hn : listed.getD i true = false := by
          have hi' : i < listed.size := by rw [hs]; exact hi
          simp only [Array.getD_eq_getD_getElem?, Array.getElem?_eq_getElem hi', Option.getD_some] at *
          exact hl
        have : i ∈ Region.ready .any ops listed := by
          rw [mem_ready]
          refine ⟨hn, ops[i], Array.getElem?_eq_getElem hi, fun e he hb => ?_⟩
          have hf := hf0
          unfold fwdOk at hf
          rw [List.all_eq_true] at hf
          have h1 := hf i (List.mem_range.2 hi)
          rw [Array.getElem?_eq_getElem hi] at h1
          simp only [Option.map_some, Option.getD_some] at h1
          rw [Array.all_eq_true'] at h1
          have h2 := h1 e he
          rw [hb] at h2
          simp only [Bool.not_true, Bool.false_or, decide_eq_true_eq] at h2
          exact all_listed hf0 hs hr n e.on (by omega) (by omega)
        rw [hr] at this
        cases this

/-- A frame with all slots of a list of operations written. -/
def putAll (b : Act) : List Oper → (Nat → Value) → Act
  | [], _ => b
  | o :: os, f => putAll (b.put o.dst (match o.dst with | some d => f d | none => undef)) os f
theorem putAll_size (f : Nat → Value) : ∀ (os : List Oper) (b : Act), (putAll b os f).tmps.size = b.tmps.size ∧ (putAll b os f).defers = b.defers
  | [], _ => ⟨rfl, rfl⟩
  | o :: os, b => by
    obtain ⟨h1, h2⟩ := putAll_size f os (b.put o.dst (match o.dst with | some d => f d | none => undef))
    unfold putAll
    exact ⟨h1.trans size_put, h2.trans defers_put⟩
theorem putAll_get (f : Nat → Value) : ∀ (os : List Oper) (b : Act) (k : Nat), (∀ o ∈ os, ∀ d, o.dst = some d → d < b.tmps.size) →
    (putAll b os f).eval (.tmp k) = if os.any (fun o => o.dst == some k) then f k else b.eval (.tmp k)
  | [], _, _, _ => rfl
  | o :: os, b, k, hd => by
    have ih := putAll_get f os (b.put o.dst (match o.dst with | some d => f d | none => undef)) k (fun x hx d e => by rw [size_put]; exact hd x (List.mem_cons_of_mem _ hx) d e)
    unfold putAll
    rw [ih, List.any_cons]
    by_cases h : o.dst = some k
    · rw [h]
      simp only [BEq.rfl, Bool.true_or, if_true]
      split
      · rfl
      · exact eval_put_same (hd o (List.mem_cons_self ..) k h)
    · rw [eval_put_other h, beq_eq_false_iff_ne.2 h, Bool.false_or]
theorem act_ext {a b : Act} (h1 : a.tmps.size = b.tmps.size) (h2 : a.defers = b.defers) (h3 : ∀ k, a.eval (.tmp k) = b.eval (.tmp k)) : a = b := by
  obtain ⟨ta, da⟩ := a
  obtain ⟨tb, db⟩ := b
  simp only at h1 h2
  subst h2
  congr 1
  refine Array.ext h1 fun i hi hi' => ?_
  have := h3 i
  simpa [Act.eval, Array.getD_eq_getD_getElem?, hi, hi'] using this

/-- What is asked behind the region: of each slot what is known of it, one by one. -/
def FinAll (φ : Nat → Value → World → Prop) (w : World) (R : Act → Prop) : Nat → List Oper → Act → Prop
  | _, [], b => R b
  | i, o :: os, b => match o.dst with
    | none => FinAll φ w R (i + 1) os b
    | some d => ∀ v, φ i v w → FinAll φ w R (i + 1) os (b.put (some d) v)
theorem finAll_take {w : World} {R : Act → Prop} (f : Nat → Value) : ∀ (os : List Oper) (i : Nat) (b : Act), FinAll φ w R i os b → (∀ j o d, os[j]? = some o → o.dst = some d → φ (i + j) (f d) w) → R (putAll b os f)
  | [], _, _, h, _ => h
  | o :: os, i, b, h, hf => by
    unfold FinAll at h
    unfold putAll
    have hf' : ∀ j o d, os[j]? = some o → o.dst = some d → φ (i + 1 + j) (f d) w := fun j x d hx hd => by
      have := hf (j + 1) x d (by simpa using hx) hd
      rw [show i + 1 + j = i + (j + 1) by omega]; exact this
    cases hd : o.dst with
    | none =>
      rw [hd] at h
      exact finAll_take f os (i + 1) b h hf'
    | some d =>
      rw [hd] at h
      exact finAll_take f os (i + 1) _ (h (f d) (by have := hf 0 o d rfl hd; rwa [Nat.add_zero] at this)) hf'

/-- The steps, one by one. -/
def StepsOk (P : Program) (ops : Array Oper) (Q : Exit → Act → World → Prop) (le : World → World → Prop) (φ : Nat → Value → World → Prop) (a0 : Act) (w0 : World) : Nat → List Oper → Prop
  | _, [] => True
  | i, o :: os => StepOk P ops Q le φ a0 w0 i o ∧ StepsOk P ops Q le φ a0 w0 (i + 1) os
theorem stepsOk_at : ∀ (os : List Oper) (i : Nat), StepsOk P ops Q le φ a0 w0 i os → ∀ j o, os[j]? = some o → StepOk P ops Q le φ a0 w0 (i + j) o
  | [], _, _, _, _, h => by simp at h
  | x :: os, i, hs, 0, o, h => by
    simp only [List.getElem?_cons_zero, Option.some.injEq] at h
    subst h
    exact hs.1
  | x :: os, i, hs, j + 1, o, h => by
    have := stepsOk_at os (i + 1) hs.2 j o (by simpa using h)
    rw [show i + (j + 1) = i + 1 + j by omega]; exact this

/-- The law. -/
theorem wp_region_slots {id : Nat} {l : List Oper} (le : World → World → Prop) (φ : Nat → Value → World → Prop) (refl : ∀ x, le x x) (trans : ∀ {x y z}, le x y → le y z → le x z) (stable : ∀ j v x y, le x y → φ j v x → φ j v y)
    (hm : P.follows .mixedOrders = true) (hF : fwdOk l.toArray = true) (hD : dstsOk l.toArray a0.tmps.size = true)
    (steps : StepsOk P l.toArray Q le φ a0 w0.drew 0 l)
    (fin : ∀ w, le w0.drew w → FinAll φ w (fun a => Q .normal a w) 0 l a0) :
    (Code.region id l.toArray true).wp P Q a0 w0 := by
  refine wp_region_any hm ?_
  refine wpAny_of_steps (le := le) (φ := φ) (a0 := a0) (w0 := w0.drew) trans stable hD (fun i o ho => ?_) (fun listed a w I hr => ?_) _ _ _ _ ?_ ?_
  · have := stepsOk_at l 0 steps i o (by simpa using ho)
    rwa [Nat.zero_add] at this
  · have hall := fun i hi => all_listed hF I.size hr (i + 1) i (Nat.lt_succ_self i) hi
    have hf := finAll_take (fun d => a.eval (.tmp d)) l 0 a0 (fin w I.le) (fun j o d hj hd => by
      rw [Nat.zero_add]
      have hj' : l.toArray[j]? = some o := by simpa using hj
      exact I.done j d (by unfold dstAt; rw [hj']; exact hd) (hall j (Array.getElem?_eq_some_iff.1 hj').1))
    have hin : ∀ o ∈ l, ∀ d, o.dst = some d → d < a0.tmps.size := by
      intro o ho d hd
      obtain ⟨j, hj⟩ := List.getElem?_of_mem ho
      have hj' : l.toArray[j]? = some o := by simpa using hj
      unfold dstsOk at hD
      rw [List.all_eq_true] at hD
      have := hD j (List.mem_range.2 (Array.getElem?_eq_some_iff.1 hj').1)
      have e : dstAt l.toArray j = some d := by unfold dstAt; rw [hj']; exact hd
      rw [e] at this
      simp only [Bool.and_eq_true, decide_eq_true_eq] at this
      exact this.1
    have hs := putAll_size (fun d => a.eval (.tmp d)) l a0
    have : putAll a0 l (fun d => a.eval (.tmp d)) = a := by
      refine act_ext (hs.1.trans I.tmps.symm) (hs.2.trans I.defers.symm) fun k => ?_
      rw [putAll_get _ _ _ _ hin]
      split
      · rfl
      · rename_i h
        refine (I.rest k fun j hj hd => h ?_).symm
        rw [List.any_eq_true]
        unfold dstAt at hd
        cases ho : l.toArray[j]? with
        | none => rw [ho] at hd; cases hd
        | some o =>
          rw [ho] at hd
          exact ⟨o, List.mem_of_getElem? (by simpa using ho), by simpa using hd⟩
    rw [this] at hf
    exact hf
  · refine ⟨by simp, refl _, rfl, rfl, ?_, ?_, fun k _ => rfl⟩
    · intro j o _ hl
      simp only [Array.getD_eq_getD_getElem?, Array.getElem?_replicate] at hl
      split at hl <;> cases hl
    · intro j d _ hl
      simp only [Array.getD_eq_getD_getElem?, Array.getElem?_replicate] at hl
      split at hl <;> cases hl
  · have := List.countP_le_length (p := fun i => !(Array.replicate l.toArray.size false).getD i true) (l := List.range l.toArray.size)
    simpa using this
end

/-! With what lies in memory growing alone. -/
theorem cellLt {W : World} {a : Addr} {v : Value} (h : W.cell? a = some v) : a.block < W.heap.size := by
  rcases Nat.lt_or_ge a.block W.heap.size with h' | h'
  · exact h'
  · simp [World.cell?, Array.getElem?_eq_none h'] at h
theorem keep_cell {a : Addr} {v : Value} {W W' : World} (hb : RowKit.Below W.heap.size W W') (h : W.cell? a = some v) : W'.cell? a = some v := (hb.cell (cellLt h)).trans h
def slotLe (x y : World) : Prop := RowKit.Below x.heap.size x y
theorem below_undrew {w V : World} (h : slotLe w.drew V) : RowKit.Below w.heap.size w V := (RowKit.Below.refl _ w).drew.trans h
theorem slotLe_refl (x : World) : slotLe x x := RowKit.Below.refl _ x
theorem slotLe_trans {x y z : World} (h : slotLe x y) (k : slotLe y z) : slotLe x z := RowKit.Below.trans h (k.mono h.size)
def slotPhi (l : List (Value → World → Prop)) (j : Nat) : Value → World → Prop := l.getD j (fun _ _ => True)
/-- Each predicate stands when more memory is made. -/
def StableAll : List (Value → World → Prop) → Prop
  | [] => True
  | p :: l => (∀ v x y, slotLe x y → p v x → p v y) ∧ StableAll l
theorem slotPhi_stable : ∀ {l : List (Value → World → Prop)}, StableAll l → ∀ j v x y, slotLe x y → slotPhi l j v x → slotPhi l j v y
  | [], _, _, _, _, _, _, _ => trivial
  | _p :: _l, h, 0, v, x, y, hxy, hp => h.1 v x y hxy hp
  | _p :: l, h, j + 1, v, x, y, hxy, hp => slotPhi_stable (l := l) h.2 j v x y hxy hp
theorem stable_const {c : Value} : ∀ (v : Value) (x y : World), slotLe x y → (fun (v : Value) (_ : World) => v = c) v x → (fun (v : Value) (_ : World) => v = c) v y := fun _ _ _ _ h => h
theorem stable_true : ∀ (v : Value) (x y : World), slotLe x y → (fun (_ : Value) (_ : World) => True) v x → (fun (_ : Value) (_ : World) => True) v y := fun _ _ _ _ h => h
end Go.Proofs.Ytdodamkndigjkaa
