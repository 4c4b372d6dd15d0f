/- A reader of a message: what its body comes to, and what lies in memory while it is read. -/
import Derived.Test.YtfmghbmbahembaaJB31
/- A reader of a message: what its body comes to, and what lies in memory while it is read. -/
namespace Go.Proofs.Ytfmghbmbahembaa
open Go.RowKit Go.Shelf
attribute [local go_sem] Oper.semAt_some

/-! ### What comes of it -/
def cQ (b : List UInt8) (s : Option Nat) : Ms.Q := ⟨nameAt b s, (twoAt b (nameTo b s) : Int), (twoAt b (twoTo b (nameTo b s)) : Int)⟩
def cQTo (b : List UInt8) (s : Option Nat) : Option Nat := twoTo b (twoTo b (nameTo b s))
def cQs (b : List UInt8) : Nat → Option Nat → Option (List Ms.Q × Nat)
  | 0, s => s.map fun p => ([], p)
  | n + 1, s => (cQs b n (cQTo b s)).map fun x => (cQ b s :: x.1, x.2)
theorem cQs_none (b : List UInt8) : ∀ n, cQs b n none = none
  | 0 => rfl
  | n + 1 => by
    have : cQTo b none = none := rfl
    simp only [cQs, this, cQs_none b n, Option.map_none]
def cRec (b : List UInt8) (i : Nat) (st : Ms.St) : Option Ms.St := match recGood b (some st.at') with
  | none => none
  | some (r, q) => if r.typ = 41 then (if i = 2 ∧ r.name = [0] ∧ st.edns = false then some ⟨q, true, r.cls, st.acc⟩ else none)
    else (if Rd.check r = true then some ⟨q, st.edns, st.esz, st.acc ++ [r]⟩ else none)
def cSec (b : List UInt8) (i : Nat) : Nat → Ms.St → Option Ms.St
  | 0, st => some st
  | n + 1, st => (cRec b i st).bind (cSec b i n)
def few (X : Option Ms.St) : Option Ms.St := X.bind fun st => if st.acc.length ≤ 64 then some st else none
def tail3 (b : List UInt8) (qs : List Ms.Q) (l0 l1 : List Rd.RR) (st : Ms.St) : Option Ms.M := if st.at' = b.length then some { Ms.hdOf b with qs := qs, an := l0, ns := l1, ad := st.acc, edns := st.edns, size := st.esz } else none
def tail2 (b : List UInt8) (qs : List Ms.Q) (l0 l1 : List Rd.RR) (st : Ms.St) : Option Ms.M := (few (cSec b 2 (tw b 10) { st with acc := [] })).bind fun s => tail3 b qs l0 l1 s
def tail1 (b : List UInt8) (qs : List Ms.Q) (l0 : List Rd.RR) (st : Ms.St) : Option Ms.M := (few (cSec b 1 (tw b 8) { st with acc := [] })).bind fun s => tail2 b qs l0 s.acc s
def tail0 (b : List UInt8) (qs : List Ms.Q) (st : Ms.St) : Option Ms.M := (few (cSec b 0 (tw b 6) { st with acc := [] })).bind fun s => tail1 b qs s.acc s
def cBody (b : List UInt8) : Option Ms.M := (cQs b (tw b 4) (some 12)).bind fun x => tail0 b x.1 ⟨x.2, false, 0, []⟩

/-! ### An array's elements -/
theorem idx_p0 (w : World) (x y z : Value) : (Instr.index 96 (.agg #[x, y, z]) (.int .i64 0)).run Try.prog w = .ok x w := by kernel_rfl
theorem idx_p1 (w : World) (x y z : Value) : (Instr.index 96 (.agg #[x, y, z]) (.int .i64 1)).run Try.prog w = .ok y w := by kernel_rfl
theorem idx_p2 (w : World) (x y z : Value) : (Instr.index 96 (.agg #[x, y, z]) (.int .i64 2)).run Try.prog w = .ok z w := by kernel_rfl

/-! ### Appending one -/
theorem info1 {α : Type} {enc : α → List Value} {k : Nat} (_hk : ∀ x, (enc x).length = k) (x : α) (g : Nat) (e : TypeId) (w : World) (hb : Block w g (enc x).toArray e) : ∀ (j : Nat) u, ([x].flatMap enc)[j]? = some u → w.cell? ((⟨g, 0, none⟩ : Addr).add j) = some u := by
  intro j u hj
  have e2 : (⟨g, 0, none⟩ : Addr).add j = ⟨g, 0 + j, none⟩ := by unfold Addr.add; split <;> simp_all
  rw [e2, Nat.zero_add]
  simp only [List.flatMap_cons, List.flatMap_nil, List.append_nil] at hj
  exact hb.cell (by rw [List.getElem?_toArray]; exact hj)
theorem step_ap1 {α : Type} (enc : α → List Value) (k : Nat) (hk : ∀ x, (enc x).length = k) (h0 : 0 < k) (henc : ∀ x, ∀ u ∈ enc x, u.oneCell' = true) (t e : TypeId) (z : Value) (bytes : Nat) (h1 : Try.prog.underlying t = some (.slice e))
    (h2 : (Try.prog.info? e).map (fun i => (i.zero, i.size, i.bytes)) = some (some z, k, bytes)) (hz : z.cells.size = k) (b2 : bytes ≤ 1000) {ops : Array Oper} {o : Oper} {a : Act} {w : World} {K : Act → World → Prop} {Q : Exit → Act → World → Prop} {E : Prop}
    (hg : o.guard = none) (s x : Operand) (hop : o.op = Op.call { callee := Callee.builtin Builtin.append, args := #[s, x], argTypes := #[t, t] })
    (base : Nat) (v : Value) (l : List α) (hs : a.eval s = v) (hown : OwnK enc k e base v l w) (g : Nat) (y : α) (hx : a.eval x = .slice (some ⟨g, 0, none⟩) 1 1) (hr : Block w g (enc y).toArray e) (b1 : l.length + 1 ≤ 1000000) (hb : base ≤ w.heap.size)
    (hK : ∀ v' w', OwnK enc k e base v' (l ++ [y]) w' → w.grownBy w' v.ownBlock → (v'.ownBlock = v.ownBlock ∨ v'.ownBlock = some w.heap.size) → K (a.put o.dst v') w') :
    if Region.wanted o (yielded ops a.tmps) = true then Oper.wp Try.prog o a w K Q else E := by
  have hw : Region.wanted o (yielded ops a.tmps) = true := by simp [Region.wanted, hg]
  rw [if_pos hw]
  obtain ⟨v', w', hrun, r1, r2, r3⟩ := run_apk (P := Try.prog) enc k hk h0 henc w base t o.type e z bytes h1 h2 hz v l hown ⟨g, 0, none⟩ 1 1 [y] rfl (info1 hk y g e w hr) b1 b2 hb
  unfold Oper.wp
  simp [execOp, hop, resolve, invoke, builtin, hs, hx, hrun, Result.andThen]
  exact hK v' w' r1 r2 r3
theorem infoQ : (Try.prog.info? 47).map (fun i => (i.zero, i.size, i.bytes)) = some (some (.agg #[.string ⟨#[]⟩, .int .i64 0, .int .i64 0]), 3, 32) := by kernel_rfl

/-! ### What lies in memory while the body is read -/
theorem turn_ownK {α : Type} {enc : α → List Value} {k : Nat} (h1 : 2 ≤ k) {e : TypeId} {base : Nat} {v : Value} {l : List α} {f : Nat → Prop} {W W' : World} (ho : OwnK enc k e base v l W) (hg : W.grownBy W' v.ownBlock) (hf : ∀ g, v.ownBlock = some g → f g) : Turn f W W' := by
  have hb : ∀ g, v.ownBlock = some g → ∃ cur cap, W.heap[g]? = some (.cells cur e (0, 0)) ∧ cur.size = cap * k := fun g hgv => by
    rcases ho.2 with ⟨rfl, _⟩ | ⟨g', cap, cur, rfl, _, hh, _, _, hsz, _⟩
    · cases hgv
    · cases hgv; exact ⟨cur, cap, hh, hsz⟩
  refine ⟨hg.os, hg.tape, hg.output, hg.size, fun j hj hn => hg.block j hj (fun e => hn (hf j e.symm)), fun j o hjo hk => ?_, fun j t u hbx => ?_⟩
  · refine (hg.block j (blk_lt hjo) (fun e' => ?_)).trans hjo
    obtain ⟨cur, cap, hh, _⟩ := hb j e'.symm
    rw [hh] at hjo; cases hjo; cases hk
  · refine (hg.block j hbx.lt (fun e' => ?_)).trans hbx
    obtain ⟨cur, cap, hh, hsz⟩ := hb j e'.symm
    have hx : W.heap[j]? = some (.cells #[u] t (0, 0)) := hbx
    rw [hh] at hx
    injection hx with hx
    injection hx with hx _
    rw [hx] at hsz
    have hs1 : (1 : Nat) = cap * k := by simpa using hsz
    rcases Nat.eq_zero_or_pos cap with h0 | h0
    · rw [h0] at hs1; omega
    · have := Nat.mul_le_mul h0 h1; omega
/-- The bytes read on, whatever was done beside them. -/
theorem read_turn {B : Nat} {b : List UInt8} {bv : Value} {s : Option Nat} {w W : World} (h : RdS B b bv s w) (ht : Turn (Only B) w W) : ReadB bv b W := by
  obtain ⟨at', e, hB, _, _⟩ := h.ex
  obtain ⟨ao, cap, rfl, hc⟩ := h.read.form
  refine ⟨ao, cap, rfl, fun j hj => ?_⟩
  obtain ⟨g, off, e', c⟩ := hc j hj
  refine ⟨g, off, e', ?_⟩
  have hne : g ≠ B := by
    rintro rfl
    have c' : (rCells (.slice ao b.length cap) at' e)[off + j]? = some (encB b[j]) := by
      have : w.cell? ⟨g, off + j, none⟩ = (rCells (.slice ao b.length cap) at' e)[off + j]? := by
        show (match w.heap[g]? with | some (.cells c _ _) => c[off + j]? | _ => none) = _
        rw [show w.heap[g]? = _ from hB]
      rw [← this]; exact c
    unfold rCells encB at c'
    match hq : off + j with
    | 0 => rw [hq] at c'; simp at c'
    | 1 => rw [hq] at c'; simp at c'
    | 2 => rw [hq] at c'; simp at c'
    | n + 3 => rw [hq] at c'; simp at c'
  exact ht.cell c hne
/-- The message (block R4), the counts (R5), the result (R6); what lies below hi is as it was in Wi, but for the reader and the message. -/
structure Bod (B : Nat) (b : List UInt8) (bv : Value) (s0 s : Option Nat) (w : World) (R : Nat) (Wi : World) (hi : Nat) (cs : List Value) (W : World) : Prop where
  was : RdS B b bv s0 w
  m4 : Mine B b bv s w R 27 cs W
  m5 : Block W (R + 1) (cnt b 4).toArray 61
  m6 : Block W (R + 2) msg0.toArray 27
  lt : R + 2 < hi
  his : hi ≤ W.heap.size
  chg : ∀ k, k < hi → k ≠ B → k ≠ R → W.heap[k]? = Wi.heap[k]?
section
variable {B : Nat} {b : List UInt8} {bv : Value} {s0 s s' : Option Nat} {w : World} {R : Nat} {Wi : World} {hi : Nat} {cs : List Value} {W W' : World}
theorem Bod.B_lt (h : Bod B b bv s0 s w R Wi hi cs W) : B < R := by have := h.was.lt; have := h.m4.own; omega
theorem Bod.then (h : Bod B b bv s0 s w R Wi hi cs W) (ht : Turn (Only B) W W') (hr : RdS B b bv s' W') : Bod B b bv s0 s' w R Wi hi cs W' where
  was := h.was
  m4 := h.m4.then ht hr
  m5 := h.m5.turn ht (by have := h.B_lt; omega)
  m6 := h.m6.turn ht (by have := h.B_lt; omega)
  lt := h.lt
  his := Nat.le_trans h.his ht.size
  chg := fun k hk h1 h2 => (ht.block k (Nat.lt_of_lt_of_le hk h.his) h1).trans (h.chg k hk h1 h2)
theorem Bod.below (h : Bod B b bv s0 s w R Wi hi cs W) (hb : Below W.heap.size W W') : Bod B b bv s0 s w R Wi hi cs W' := h.then (Turn.of_below hb) (h.m4.rd.below hb)
theorem Bod.alloc (h : Bod B b bv s0 s w R Wi hi cs W) (o : Obj) : Bod B b bv s0 s w R Wi hi cs (W.alloc o) := h.below ((Below.refl _ W).alloc (Nat.le_refl _) o)
theorem Bod.drew (h : Bod B b bv s0 s w R Wi hi cs W) : Bod B b bv s0 s w R Wi hi cs W.drew := h.below (Below.refl _ W).drew
theorem Bod.set (h : Bod B b bv s0 s w R Wi hi cs W) (i : Nat) (v : Value) (hv : isU8 v = false) : Bod B b bv s0 s w R Wi hi (cs.set i v) (W.setCell ⟨R, i, none⟩ v) where
  was := h.was
  m4 := h.m4.set i v hv
  m5 := h.m5.other (by omega) i v
  m6 := h.m6.other (by omega) i v
  lt := h.lt
  his := by have : (W.setCell ⟨R, i, none⟩ v).heap.size = W.heap.size := by simp [World.setCell]
            have := h.his; omega
  chg := fun k hk h1 h2 => (Below.heap_setCell W ⟨R, i, none⟩ v k h2).trans (h.chg k hk h1 h2)
theorem Bod.apd {α : Type} {enc : α → List Value} {k : Nat} (h1 : 2 ≤ k) {e : TypeId} {v : Value} {l : List α} (h : Bod B b bv s0 s w R Wi hi cs W) (ho : OwnK enc k e hi v l W) (hg : W.grownBy W' v.ownBlock) : Bod B b bv s0 s w R Wi hi cs W' := by
  have hbl := below_ownK ho hg h.his
  have hBl := h.B_lt
  have hlt := h.lt
  have hsz := h.his
  have htn : Turn (Only B) w W' := h.m4.tn.trans (turn_ownK h1 ho hg (fun g hgv => .inr ⟨by
    have h2 : hi ≤ g := by
      rcases ho.2 with ⟨rfl, _⟩ | ⟨g', cap, cur, rfl, hbg, _⟩
      · cases hgv
      · cases hgv; exact hbg
    have := h.m4.own; omega, (World.ownsRow.lt ho g hgv).2⟩))
  obtain ⟨at', e', hB, ha, hs⟩ := h.m4.rd.ex
  exact ⟨h.was, ⟨(hbl.block R (by omega)).trans h.m4.blk, ⟨⟨at', e', (hbl.block B (by omega)).trans hB, ha, hs⟩, read_turn h.was htn⟩, htn, h.m4.no, h.m4.more, h.m4.ne, h.m4.own⟩, (hbl.block (R + 1) (by omega)).trans h.m5, (hbl.block (R + 2) (by omega)).trans h.m6, h.lt, Nat.le_trans h.his hg.size,
    fun j hj h1 h2 => (hbl.block j hj).trans (h.chg j hj h1 h2)⟩
/-- A new beginning: all that lies there now counts as what was. -/
theorem Bod.again (h : Bod B b bv s0 s w R Wi hi cs W) : Bod B b bv s0 s w R W W.heap.size cs W := ⟨h.was, h.m4, h.m5, h.m6, Nat.lt_of_lt_of_le h.lt h.his, Nat.le_refl _, fun _ _ _ _ => rfl⟩
end
def isStr : Value → Bool
  | .string _ => true
  | _ => false
/-- A slice of what begins with a string reads on. -/
theorem past_cell {B : Nat} {b : List UInt8} {bv : Value} {s0 s : Option Nat} {w : World} {R : Nat} {Wi : World} {hi : Nat} {cs cs0 : List Value} {W : World} (h : Bod B b bv s0 s w R Wi hi cs W) (hhi : Wi.heap.size = hi) {si : Option Nat} (hR : RdS B b bv si Wi) (hM : Block Wi R cs0.toArray 27) (hno : cs0.all (fun v => !isStr v) = true)
    {g off : Nat} {x : ByteArray} (hc : Wi.cell? ⟨g, off, none⟩ = some (.string x)) : W.heap[g]? = Wi.heap[g]? := by
  refine h.chg g (by have := cell_lt hc; simp only at this; omega) ?_ ?_
  · rintro rfl
    obtain ⟨at', e, hB, _, _⟩ := hR.ex
    obtain ⟨ao, cap, rfl, _⟩ := hR.read.form
    have c' : (rCells (.slice ao b.length cap) at' e)[off]? = some (.string x) := by
      have : Wi.cell? ⟨g, off, none⟩ = (rCells (.slice ao b.length cap) at' e)[off]? := by
        show (match Wi.heap[g]? with | some (.cells c _ _) => c[off]? | _ => none) = _
        rw [show Wi.heap[g]? = _ from hB]
      rw [← this]; exact hc
    unfold rCells at c'
    match off, c' with
    | 0, c' => simp at c'
    | 1, c' => simp at c'
    | 2, c' => simp at c'
    | n + 3, c' => simp at c'
  · rintro rfl
    have c' : cs0[off]? = some (.string x) := by
      have : Wi.cell? ⟨g, off, none⟩ = cs0.toArray[off]? := by
        show (match Wi.heap[g]? with | some (.cells c _ _) => c[off]? | _ => none) = _
        rw [show Wi.heap[g]? = _ from hM]
      rw [List.getElem?_toArray] at this
      rw [← this]; exact hc
    have := List.all_eq_true.1 hno _ (List.mem_of_getElem? c')
    simp [isStr] at this
theorem past_R {B : Nat} {b : List UInt8} {bv : Value} {s0 s : Option Nat} {w : World} {R : Nat} {Wi : World} {hi : Nat} {cs cs0 : List Value} {W : World} (h : Bod B b bv s0 s w R Wi hi cs W) (hhi : Wi.heap.size = hi) {si : Option Nat} (hR : RdS B b bv si Wi) (hM : Block Wi R cs0.toArray 27) (hno : cs0.all (fun v => !isStr v) = true)
    {v : Value} {l : List Rd.RR} (hv : ReadR v l Wi) : ReadR v l W := by
  obtain ⟨ao, cap, rfl, hc⟩ := hv.form
  refine ⟨ao, cap, rfl, fun j hj => ?_⟩
  obtain ⟨g, off, e, c0, c1, c2, c3, c4⟩ := hc j hj
  have hg := past_cell h hhi hR hM hno c0
  exact ⟨g, off, e, (World.cell?_of_block (a := ⟨g, _, none⟩) hg).trans c0, (World.cell?_of_block (a := ⟨g, _, none⟩) hg).trans c1, (World.cell?_of_block (a := ⟨g, _, none⟩) hg).trans c2, (World.cell?_of_block (a := ⟨g, _, none⟩) hg).trans c3, (World.cell?_of_block (a := ⟨g, _, none⟩) hg).trans c4⟩
theorem past_Q {B : Nat} {b : List UInt8} {bv : Value} {s0 s : Option Nat} {w : World} {R : Nat} {Wi : World} {hi : Nat} {cs cs0 : List Value} {W : World} (h : Bod B b bv s0 s w R Wi hi cs W) (hhi : Wi.heap.size = hi) {si : Option Nat} (hR : RdS B b bv si Wi) (hM : Block Wi R cs0.toArray 27) (hno : cs0.all (fun v => !isStr v) = true)
    {v : Value} {l : List Ms.Q} (hv : ReadQ v l Wi) : ReadQ v l W := by
  obtain ⟨ao, cap, rfl, hc⟩ := hv.form
  refine ⟨ao, cap, rfl, fun j hj => ?_⟩
  obtain ⟨g, off, e, c0, c1, c2⟩ := hc j hj
  have hg := past_cell h hhi hR hM hno c0
  exact ⟨g, off, e, (World.cell?_of_block (a := ⟨g, _, none⟩) hg).trans c0, (World.cell?_of_block (a := ⟨g, _, none⟩) hg).trans c1, (World.cell?_of_block (a := ⟨g, _, none⟩) hg).trans c2⟩
/-- A block that is filled, all else being as it was. -/
structure Fill (B : Nat) (b : List UInt8) (bv : Value) (s : Option Nat) (w : World) (R : Nat) (W0 : World) (cs : List Value) (W : World) : Prop where
  m : Mine B b bv s w R 27 cs W
  str : cs.all (fun v => !isStr v) = true
  oth : ∀ k, k ≠ R → W.heap[k]? = W0.heap[k]?
theorem Fill.set {B : Nat} {b : List UInt8} {bv : Value} {s : Option Nat} {w : World} {R : Nat} {W0 : World} {cs : List Value} {W : World} (h : Fill B b bv s w R W0 cs W) (i : Nat) (v : Value) (hv : isU8 v = false) (hs : isStr v = false) : Fill B b bv s w R W0 (cs.set i v) (W.setCell ⟨R, i, none⟩ v) where
  m := h.m.set i v hv
  str := by
    rw [List.all_eq_true]
    intro x hx
    rcases List.mem_or_eq_of_mem_set hx with hx | rfl
    · exact List.all_eq_true.1 h.str x hx
    · rw [hs]; rfl
  oth := fun k hk => (Below.heap_setCell W ⟨R, i, none⟩ v k hk).trans (h.oth k hk)
theorem Fill.drew {B : Nat} {b : List UInt8} {bv : Value} {s : Option Nat} {w : World} {R : Nat} {W0 : World} {cs : List Value} {W : World} (h : Fill B b bv s w R W0 cs W) : Fill B b bv s w R W0 cs W.drew := ⟨h.m.drew, h.str, h.oth⟩
theorem no_str {W : World} {R : Nat} {cs : List Value} {t : TypeId} (hB : Block W R cs.toArray t) (hno : cs.all (fun v => !isStr v) = true) {g off : Nat} {x : ByteArray} (hc : W.cell? ⟨g, off, none⟩ = some (.string x)) : g ≠ R := by
  rintro rfl
  have c' : cs[off]? = some (.string x) := by
    have : W.cell? ⟨g, off, none⟩ = cs.toArray[off]? := by
      show (match W.heap[g]? with | some (.cells c _ _) => c[off]? | _ => none) = _
      rw [show W.heap[g]? = _ from hB]
    rw [List.getElem?_toArray] at this
    rw [← this]; exact hc
  have := List.all_eq_true.1 hno _ (List.mem_of_getElem? c')
  simp [isStr] at this
theorem fill_R {R : Nat} {W W' : World} {cs : List Value} {t : TypeId} (hB : Block W R cs.toArray t) (hno : cs.all (fun v => !isStr v) = true) (ho : ∀ k, k ≠ R → W'.heap[k]? = W.heap[k]?) {v : Value} {l : List Rd.RR} (hv : ReadR v l W) : ReadR v l W' := by
  obtain ⟨ao, cap, rfl, hc⟩ := hv.form
  refine ⟨ao, cap, rfl, fun j hj => ?_⟩
  obtain ⟨g, off, e, c0, c1, c2, c3, c4⟩ := hc j hj
  have hg := ho g (no_str hB hno c0)
  exact ⟨g, off, e, (World.cell?_of_block (a := ⟨g, _, none⟩) hg).trans c0, (World.cell?_of_block (a := ⟨g, _, none⟩) hg).trans c1, (World.cell?_of_block (a := ⟨g, _, none⟩) hg).trans c2, (World.cell?_of_block (a := ⟨g, _, none⟩) hg).trans c3, (World.cell?_of_block (a := ⟨g, _, none⟩) hg).trans c4⟩
theorem fill_Q {R : Nat} {W W' : World} {cs : List Value} {t : TypeId} (hB : Block W R cs.toArray t) (hno : cs.all (fun v => !isStr v) = true) (ho : ∀ k, k ≠ R → W'.heap[k]? = W.heap[k]?) {v : Value} {l : List Ms.Q} (hv : ReadQ v l W) : ReadQ v l W' := by
  obtain ⟨ao, cap, rfl, hc⟩ := hv.form
  refine ⟨ao, cap, rfl, fun j hj => ?_⟩
  obtain ⟨g, off, e, c0, c1, c2⟩ := hc j hj
  have hg := ho g (no_str hB hno c0)
  exact ⟨g, off, e, (World.cell?_of_block (a := ⟨g, _, none⟩) hg).trans c0, (World.cell?_of_block (a := ⟨g, _, none⟩) hg).trans c1, (World.cell?_of_block (a := ⟨g, _, none⟩) hg).trans c2⟩
end Go.Proofs.Ytfmghbmbahembaa
