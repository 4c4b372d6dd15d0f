/- 24 texts put together: Appk, Ow, Rk, Mda, Mdb, Mal, Rle, QuietRound, SlotsIn, Tail, SlotsT, Mfr, Rul, Mvl, Mam, Mtb, Mtc, Mtd, Mte, Mtf, Mtg, Mth, Mti, Mtj. -/
import Derived.RangeFuncBox
import Derived.Deep.AppendSrc
import Derived.Deep.Upon
import Derived.BigQuiet
import Derived.Deep.RegionHeld3
import Derived.BigRegion
import Derived.Sort.BigQuietIn
import Derived.Below
import Derived.RangeFuncCalls
import Derived.StillTail
import Derived.IntWalk
import Derived.Maps.AppendAt
import Derived.Deep.CutBlock
import Derived.Deep.RegionLaw
import Derived.Test.YtdbaocphglijbaaDoorJB17
import Derived.Test.YtdbaocphglijbaaDoorJB20
import Derived.Test.YtdbaocphglijbaaDoorJB6
import Derived.Test.YtdbaocphglijbaaDoorJB7
import Derived.Test.YtdbaocphglijbaaDoorJB18
import Derived.Test.YtdbaocphglijbaaDoorJB26
/- append onto a slice of structs that the call owns (any element). -/
set_option maxRecDepth 100000
namespace Go.Proofs.YtdbaocphglijbaaDoor
open Go Go.RowKit

theorem flat_get {α : Type} (enc : α → List Value) (k : Nat) (hk : ∀ x, (enc x).length = k) : ∀ (l : List α) (j i : Nat) (hj : j < l.length), i < k → (l.flatMap enc)[j * k + i]? = (enc l[j])[i]?
  | [], j, i, hj, _ => by simp at hj
  | x :: l, 0, i, _, hi => by
    rw [List.flatMap_cons, List.getElem?_append_left (by rw [hk]; omega), Nat.zero_mul, Nat.zero_add]
    rfl
  | x :: l, j + 1, i, hj, hi => by
    have e : (j + 1) * k + i = k + (j * k + i) := by rw [Nat.add_mul]; omega
    rw [List.flatMap_cons, List.getElem?_append_right (by rw [hk]; omega), hk, e, Nat.add_sub_cancel_left]
    exact flat_get enc k hk l j i (by simpa using hj) hi
theorem flat_len {α : Type} (enc : α → List Value) (k : Nat) (hk : ∀ x, (enc x).length = k) (l : List α) : (l.flatMap enc).length = l.length * k := by
  induction l with
  | nil => simp
  | cons x l ih => rw [List.flatMap_cons, List.length_append, hk, ih, List.length_cons, Nat.add_mul]; omega

/-- A slice of elements of k cells that the call owns, from block base on. -/
def OwnK {α : Type} (enc : α → List Value) (k : Nat) (e : TypeId) (base : Nat) (v : Value) (l : List α) (W : World) : Prop := W.ownsRow base e k v l.length (l.flatMap enc)
theorem ownK_nil {α : Type} (enc : α → List Value) (k : Nat) (e : TypeId) (base : Nat) (W : World) : OwnK enc k e base (.slice none 0 0) [] W := World.ownsRow_nil W base e k
theorem ownK_grown {α : Type} {enc : α → List Value} {k : Nat} {e : TypeId} {base : Nat} {v : Value} {l : List α} {W W' : World} {row : Option Nat} (h : OwnK enc k e base v l W) (hg : W.grownBy W' row) (hr : ∀ g, v.ownBlock = some g → row ≠ some g) : OwnK enc k e base v l W' :=
  World.ownsRow.kept h hg (by
    cases hv : v.ownBlock with
    | none => exact .inl rfl
    | some g => exact .inr (fun e => hr g hv e.symm))
theorem ownK_below {α : Type} {enc : α → List Value} {k : Nat} {e : TypeId} {base : Nat} {v : Value} {l : List α} {W W' : World} (h : OwnK enc k e base v l W) (hb : Below W.heap.size W W') : OwnK enc k e base v l W' :=
  ownK_grown (row := none) h ⟨hb.os, hb.tape, hb.output, hb.size, fun k hk _ => hb.block k hk⟩ (fun _ _ e => by cases e)
theorem ownK_alloc {α : Type} {enc : α → List Value} {k : Nat} {e : TypeId} {base : Nat} {v : Value} {l : List α} {W : World} (h : OwnK enc k e base v l W) (o : Obj) : OwnK enc k e base v l (W.alloc o) := World.ownsRow.alloc h o
/-- What lies in a row of the type e, and what lies in a box of another. -/
theorem ownK_box {α : Type} {enc : α → List Value} {k : Nat} {e : TypeId} {base : Nat} {v : Value} {l : List α} {W : World} (h : OwnK enc k e base v l W) {B : Nat} {t : TypeId} {u : Value} (hb : Boxed W B t u) (hte : t ≠ e) : v.ownBlock ≠ some B := by
  rcases h.2 with ⟨rfl, _⟩ | ⟨g, cap, cur, rfl, _, hh, _⟩
  · simp [Value.ownBlock]
  · intro e1
    simp only [Value.ownBlock, Option.some.injEq] at e1
    subst e1
    have hx : W.heap[g]? = some (.cells #[u] t (0, 0)) := hb
    rw [hh] at hx
    injection hx with hx
    injection hx with _ h2
    exact hte h2.symm
theorem ownK_form {α : Type} {enc : α → List Value} {k : Nat} {e : TypeId} {base : Nat} {v : Value} {l : List α} {W : World} (h : OwnK enc k e base v l W) : ∃ ao cap, v = .slice ao l.length cap ∧ (l ≠ [] → ∃ g, ao = some ⟨g, 0, none⟩) := by
  rcases h.2 with ⟨rfl, hn⟩ | ⟨g, cap, cur, rfl, _⟩
  · exact ⟨none, 0, by rw [List.length_eq_zero_iff.1 hn]; rfl, fun hl => absurd (List.length_eq_zero_iff.1 hn) hl⟩
  · exact ⟨some ⟨g, 0, none⟩, cap, rfl, fun _ => ⟨g, rfl⟩⟩
theorem ownK_cell {α : Type} {enc : α → List Value} {k : Nat} (hk : ∀ x, (enc x).length = k) {e : TypeId} {base g cap n : Nat} {l : List α} {W : World} (h : OwnK enc k e base (.slice (some ⟨g, 0, none⟩) n cap) l W) {j i : Nat} (hj : j < l.length) (hi : i < k) :
    W.cell? ⟨g, 0 + j * k + i, none⟩ = (enc l[j])[i]? := by
  have hx := flat_get enc k hk l j i hj hi
  obtain ⟨u, hu⟩ : ∃ u, (enc l[j])[i]? = some u := ⟨_, List.getElem?_eq_getElem (by rw [hk l[j]]; exact hi)⟩
  have := World.ownsRow.cells h (g := g) rfl (j * k + i) u (by rw [hx, hu])
  have e1 : (⟨g, 0, none⟩ : Addr).add (j * k + i) = ⟨g, 0 + (j * k + i), none⟩ := by unfold Addr.add; split <;> simp_all
  rw [e1] at this
  rw [hu, ← this, Nat.add_assoc]

theorem run_apk {α : Type} {P : Program} (enc : α → List Value) (k : Nat) (hk : ∀ x, (enc x).length = k) (h0 : 0 < k) (henc : ∀ x, ∀ u ∈ enc x, u.oneCell' = true) (w : World) (base : Nat) (t ty e : TypeId) (z : Value) (bytes : Nat) (h1 : P.underlying t = some (.slice e))
    (h2 : (P.info? e).map (fun i => (i.zero, i.size, i.bytes)) = some (some z, k, bytes)) (hz : z.cells.size = k) (v : Value) (l : List α) (hown : OwnK enc k e base v l w) (ad : Addr) (m c : Nat) (news : List α) (hm : news.length = m)
    (hc : ∀ j u, (news.flatMap enc)[j]? = some u → w.cell? (ad.add j) = some u) (b1 : l.length + m ≤ 1000000) (b2 : bytes ≤ 1000) (hb : base ≤ w.heap.size) :
    ∃ v' w', (Builtin.append_ #[t, t] ty #[v, .slice (some ad) m c]).run P w = .ok v' w' ∧ OwnK enc k e base v' (l ++ news) w' ∧ w.grownBy w' v.ownBlock ∧ (v'.ownBlock = v.ownBlock ∨ v'.ownBlock = some w.heap.size) := by
  obtain ⟨i, hi, hz0, hz1, hz2⟩ := info_parts h2
  have hlim : (l.length + m) * bytes ≤ 140737488355328 := Nat.le_trans (Nat.mul_le_mul b1 b2) (by decide)
  have hmax : l.length + m ≤ maxLen := Nat.le_trans b1 (by unfold maxLen; decide)
  have h1c : ∀ u ∈ news.flatMap enc, u.oneCell' = true := fun u hu => by obtain ⟨x, _, hx⟩ := List.mem_flatMap.1 hu; exact henc x u hx
  obtain ⟨v', w', hr, ho, hg, _, hat⟩ := run_append_own_at (P := P) w base t ty e i z k bytes h1 hi hz0 hz1 hz2 hz h0 v l.length (l.flatMap enc) hown ad m c (news.flatMap enc) (by rw [flat_len enc k hk, hm]) hc h1c hmax hlim hb
  exact ⟨v', w', hr, by unfold OwnK; rw [List.flatMap_append, List.length_append, hm]; exact ho, hg, hat⟩

/-- At the operation. -/
theorem wpListIn_apk {α : Type} {P : Program} {F : Fence} {n : Nat} (w : World) {ops : Array Oper} {rest : List Oper} {o : Oper} {a : Act} {Q : Exit → Act → World → Prop} (hg : o.guard = none) (s x : Operand) (t : TypeId)
    (hop : o.op = Op.call { callee := Callee.builtin Builtin.append, args := #[s, x], argTypes := #[t, t] })
    (enc : α → List Value) (k : Nat) (hk : ∀ x, (enc x).length = k) (h0 : 0 < k) (henc : ∀ x, ∀ u ∈ enc x, u.oneCell' = true) (base : Nat) (e : TypeId) (z : Value) (bytes : Nat) (h1 : P.underlying t = some (.slice e))
    (h2 : (P.info? e).map (fun i => (i.zero, i.size, i.bytes)) = some (some z, k, bytes)) (hz : z.cells.size = k) (v : Value) (l : List α) (hs : a.eval s = v) (hown : OwnK enc k e base v l w) (ad : Addr) (m c : Nat) (news : List α) (hx : a.eval x = .slice (some ad) m c) (hm : news.length = m)
    (hc : ∀ j u, (news.flatMap enc)[j]? = some u → w.cell? (ad.add j) = some u) (b1 : l.length + m ≤ 1000000) (b2 : bytes ≤ 1000) (hb : base ≤ w.heap.size)
    (hK : ∀ v' w', OwnK enc k e base v' (l ++ news) w' → w.grownBy w' v.ownBlock → (v'.ownBlock = v.ownBlock ∨ v'.ownBlock = some w.heap.size) → wpListIn F n P ops Q rest (a.put o.dst v') w') :
    wpListIn F n P ops Q (o :: rest) a w := by
  refine wpListIn_plain hg fun K hK' => ?_
  obtain ⟨v', w', hrun, r1, r2, r3⟩ := run_apk (P := P) enc k hk h0 henc w base t o.type e z bytes h1 h2 hz v l hown ad m c news hm hc b1 b2 hb
  unfold Oper.wpIn
  refine ⟨?_, ?_⟩
  · simp [Oper.about, hop, resolve, Target.leads, Sem.run_pure]
  · rw [Oper.semAt_plain F _ _ (by rw [hop]; intro c hc'; cases hc')]
    simp [execOp, hop, resolve, invoke, builtin, hs, hx, hrun, Result.andThen]
    exact hK' _ _ (hK v' w' r1 r2 r3)
theorem below_ownK {α : Type} {enc : α → List Value} {k : Nat} {e : TypeId} {base : Nat} {v : Value} {l : List α} {w w' : World} (h : OwnK enc k e base v l w) (hg : w.grownBy w' v.ownBlock) (hb : base ≤ w.heap.size) : Below base w w' :=
  (Below.refl base w).grown hg hb (fun k e => (World.ownsRow.lt h k e).1)

theorem flat_at {α : Type} (enc : α → List Value) (k : Nat) (hk : ∀ x, (enc x).length = k) (h0 : 0 < k) (l : List α) (j : Nat) (u : Value) (h : (l.flatMap enc)[j]? = some u) : ∃ (hj : j / k < l.length), (enc l[j / k])[j % k]? = some u := by
  have hlt : j < l.length * k := by
    rw [← flat_len enc k hk l]
    exact (List.getElem?_eq_some_iff.1 h).1
  have hj : j / k < l.length := Nat.div_lt_of_lt_mul (by rw [Nat.mul_comm]; exact hlt)
  refine ⟨hj, ?_⟩
  have e := flat_get enc k hk l (j / k) (j % k) hj (Nat.mod_lt _ h0)
  rw [Nat.mul_comm, Nat.div_add_mod] at e
  rw [← e]; exact h
end Go.Proofs.YtdbaocphglijbaaDoor

/- Rows of a law's own beside its arena: what they hold, through the arena's calls, stores and appends. -/
set_option maxRecDepth 100000
namespace Go.Proofs.YtdbaocphglijbaaDoor
open Go.RowKit Go.Shelf
/-- A block that can be none of an arena's. -/
def Foreign (w : World) (k : Nat) : Prop := ∃ c e z, w.heap[k]? = some (.cells c e z) ∧ e ≠ 95 ∧ e ≠ 5 ∧ e ≠ 21 ∧ e ≠ 126 ∧ e ≠ 142
theorem Foreign.not {w : World} {k : Nat} {l : List Value} {t : TypeId} (h : Foreign w k) (hb : Blk w k l t) (ht : t = 95 ∨ t = 5 ∨ t = 21 ∨ t = 126 ∨ t = 142) : False := by
  obtain ⟨c, e, z, h1, h2, h3, h4, h5, h6⟩ := h
  have := (show w.heap[k]? = _ from hb).symm.trans h1
  injection this with this
  injection this with _ this
  subst this
  rcases ht with ht | ht | ht | ht | ht <;> contradiction
theorem HX.turn {x y : Nat → Prop} {A B : Nat} {L : List Bl} {n0 : Nat} {w w' : World} (h : HX x A B L n0 w) (hk : ∀ k, k < w.heap.size → ¬ x k → w'.heap[k]? = w.heap[k]?) (hb : Below n0 w w')
    (hy : ∀ k, y k → n0 ≤ k ∧ k < w'.heap.size ∧ (x k ∨ w.heap.size ≤ k ∨ Foreign w' k)) : HX y A B L n0 w' := by
  obtain ⟨bs, ⟨L', S, pcs, a, I, e, m⟩, hv⟩ := h.ex
  have hs := hb.size
  have one : ∀ (K : Nat) (l : List Value) (t : TypeId), (t = 95 ∨ t = 5 ∨ t = 21 ∨ t = 126 ∨ t = 142) → Blk w K l t → fx x n0 w K → Blk w' K l t ∧ fx y n0 w' K := fun K l t ht hbk hf => by
    have hB := hbk.kept (hk K hf.2.1 hf.2.2)
    refine ⟨hB, hf.1, Nat.lt_of_lt_of_le hf.2.1 hs, fun e => ?_⟩
    rcases (hy K e).2.2 with h1 | h1 | h1
    · exact hf.2.2 h1
    · have := hf.2.1; omega
    · exact h1.not hB ht
  obtain ⟨b1, f1⟩ := one _ _ _ (.inl rfl) a.box a.fA
  obtain ⟨b2, f2⟩ := one _ _ _ (.inr (.inl rfl)) a.mem a.fM
  obtain ⟨b3, f3⟩ := one _ _ _ (.inr (.inr (.inl rfl))) a.pl a.fP
  obtain ⟨b4, f4⟩ := one _ _ _ (.inr (.inr (.inr (.inl rfl)))) a.us a.fU
  obtain ⟨b5, f5⟩ := one _ _ _ (.inr (.inr (.inr (.inr rfl)))) a.nd a.fN
  exact ⟨⟨bs, ⟨L', S, pcs, ⟨b1, b2, b3, b4, b5, a.cap, a.cm, f1, f2, f3, f4, f5, fun k e => e.2.1⟩, I, e, m⟩, hv⟩, Nat.le_trans h.low hs, fun k e => (hy k e).2.1, fun k e => (hy k e).1, h.tab.below h.tlt hb, h.tlt⟩
/-- A row of the law's own. -/
structure RowIn (x : Nat → Prop) (n0 : Nat) (e : TypeId) (v : Value) (cs : List Value) (w : World) : Prop where
  own : w.ownsRow n0 e 1 v cs.length cs
  isIn : ∀ k, v.ownBlock = some k → x k
theorem ownsRow_same {w w' : World} {n0 : Nat} {e : TypeId} {v : Value} {n : Nat} {cs : List Value} (h : w.ownsRow n0 e 1 v n cs) (hk : ∀ k, v.ownBlock = some k → w'.heap[k]? = w.heap[k]?) : w'.ownsRow n0 e 1 v n cs := by
  refine ⟨h.1, ?_⟩
  rcases h.2 with h2 | ⟨g, cap, cur, rfl, h3, h4, h5⟩
  · exact .inl h2
  · exact .inr ⟨g, cap, cur, rfl, h3, (hk g rfl).trans h4, h5⟩
theorem RowIn.lx {x : Nat → Prop} {A B : Nat} {L : List Bl} {n0 : Nat} {e : TypeId} {v : Value} {cs : List Value} {w w' : World} (h : RowIn x n0 e v cs w) (k : LX x A B L n0 w w') : RowIn x n0 e v cs w' :=
  ⟨ownsRow_same h.own fun j hj => k.own j (h.isIn j hj), h.isIn⟩
theorem RowIn.below {x : Nat → Prop} {n0 : Nat} {e : TypeId} {v : Value} {cs : List Value} {w w' : World} (h : RowIn x n0 e v cs w) (hb : Below w.heap.size w w') : RowIn x n0 e v cs w' :=
  ⟨ownsRow_same h.own fun j hj => hb.block j (h.own.lt j hj).2, h.isIn⟩
theorem RowIn.same {x : Nat → Prop} {n0 : Nat} {e : TypeId} {v : Value} {cs : List Value} {w w' : World} (h : RowIn x n0 e v cs w) (hk : ∀ k, v.ownBlock = some k → w'.heap[k]? = w.heap[k]?) : RowIn x n0 e v cs w' := ⟨ownsRow_same h.own hk, h.isIn⟩
theorem RowIn.more {x y : Nat → Prop} {n0 : Nat} {e : TypeId} {v : Value} {cs : List Value} {w : World} (h : RowIn x n0 e v cs w) (hy : ∀ k, x k → y k) : RowIn y n0 e v cs w := ⟨h.own, fun k hk => hy k (h.isIn k hk)⟩
theorem RowIn.nil (x : Nat → Prop) (n0 : Nat) (e : TypeId) (w : World) : RowIn x n0 e (.slice none 0 0) [] w := ⟨World.ownsRow_nil w n0 e 1, fun k hk => by cases hk⟩
theorem RowIn.form {x : Nat → Prop} {n0 : Nat} {e : TypeId} {v : Value} {cs : List Value} {w : World} (h : RowIn x n0 e v cs w) : ∃ ao c, v = .slice ao cs.length c ∧ cs.length ≤ c := by
  rcases h.own.2 with ⟨rfl, hn⟩ | ⟨g, cap, cur, rfl, _, _, h5, _⟩
  · exact ⟨none, 0, by rw [hn], by omega⟩
  · exact ⟨_, cap, rfl, h5⟩
theorem RowIn.at_ {x : Nat → Prop} {n0 : Nat} {e : TypeId} {ao : Option Addr} {n c : Nat} {cs : List Value} {w : World} (h : RowIn x n0 e (.slice ao n c) cs w) {i : Nat} {u : Value} (hu : cs[i]? = some u) : ∃ g, ao = some ⟨g, 0, none⟩ ∧ w.cell? ⟨g, i, none⟩ = some u ∧ w.frozen? ⟨g, i, none⟩ = false ∧ n0 ≤ g ∧ x g := by
  have hlt : i < cs.length := (List.getElem?_eq_some_iff.1 hu).1
  have ho := h.own
  rcases ho.2 with ⟨e1, hn⟩ | ⟨g, cap, cur, e1, h3, _⟩
  · omega
  · cases e1
    refine ⟨g, rfl, ?_, World.ownsRow.frozenAt ho i, h3, h.isIn g rfl⟩
    have := World.ownsRow.cellAt ho i (by omega)
    rw [this, hu]
theorem ownBlock_slice (g n c : Nat) : (Value.slice (some ⟨g, 0, none⟩) n c).ownBlock = some g := rfl
/-- A store into a row. -/
theorem RowIn.put {x : Nat → Prop} {n0 : Nat} {e : TypeId} {g n c : Nat} {cs : List Value} {w : World} (h : RowIn x n0 e (.slice (some ⟨g, 0, none⟩) n c) cs w) (i : Nat) (u : Value) : RowIn x n0 e (.slice (some ⟨g, 0, none⟩) n c) (cs.set i u) (w.setCell ⟨g, i, none⟩ u) := by
  refine ⟨?_, h.isIn⟩
  have hn : n = cs.length := by
    rcases h.own.2 with ⟨e1, _⟩ | ⟨g', cap, cur, e1, _⟩
    · cases e1
    · cases e1; rfl
  have ho := h.own
  rw [← hn] at ho
  have := World.ownsRow.stored ho i u
  rw [List.length_set, ← hn]
  exact this.1
theorem RowIn.other {x : Nat → Prop} {n0 : Nat} {e : TypeId} {v : Value} {cs : List Value} {w : World} (h : RowIn x n0 e v cs w) {g : Nat} (hg : v.ownBlock ≠ some g) (i : Nat) (u : Value) : RowIn x n0 e v cs (w.setCell ⟨g, i, none⟩ u) :=
  h.same fun k hk => Below.heap_setCell w ⟨g, i, none⟩ u k (fun e => hg (by rw [hk]; exact congrArg some e))
/-- Rows of unlike types are not one. -/
theorem rows_apart {x y : Nat → Prop} {n0 n1 : Nat} {e e' : TypeId} {v v' : Value} {cs cs' : List Value} {w : World} (h : RowIn x n0 e v cs w) (h' : RowIn y n1 e' v' cs' w) (he : e ≠ e') {g : Nat} (hg : v'.ownBlock = some g) : v.ownBlock ≠ some g := fun e0 => by
  rcases h.own.2 with ⟨rfl, _⟩ | ⟨a, cap, cur, rfl, _, h4, _⟩
  · cases e0
  · rcases h'.own.2 with ⟨rfl, _⟩ | ⟨b, cap', cur', rfl, _, h4', _⟩
    · cases hg
    · cases e0
      cases hg
      rw [h4] at h4'
      injection h4' with h4'
      injection h4' with _ h4'
      exact he h4'
theorem rowMono {w : World} {n0 n1 : Nat} {e : TypeId} {v : Value} {n : Nat} {cs : List Value} (h : w.ownsRow n1 e 1 v n cs) (hb : n0 ≤ n1) : w.ownsRow n0 e 1 v n cs := by
  refine ⟨h.1, ?_⟩
  rcases h.2 with h2 | ⟨g, cap, cur, rfl, h3, h4⟩
  · exact .inl h2
  · exact .inr ⟨g, cap, cur, rfl, Nat.le_trans hb h3, h4⟩
/-- A row that Read told, or that was made: it is the law's own from then on. -/
theorem HX.take {x : Nat → Prop} {A B : Nat} {L : List Bl} {n0 : Nat} {e : TypeId} {v : Value} {n : Nat} {cs : List Value} {w w' : World} (h : HX x A B L n0 w) (hb : Below w.heap.size w w') (hr : w'.ownsRow w.heap.size e 1 v n cs) (hn : n = cs.length) :
    HX (fun k => x k ∨ v.ownBlock = some k) A B L n0 w' ∧ RowIn (fun k => x k ∨ v.ownBlock = some k) n0 e v cs w' := by
  subst hn
  refine ⟨h.turn (fun k hk _ => hb.block k hk) (hb.mono h.low) fun k hk => ?_, rowMono hr h.low, fun k hk => .inr hk⟩
  rcases hk with hk | hk
  · exact ⟨h.xlow k hk, Nat.lt_of_lt_of_le (h.xlt k hk) hb.size, .inl hk⟩
  · have := hr.lt k hk
    exact ⟨Nat.le_trans h.low this.1, this.2, .inr (.inl this.1)⟩
/-- An append to a row of numbers. -/
theorem apd_int {x : Nat → Prop} {A B : Nat} {L : List Bl} {n0 : Nat} {v : Value} {l : List Nat} {w : World} (h : HX x A B L n0 w) (hr : RowIn x n0 3 v (l.map encI) w) (hl : l.length ≤ 900000) (k : Nat) :
    ∃ v' w', (Builtin.append_ #[54, 54] 54 #[v, .slice (some ⟨w.heap.size, 0, none⟩) 1 1]).run Tryd.prog (w.alloc (.cells #[encI k] 3)) = .ok v' w' ∧ HX (fun j => x j ∨ v'.ownBlock = some j) A B L n0 w' ∧ RowIn (fun j => x j ∨ v'.ownBlock = some j) n0 3 v' ((l ++ [k]).map encI) w' ∧ Below n0 w w' ∧ (∀ j, j < w.heap.size → v.ownBlock ≠ some j → w'.heap[j]? = w.heap[j]?) ∧ (∀ g, v'.ownBlock = some g → Foreign w' g) := by
  have hown : OwnE encI 3 n0 v l w := by unfold OwnE; have := hr.own; rwa [List.length_map] at this
  have hown2 : OwnE encI 3 n0 v l (w.alloc (.cells #[encI k] 3)) := ownE_alloc hown _
  have hlow : n0 ≤ (w.alloc (.cells #[encI k] 3)).heap.size := by rw [World.size_alloc]; exact Nat.le_succ_of_le h.low
  obtain ⟨v', w', hrun, ho, ha, _⟩ := run_apd (P := Tryd.prog) encI encI_one (w.alloc (.cells #[encI k] 3)) n0 54 54 3 (.int .i64 0) 8 Tryd.underlying54 infoInt rfl v l hown2 ⟨w.heap.size, 0, none⟩ 1 1 [k] rfl (fun j u hj => cells_new w [encI k] 3 j u hj) (by omega) (by omega) hlow
  have hb : Below n0 w w' := ((Below.refl n0 w).alloc h.low _).trans ha.below
  have hsm : ∀ j, j < w.heap.size → v.ownBlock ≠ some j → w'.heap[j]? = w.heap[j]? := fun j hj hne => by
    have e1 := Below.heap_alloc w (.cells #[encI k] 3) j hj
    obtain ⟨o, ho⟩ : ∃ o, w.heap[j]? = some o := ⟨w.heap[j], Array.getElem?_eq_getElem hj⟩
    rw [ho]
    exact ha.other j o (fun e => hne e.symm) (e1.trans ho)
  have ho' : w'.ownsRow n0 3 1 v' ((l ++ [k]).map encI).length ((l ++ [k]).map encI) := by rw [List.length_map]; exact ho
  have hfor : ∀ g, v'.ownBlock = some g → Foreign w' g := fun g hg => by
    rcases ho'.2 with ⟨rfl, _⟩ | ⟨g', cap, cur, rfl, _, h4, _⟩
    · cases hg
    · cases hg
      exact ⟨_, _, _, h4, by decide, by decide, by decide, by decide, by decide⟩
  refine ⟨v', w', hrun, h.turn (fun j hj hne => hsm j hj (fun e => hne (hr.isIn j e))) hb fun j hj => ?_, ⟨ho', fun j hj => .inr hj⟩, hb, hsm, hfor⟩
  rcases hj with hj | hj
  · exact ⟨h.xlow j hj, Nat.lt_of_lt_of_le (h.xlt j hj) hb.size, .inl hj⟩
  · have hlt := ho.lt j hj
    exact ⟨hlt.1, hlt.2, .inr (.inr (hfor j hj))⟩
theorem wpList_apdI {w : World} {ops : Array Oper} {rest : List Oper} {o : Oper} {a : Act} {Q : Exit → Act → World → Prop} (hg : o.guard = none) (s z : Operand)
    (hop : o.op = Op.call { callee := Callee.builtin Builtin.append, args := #[s, z], argTypes := #[54, 54] }) (hty : o.type = 54) {x : Nat → Prop} {A B : Nat} {L : List Bl} {n0 : Nat} {v : Value} {l : List Nat} (w0 : World) (hs : a.eval s = v)
    (h : HX x A B L n0 w0) (hr : RowIn x n0 3 v (l.map encI) w0) (hl : l.length ≤ 900000) (k : Nat) (u : Value) (hw : w = w0.alloc (.cells #[u] 3)) (hu : u = encI k) (hz : a.eval z = .slice (some ⟨w0.heap.size, 0, none⟩) 1 1)
    (hK : ∀ v' w', HX (fun j => x j ∨ v'.ownBlock = some j) A B L n0 w' → RowIn (fun j => x j ∨ v'.ownBlock = some j) n0 3 v' ((l ++ [k]).map encI) w' → Below n0 w0 w' → (∀ j, j < w0.heap.size → v.ownBlock ≠ some j → w'.heap[j]? = w0.heap[j]?) → (∀ g, v'.ownBlock = some g → Foreign w' g) → wpList Tryd.prog ops Q rest (a.put o.dst v') w') :
    wpList Tryd.prog ops Q (o :: rest) a w := by
  subst hw hu
  refine wpList_plain hg fun K hK' => ?_
  obtain ⟨v', w', hrun, r1, r2, r3, r4, r5⟩ := apd_int h hr hl k
  unfold Oper.wp
  simp [execOp, hop, hty, resolve, invoke, builtin, hs, hz, hrun, Result.andThen]
  exact hK' _ _ (hK v' w' r1 r2 r3 r4 r5)
end Go.Proofs.YtdbaocphglijbaaDoor

/- A slice of any elements that is read, in blocks that lie within x. -/
set_option maxRecDepth 100000
namespace Go.Proofs.YtdbaocphglijbaaDoor
open Go Go.RowKit Go.Shelf
structure RK {α : Type} (enc : α → List Value) (x : Nat → Prop) (v : Value) (l : List α) (W : World) : Prop where
  form : ∃ ao cap, v = .slice ao l.length cap ∧ l.length ≤ cap ∧ ∀ j u, (l.flatMap enc)[j]? = some u → ∃ b off, ao = some ⟨b, off, none⟩ ∧ x b ∧ W.cell? ⟨b, off + j, none⟩ = some u
theorem cell_same {W W' : World} {b : Nat} (h : W'.heap[b]? = W.heap[b]?) (i : Nat) : W'.cell? ⟨b, i, none⟩ = W.cell? ⟨b, i, none⟩ := by
  show (match W'.heap[b]? with | some (.cells c _ _) => c[i]? | _ => none) = (match W.heap[b]? with | some (.cells c _ _) => c[i]? | _ => none)
  rw [h]
section
variable {α : Type} {enc : α → List Value} {x y : Nat → Prop} {v : Value} {l : List α} {W W' : World}
theorem RK.same (h : RK enc x v l W) (hk : ∀ b, x b → W'.heap[b]? = W.heap[b]?) : RK enc x v l W' := by
  obtain ⟨ao, cap, e, hc, hf⟩ := h.form
  exact ⟨ao, cap, e, hc, fun j u hu => by
    obtain ⟨b, off, e, hx, c⟩ := hf j u hu
    exact ⟨b, off, e, hx, (cell_same (hk b hx) _).trans c⟩⟩
theorem RK.below (h : RK enc x v l W) (hb : Below W.heap.size W W') : RK enc x v l W' := by
  obtain ⟨ao, cap, e, hc, hf⟩ := h.form
  exact ⟨ao, cap, e, hc, fun j u hu => by
    obtain ⟨b, off, e, hx, c⟩ := hf j u hu
    exact ⟨b, off, e, hx, (hb.cell (cell_lt c)).trans c⟩⟩
theorem RK.mono (h : RK enc x v l W) (hxy : ∀ b, x b → y b) : RK enc y v l W := by
  obtain ⟨ao, cap, e, hc, hf⟩ := h.form
  exact ⟨ao, cap, e, hc, fun j u hu => by
    obtain ⟨b, off, e, hx, c⟩ := hf j u hu
    exact ⟨b, off, e, hxy b hx, c⟩⟩
theorem RK.nil (enc : α → List Value) (x : Nat → Prop) (W : World) : RK enc x (.slice none 0 0) [] W := ⟨none, 0, rfl, Nat.le_refl _, fun j u hu => by simp at hu⟩
theorem RK.own {k : Nat} {e : TypeId} {base : Nat} (h : OwnK enc k e base v l W) (hx : ∀ b, v.ownBlock = some b → x b) : RK enc x v l W := by
  rcases h.2 with ⟨rfl, hn⟩ | ⟨g, cap, cur, rfl, _, _, hle, _⟩
  · rw [List.length_eq_zero_iff] at hn
    subst hn
    exact RK.nil enc x W
  · refine ⟨some ⟨g, 0, none⟩, cap, rfl, hle, fun j u hu => ⟨g, 0, rfl, hx g rfl, ?_⟩⟩
    have := World.ownsRow.cells h (g := g) rfl j u hu
    have e : (⟨g, 0, none⟩ : Addr).add j = ⟨g, 0 + j, none⟩ := by unfold Addr.add; split <;> simp_all
    rwa [e] at this
/-- A field of an element. -/
theorem RK.at_ {k : Nat} (hk : ∀ a, (enc a).length = k) {ao : Option Addr} {n cap : Nat} (h : RK enc x (.slice ao n cap) l W) {i f : Nat} (hi : i < l.length) (hf : f < k) : ∃ b off, ao = some ⟨b, off, none⟩ ∧ x b ∧ W.cell? ⟨b, off + (i * k + f), none⟩ = (enc l[i])[f]? := by
  obtain ⟨ao', cap', e, hc, hfm⟩ := h.form
  cases e
  have h1 := flat_get enc k hk l i f hi hf
  obtain ⟨u, hu⟩ : ∃ u, (enc l[i])[f]? = some u := ⟨(enc l[i])[f]'(by rw [hk]; exact hf), List.getElem?_eq_getElem _⟩
  obtain ⟨b, off, e, hx, c⟩ := hfm (i * k + f) u (by rw [h1, hu])
  exact ⟨b, off, e, hx, by rw [c, hu]⟩
theorem RK.len {ao : Option Addr} {n cap : Nat} (h : RK enc x (.slice ao n cap) l W) : n = l.length ∧ l.length ≤ cap := by
  obtain ⟨ao', cap', e, hc, hfm⟩ := h.form
  cases e
  exact ⟨rfl, hc⟩
theorem flat_drop {k : Nat} (hk : ∀ a, (enc a).length = k) : ∀ (m : Nat) (l : List α) (j : Nat), ((l.drop m).flatMap enc)[j]? = (l.flatMap enc)[m * k + j]?
  | 0, l, j => by simp
  | m + 1, [], j => by simp
  | m + 1, a :: l, j => by
    rw [List.drop_succ_cons, flat_drop hk m l j, List.flatMap_cons, List.getElem?_append_right (by rw [hk, Nat.succ_mul]; omega), hk]
    congr 1
    rw [Nat.succ_mul]; omega
theorem flat_take {k : Nat} (hk : ∀ a, (enc a).length = k) : ∀ (m : Nat) (l : List α) (j : Nat) (u : Value), ((l.take m).flatMap enc)[j]? = some u → (l.flatMap enc)[j]? = some u
  | 0, l, j, u, h => by simp at h
  | m + 1, [], j, u, h => by simp at h
  | m + 1, a :: l, j, u, h => by
    rw [List.take_succ_cons, List.flatMap_cons] at h
    rw [List.flatMap_cons]
    by_cases hj : j < k
    · rw [List.getElem?_append_left (by rw [hk]; exact hj)] at h ⊢
      exact h
    · rw [List.getElem?_append_right (by rw [hk]; omega)] at h ⊢
      exact flat_take hk m l _ u h
/-- s[m:] and s[:m]. -/
theorem run_dropK {P : Program} {k : Nat} (hk : ∀ a, (enc a).length = k) {t e : TypeId} {z : Value} {bytes : Nat} (h1 : P.underlying t = some (.slice e)) (h2 : (P.info? e).map (fun i => (i.zero, i.size, i.bytes)) = some (some z, k, bytes)) {ao : Option Addr} {n cap : Nat} (h : RK enc x (.slice ao n cap) l W) {m : Nat} (hm : m ≤ l.length) :
    ∃ v, (∀ W' : World, (Instr.slice t (.slice ao n cap) (some (.int .i64 (m : Int))) none none).run P W' = .ok v W') ∧ RK enc x v (l.drop m) W := by
  obtain ⟨rfl, hcap⟩ := h.len
  have hs : ∀ W', (sizeOf e).run P W' = .ok k W' := fun W' => by
    obtain ⟨i, hi, _, h1, _⟩ := info_parts h2
    simp [sizeOf, typeInfo, hi, h1]
  have he : P.elem t = e := by simp [Program.elem, h1]
  subst he
  refine ⟨sliced ao m l.length cap k, fun W' => by rw [run_slice_l (w := W') t ao l.length cap h1 .i64 (m : Int) (by omega) (by omega), hs W']; rfl, ?_⟩
  obtain ⟨ao', cap', e', hc, hfm⟩ := h.form
  cases e'
  unfold sliced
  refine ⟨_, _, by rw [List.length_drop], by rw [List.length_drop]; omega, fun j u hu => ?_⟩
  rw [flat_drop hk] at hu
  obtain ⟨b, off, rfl, hx, c⟩ := hfm _ u hu
  have hne : ¬ cap = m := fun e => by
    have h3 : l.length = m := by omega
    have h4 := (List.getElem?_eq_some_iff.1 hu).1
    rw [flat_len enc k hk, h3] at h4
    omega
  exact ⟨b, off + m * k, by rw [if_neg hne]; simp [Addr.add], hx, by rw [Nat.add_assoc]; exact c⟩
theorem run_takeK {P : Program} {k : Nat} (hk : ∀ a, (enc a).length = k) {t e : TypeId} {z : Value} {bytes : Nat} (h1 : P.underlying t = some (.slice e)) (h2 : (P.info? e).map (fun i => (i.zero, i.size, i.bytes)) = some (some z, k, bytes)) {ao : Option Addr} {n cap : Nat} (h : RK enc x (.slice ao n cap) l W) {m : Nat} (hm : m ≤ l.length) :
    ∃ v, (∀ W' : World, (Instr.slice t (.slice ao n cap) none (some (.int .i64 (m : Int))) none).run P W' = .ok v W') ∧ RK enc x v (l.take m) W := by
  obtain ⟨rfl, hcap⟩ := h.len
  have hs : ∀ W', (sizeOf e).run P W' = .ok k W' := fun W' => by
    obtain ⟨i, hi, _, h1, _⟩ := info_parts h2
    simp [sizeOf, typeInfo, hi, h1]
  have he : P.elem t = e := by simp [Program.elem, h1]
  subst he
  refine ⟨sliced ao 0 m cap k, fun W' => by rw [run_slice_h (w := W') t ao l.length cap h1 .i64 (m : Int) (by omega) (by omega), hs W']; rfl, ?_⟩
  obtain ⟨ao', cap', e', hc, hfm⟩ := h.form
  cases e'
  unfold sliced
  refine ⟨_, _, by rw [List.length_take, Nat.min_eq_left hm]; rfl, by rw [List.length_take]; omega, fun j u hu => ?_⟩
  obtain ⟨b, off, rfl, hx, c⟩ := hfm _ u (flat_take hk m l j u hu)
  refine ⟨b, off, ?_, hx, c⟩
  split
  · rfl
  · simp [Addr.add]
/-- append(v, y...): v is the call's own, y is read. -/
theorem run_apRK {P : Program} {k : Nat} (hk : ∀ a, (enc a).length = k) (h0 : 0 < k) (henc : ∀ a, ∀ u ∈ enc a, u.oneCell' = true) (w : World) (base : Nat) (t ty e : TypeId) (z : Value) (bytes : Nat) (h1 : P.underlying t = some (.slice e))
    (h2 : (P.info? e).map (fun i => (i.zero, i.size, i.bytes)) = some (some z, k, bytes)) (hz : z.cells.size = k) (v : Value) (l : List α) (hown : OwnK enc k e base v l w) (yv : Value) (news : List α) (hy : RK enc x yv news w) (b1 : l.length + news.length ≤ 1000000) (b2 : bytes ≤ 1000) (hb : base ≤ w.heap.size) :
    ∃ v' w', (Builtin.append_ #[t, t] ty #[v, yv]).run P w = .ok v' w' ∧ OwnK enc k e base v' (l ++ news) w' ∧ w.grownBy w' v.ownBlock ∧ (v'.ownBlock = v.ownBlock ∨ v'.ownBlock = some w.heap.size) := by
  obtain ⟨ao, cap, rfl, hcap, hc⟩ := hy.form
  by_cases hn : news = []
  · subst hn
    obtain ⟨i, hi, hz0, hz1, hz2⟩ := info_parts h2
    have hform : ∃ ao n c, v = .slice ao n c ∧ n ≤ c := by
      rcases hown.2 with ⟨rfl, hn⟩ | ⟨g, cap', cur, rfl, _, _, hle, _⟩
      · exact ⟨none, 0, 0, rfl, Nat.le_refl _⟩
      · exact ⟨_, _, _, rfl, hle⟩
    obtain ⟨a2, n, c, rfl, hle⟩ := hform
    refine ⟨_, _, ?_, by rw [List.append_nil]; exact hown, ⟨rfl, rfl, rfl, Nat.le_refl _, fun _ _ _ => rfl⟩, .inl rfl⟩
    cases ao with
    | none => exact run_append_nothing (P := P) w t t ty e i h1 hi a2 n c hle _ (Src.ofNil w h1 cap)
    | some ad => exact run_append_nothing (P := P) w t t ty e i h1 hi a2 n c hle _ (Src.ofSlice _ h1 ad 0 cap [] (by simp) (fun j v hj => by simp at hj) (by simp))
  · have hpos : 0 < news.length := List.length_pos_iff.2 hn
    obtain ⟨b, off, rfl, _, _⟩ := hc 0 ((news.flatMap enc)[0]'(by rw [flat_len enc k hk]; exact Nat.mul_pos hpos h0)) (List.getElem?_eq_getElem _)
    refine run_apk (P := P) enc k hk h0 henc w base t ty e z bytes h1 h2 hz v l hown ⟨b, off, none⟩ news.length cap news rfl (fun j u hu => ?_) b1 b2 hb
    obtain ⟨b', off', e', _, c⟩ := hc j u hu
    cases e'
    have e2 : (⟨b, off, none⟩ : Addr).add j = ⟨b, off + j, none⟩ := by unfold Addr.add; split <;> simp_all
    rw [e2]; exact c
theorem step_apRK {P : Program} {k : Nat} (hk : ∀ a, (enc a).length = k) (h0 : 0 < k) (henc : ∀ a, ∀ u ∈ enc a, u.oneCell' = true) {w : World} {t e : TypeId} {z : Value} {bytes : Nat} (h1 : P.underlying t = some (.slice e))
    (h2 : (P.info? e).map (fun i => (i.zero, i.size, i.bytes)) = some (some z, k, bytes)) (hz : z.cells.size = k) (b2 : bytes ≤ 1000) {ops : Array Oper} {o : Oper} {a : Act} {K : Act → World → Prop} {Q : Exit → Act → World → Prop} {E : Prop}
    (hg : o.guard = none) (s y : Operand) (hop : o.op = Op.call { callee := Callee.builtin Builtin.append, args := #[s, y], argTypes := #[t, t] })
    (base : Nat) (v : Value) (l : List α) (hs : a.eval s = v) (hown : OwnK enc k e base v l w) (yv : Value) (news : List α) (hy : a.eval y = yv) (hr : RK enc x yv news w) (b1 : l.length + news.length ≤ 1000000) (hb : base ≤ w.heap.size)
    (hK : ∀ v' w', OwnK enc k e base v' (l ++ news) w' → w.grownBy w' v.ownBlock → (v'.ownBlock = v.ownBlock ∨ v'.ownBlock = some w.heap.size) → K (a.put o.dst v') w') :
    if Region.wanted o (yielded ops a.tmps) = true then Oper.wp P o a w K Q else E := by
  have hw : Region.wanted o (yielded ops a.tmps) = true := by simp [Region.wanted, hg]
  rw [if_pos hw]
  obtain ⟨v', w', hrun, r1, r2, r3⟩ := run_apRK (P := P) hk h0 henc w base t o.type e z bytes h1 h2 hz v l hown yv news hr b1 b2 hb
  unfold Oper.wp
  simp [execOp, hop, resolve, invoke, builtin, hs, hy, hrun, Result.andThen]
  exact hK v' w' r1 r2 r3
end
/-- A literal of one element. -/
theorem RK.one {α : Type} {enc : α → List Value} (a : α) (t : TypeId) (W : World) : RK enc (fun _ => True) (.slice (some ⟨W.heap.size, 0, none⟩) 1 1) [a] (W.alloc (.cells (enc a).toArray t)) :=
  ⟨some ⟨W.heap.size, 0, none⟩, 1, rfl, Nat.le_refl _, fun j u hu => ⟨W.heap.size, 0, rfl, trivial, by
    rw [List.flatMap_cons, List.flatMap_nil, List.append_nil] at hu
    rw [Nat.zero_add]
    exact (Blk.new W (enc a) t).cell hu⟩⟩
end Go.Proofs.YtdbaocphglijbaaDoor

/- The document's own arena, in memory: rows of (handle, bytes); Cost, Used, Left, at, MayArena. -/
set_option maxRecDepth 100000
namespace Go.Proofs.YtdbaocphglijbaaDoor
open Go Go.RowKit Go.Shelf
attribute [local go_sem] Oper.semAt_some
/-- A row: a handle, and a slice of bytes. -/
structure Rw where
  h : Nat
  ao : Option Addr
  n : Nat
  c : Nat
def Rw.v (r : Rw) : Value := .slice r.ao r.n r.c
def encRw (r : Rw) : List Value := [.int .i64 (r.h : Int), r.v]
theorem encRw_len (r : Rw) : (encRw r).length = 2 := rfl
theorem encRw_one (r : Rw) : ∀ u ∈ encRw r, u.oneCell' = true := fun u hu => by
  simp only [encRw, List.mem_cons, List.not_mem_nil, or_false] at hu
  rcases hu with rfl | rfl <;> rfl
theorem infoRw : (Tryd.prog.info? 52).map (fun i => (i.zero, i.size, i.bytes)) = some (some (.agg #[.int .i64 0, .slice none 0 0]), 2, 32) := by kernel_rfl
def encC (c : UInt8) : List Value := [encB c]
theorem encC_len (c : UInt8) : (encC c).length = 1 := rfl
theorem encC_one (c : UInt8) : ∀ u ∈ encC c, u.oneCell' = true := fun u hu => by
  simp only [encC, List.mem_cons, List.not_mem_nil, or_false] at hu
  rw [hu]; rfl
theorem flatC (l : List UInt8) : l.flatMap encC = l.map encB := by induction l with
  | nil => rfl
  | cons c l ih => rw [List.flatMap_cons, ih]; rfl
abbrev Rp := Rw × Bl
structure MA (x : Nat → Prop) (m B : Nat) (P : List Rp) (W : World) : Prop where
  ex : ∃ v, Blk W m [.int .i64 (B : Int), v] 33 ∧ RK encRw x v (P.map Prod.fst) W
  mine : x m
  each : ∀ p ∈ P, p.1.h = p.2.1 ∧ RK encC x p.1.v p.2.2 W
theorem MA.same {x : Nat → Prop} {m B : Nat} {P : List Rp} {W W' : World} (h : MA x m B P W) (hk : ∀ b, x b → W'.heap[b]? = W.heap[b]?) : MA x m B P W' := by
  obtain ⟨v, h1, h2⟩ := h.ex
  exact ⟨⟨v, h1.kept (hk m h.mine), h2.same hk⟩, h.mine, fun p hp => ⟨(h.each p hp).1, (h.each p hp).2.same hk⟩⟩
theorem MA.below {x : Nat → Prop} {m B : Nat} {P : List Rp} {W W' : World} (h : MA x m B P W) (hb : Below W.heap.size W W') : MA x m B P W' := by
  obtain ⟨v, h1, h2⟩ := h.ex
  exact ⟨⟨v, h1.kept (hb.block m h1.lt), h2.below hb⟩, h.mine, fun p hp => ⟨(h.each p hp).1, (h.each p hp).2.below hb⟩⟩
/-- What is read of it. -/
theorem MA.box {x : Nat → Prop} {m B : Nat} {P : List Rp} {W : World} (h : MA x m B P W) : ∃ ao cap, W.cell? ⟨m, 0, none⟩ = some (.int .i64 (B : Int)) ∧ W.cell? ⟨m, 1, none⟩ = some (.slice ao P.length cap) ∧ P.length ≤ cap ∧ RK encRw x (.slice ao P.length cap) (P.map Prod.fst) W ∧
    ∀ i (hi : i < P.length), ∃ b off, ao = some ⟨b, off, none⟩ ∧ x b ∧ W.cell? ⟨b, off + i * 2, none⟩ = some (.int .i64 (P[i].2.1 : Int)) ∧ W.cell? ⟨b, off + i * 2 + 1, none⟩ = some P[i].1.v := by
  obtain ⟨v, h1, h2⟩ := h.ex
  obtain ⟨ao, cap, rfl, hc, hf⟩ := h2.form
  rw [List.length_map] at hc h1
  have h3 : RK encRw x (.slice ao P.length cap) (P.map Prod.fst) W := by rw [List.length_map] at h2; exact h2
  refine ⟨ao, cap, h1.cell rfl, h1.cell rfl, hc, h3, fun i hi => ?_⟩
  obtain ⟨b, off, e, hx, c0⟩ := h3.at_ encRw_len (i := i) (f := 0) (by rw [List.length_map]; exact hi) (by omega)
  obtain ⟨b', off', e', _, c1⟩ := h3.at_ encRw_len (i := i) (f := 1) (by rw [List.length_map]; exact hi) (by omega)
  rw [e] at e'
  cases e'
  refine ⟨b, off, e, hx, ?_, ?_⟩
  · rw [Nat.add_zero] at c0
    rw [c0, List.getElem_map]
    show some (Value.int .i64 ((P[i].1.h : Nat) : Int)) = _
    rw [(h.each P[i] (List.getElem_mem hi)).1]
  · rw [Nat.add_assoc, c1, List.getElem_map]
    rfl
/-- c is the least power of two from 16 on that is at least as much, or a lesser one. -/
def DblOk (n c : Nat) : Prop := ∃ j, j ≤ 9 ∧ c = 16 * 2 ^ j ∧ (j = 0 ∨ 8 * 2 ^ j < n + 8)
theorem dbl_more {c n : Nat} (hn : n ≤ 4096) (h : DblOk n c) (hl : c < n + 8) : DblOk n (c * 2) := by
  obtain ⟨j, hj, hc, h⟩ := h
  have hj9 : j ≠ 9 := fun e => by subst e; simp only [Nat.reducePow] at hc; omega
  refine ⟨j + 1, by omega, by rw [Nat.pow_succ, hc, Nat.mul_assoc], .inr ?_⟩
  rw [Nat.pow_succ]
  clear h
  generalize 2 ^ j = p at hc ⊢
  omega
set_option maxHeartbeats 4000000 in
theorem dbl_end {c n : Nat} (hn : n ≤ 4096) (h : DblOk n c) (hl : ¬ c < n + 8) : c = Ar.cost n := by
  obtain ⟨j, hj, hc, h⟩ := h
  have h10 : j = 0 ∨ j = 1 ∨ j = 2 ∨ j = 3 ∨ j = 4 ∨ j = 5 ∨ j = 6 ∨ j = 7 ∨ j = 8 ∨ j = 9 := by omega
  unfold Ar.cost
  rcases h10 with rfl | rfl | rfl | rfl | rfl | rfl | rfl | rfl | rfl | rfl
  all_goals
    simp only [Nat.reducePow] at hc h
    (repeat' split) <;> omega
set_option maxHeartbeats 2000000 in
theorem rcost_any (n : Int) (w : World) (hn : -9223372036854775808 ≤ n ∧ n ≤ 9223372036854775807) :
    Calls Tryd.prog 57 #[.int .i64 n] w fun e w' => e = .returned (.int .i64 (Ar.costI n : Int)) ∧ w = w' := by
  by_cases h : 0 ≤ n ∧ n ≤ 4096
  · obtain ⟨k, rfl⟩ : ∃ k : Nat, n = (k : Int) := ⟨n.toNat, by omega⟩
    have hk : k ≤ 4096 := by omega
    have HE : Hid (Ar.costI (k : Int) = Ar.cost k) := Lib.hid (by unfold Ar.costI; rw [if_pos h, Int.toNat_natCast])
    clear h hn
    go_enter Tryd.func57, Tryd.ntmps57
    go_wp2
    go_loop [3] (fun c => ∃ c0 : Nat, c = .int .i64 (c0 : Int) ∧ c0 ≤ 8206 ∧ 1 ≤ c0 ∧ Hid (DblOk k c0)) (fun c => 8300 - (intOf c).toNat)
    case atStart => exact ⟨16, rfl, by omega, by omega, Lib.hid ⟨0, by omega, rfl, .inl rfl⟩⟩
    case round =>
      obtain ⟨c0, rfl, hc, hc1, HJ⟩ := hrel
      by_cases hlt : c0 < k + 8
      · have HS := Lib.hid (dbl_more hk HJ.out hlt)
        have hc2 : c0 * 2 ≤ 8206 := by omega
        clear HJ
        go_wp2
        go_round
        case rel => exact ⟨c0 * 2, by go_num, hc2, by omega, HS⟩
        case measure => simp [intOf]; omega
      · have HS := Lib.hid (dbl_end hk HJ.out hlt)
        clear HJ
        go_wp2
        go_ret
        exact ⟨by rw [HE.out, ← HS.out]; rfl, rfl⟩
  · have HE : Hid (Ar.costI n = 0) := Lib.hid (by unfold Ar.costI; rw [if_neg h])
    by_cases h0 : n < 0
    · clear h
      go_enter Tryd.func57, Tryd.ntmps57
      go_wp2
      go_ret
      exact ⟨by rw [HE.out]; rfl, rfl⟩
    · have h1 : 4096 < n := by omega
      clear h
      go_enter Tryd.func57, Tryd.ntmps57
      go_wp2
      go_ret
      exact ⟨by rw [HE.out]; rfl, rfl⟩
set_option maxHeartbeats 1000000 in
theorem mayArena_any (n : Int) (w : World) :
    Calls Tryd.prog 16 #[.int .i64 n] w fun e w' => e = .returned (.bool (decide (1024 ≤ n) && decide (n ≤ 1048576))) ∧ w = w' := by
  by_cases h : 1024 ≤ n
  · go_enter Tryd.func16, Tryd.ntmps16
    go_wp2
    go_ret
    exact ⟨by simp [h], rfl⟩
  · go_enter Tryd.func16, Tryd.ntmps16
    go_wp2
    go_ret
    refine ⟨?_, rfl⟩
    rw [decide_eq_false (show ¬ 1024 ≤ n by omega)]
    rfl
end Go.Proofs.YtdbaocphglijbaaDoor

/- The document's own arena: Used, Left, at. -/
set_option maxRecDepth 100000
namespace Go.Proofs.YtdbaocphglijbaaDoor
open Go Go.RowKit Go.Shelf
attribute [local go_sem] Oper.semAt_some
def lsP (P : List Rp) : List Bl := P.map Prod.snd
theorem sumC_take {L : List Bl} {k : Nat} (h : k < L.length) : sumC (L.take (k + 1)) = sumC (L.take k) + Ar.cost L[k].2.length := by
  rw [List.take_succ_eq_append_getElem h, sumC_app, sumC_cons, sumC_nil]; rfl
theorem sumC_take_le (L : List Bl) (k : Nat) : sumC (L.take k) ≤ sumC L := by
  have h := congrArg sumC (List.take_append_drop k L)
  rw [sumC_app] at h
  omega
theorem Rp.form {x : Nat → Prop} {r : Rw} {l : List UInt8} {w : World} (h : RK encC x r.v l w) : ∃ ao c, r.v = .slice ao l.length c := by
  obtain ⟨ao, cap, e, _⟩ := h.form
  exact ⟨ao, cap, e⟩
set_option maxHeartbeats 4000000 in
theorem mused_any (x : Nat → Prop) (m B : Nat) (P : List Rp) (w : World) (h : MA x m B P w) (hs : sumC (lsP P) ≤ 1048576) (hl : P.length ≤ 1000000) (he : ∀ b ∈ lsP P, b.2.length ≤ 4096) :
    Calls Tryd.prog 67 #[.pointer (some ⟨m, 0, none⟩)] w fun e w' => e = .returned (.int .i64 (sumC (lsP P) : Int)) ∧ w = w' := by
  obtain ⟨ao, cap, c0, c1, hcap, _, hrow⟩ := h.box
  have HR := Lib.hid hrow
  have HE := Lib.hid h.each
  have HL := Lib.hid he
  have HS := Lib.hid hs
  clear hrow he hs h
  go_enter Tryd.func67, Tryd.ntmps67
  go_wp2
  go_loop [3, 4] (fun n i => ∃ k nn : Nat, i = .int .i64 (k : Int) ∧ n = .int .i64 (nn : Int) ∧ k ≤ P.length ∧ nn ≤ 1048576 ∧ Hid (nn = sumC ((lsP P).take k))) (fun _ i => P.length + 1 - (intOf i).toNat)
  case atStart => exact ⟨0, 0, rfl, rfl, Nat.zero_le _, Nat.zero_le _, Lib.hid rfl⟩
  case round =>
    obtain ⟨k, nn, rfl, rfl, hk, hnn, HN⟩ := hrel
    by_cases hlt : k < P.length
    · obtain ⟨b, off, rfl, hx, d0, d1⟩ := HR.out k hlt
      have hm := HE.out P[k] (List.getElem_mem hlt)
      obtain ⟨ao2, c2, hv⟩ := Rp.form hm.2
      have hk2 : k < (lsP P).length := by simp [lsP]; exact hlt
      have hst := sumC_take hk2
      have hle := sumC_take_le (lsP P) (k + 1)
      have hge : (lsP P)[k].2 = P[k].2.2 := by simp [lsP]
      have hbl := HL.out (lsP P)[k] (List.getElem_mem hk2)
      rw [hge] at hst hbl
      obtain ⟨q, hq⟩ : ∃ q, P[k].2.2.length = q := ⟨_, rfl⟩
      rw [hv, hq] at d1
      rw [hq] at hst hbl
      have hc := rcost_any (q : Int) w (by omega)
      rw [show Ar.costI (q : Int) = Ar.cost q from Ar.costI_nat hbl] at hc
      obtain ⟨cc, hcc⟩ : ∃ cc, Ar.cost q = cc := ⟨_, rfl⟩
      rw [hcc] at hc hst
      have HC := Lib.hid hc
      have HN2 : Hid (nn + cc = sumC ((lsP P).take (k + 1))) := Lib.hid (by rw [hst, HN.out])
      have hb2 : nn + cc ≤ 1048576 := by have := HS.out; have := HN2.out; omega
      clear hc hst hle hge hbl hm hv hq hcc HN
      go_wp2_with (go_at_call 57; refine HC.out.mono ?_; rintro e w' ⟨rfl, rfl⟩)
      go_round
      case rel => exact ⟨k + 1, nn + cc, by go_num, by go_num, by omega, hb2, HN2⟩
      case measure => simp [intOf]; omega
    · obtain rfl : k = P.length := by omega
      have HN2 : Hid (nn = sumC (lsP P)) := Lib.hid (by rw [HN.out, List.take_of_length_le (by simp [lsP])])
      clear HN
      go_wp2
      go_ret
      exact ⟨by rw [← HN2.out]; rfl, rfl⟩
set_option maxHeartbeats 2000000 in
theorem mleft_any (x : Nat → Prop) (m B : Nat) (P : List Rp) (w : World) (h : MA x m B P w) (hB : B ≤ 1048576) (hs : sumC (lsP P) ≤ B) (hl : P.length ≤ 1000000) (he : ∀ b ∈ lsP P, b.2.length ≤ 4096) :
    Calls Tryd.prog 26 #[.pointer (some ⟨m, 0, none⟩)] w fun e w' => e = .returned (.int .i64 ((B - sumC (lsP P) : Nat) : Int)) ∧ ∃ n, w' = w.drewN n := by
  obtain ⟨ao, cap, c0, c1, hcap, _, hrow⟩ := h.box
  have HU := Lib.hid (fun n => mused_any x m B P (w.drewN n) (h.same fun _ _ => rfl) (by omega) hl he)
  obtain ⟨s, hs2⟩ : ∃ s, sumC (lsP P) = s := ⟨_, rfl⟩
  rw [hs2] at hs
  rw [hs2] at HU
  have hw : IntKind.i64.wrap ((B : Int) - (s : Int)) = ((B - s : Nat) : Int) := by rw [IntKind.wrap_i64]; omega
  rw [hs2]
  have HW := Lib.hid hw
  clear hrow he h hs2
  go_enter Tryd.func26, Tryd.ntmps26
  go_wp2
  go_quiet ((go_at_call 67; exact Calls.quiet_of_same ((HU.out _).mono fun _ _ h => ⟨h.1, h.2.symm⟩)))
  go_wp2
  go_ret
  exact ⟨by rw [← HW.out]; rfl, _, rfl⟩
def MatRet (P : List Rp) (z : Int) (w : World) (e : Ending) (w' : World) : Prop := ((∃ (i : Nat) (hi : i < P.length), e = .returned (.int .i64 (i : Int)) ∧ (P[i].2.1 : Int) = z) ∨ (e = .returned (.int .i64 (-1)) ∧ ∀ p ∈ P, (p.2.1 : Int) ≠ z)) ∧ w = w'
set_option maxHeartbeats 4000000 in
theorem mat_any (x : Nat → Prop) (m B : Nat) (P : List Rp) (z : Int) (w : World) (h : MA x m B P w) (hl : P.length ≤ 1000000) :
    Calls Tryd.prog 63 #[.pointer (some ⟨m, 0, none⟩), .int .i64 z] w (MatRet P z w) := by
  obtain ⟨ao, cap, c0, c1, hcap, _, hrow⟩ := h.box
  have HR := Lib.hid hrow
  clear hrow h
  go_enter Tryd.func63, Tryd.ntmps63
  go_wp2
  go_loop [5] (fun i => ∃ k : Nat, i = .int .i64 (k : Int) ∧ k ≤ P.length ∧ Hid (∀ i (h : i < P.length), i < k → (P[i].2.1 : Int) ≠ z)) (fun i => P.length + 1 - (intOf i).toNat)
  case atStart => exact ⟨0, rfl, Nat.zero_le _, Lib.hid fun i h h2 => by omega⟩
  case round =>
    obtain ⟨k, rfl, hk, HN⟩ := hrel
    by_cases hlt : k < P.length
    · obtain ⟨b, off, rfl, hx, d0, d1⟩ := HR.out k hlt
      obtain ⟨q, hq⟩ : ∃ q, P[k].2.1 = q := ⟨_, rfl⟩
      rw [hq] at d0
      by_cases hz : (q : Int) = z
      · have HQ : Hid ((P[k].2.1 : Int) = z) := Lib.hid (by rw [hq]; exact hz)
        have hb : ((q : Int) == z) = true := by rw [hz]; exact beq_self_eq_true z
        clear hq hz HN
        go_wp2
        go_ret
        exact ⟨.inl ⟨k, hlt, rfl, HQ.out⟩, rfl⟩
      · have HQ : Hid (∀ i (h : i < P.length), i < k + 1 → (P[i].2.1 : Int) ≠ z) := Lib.hid fun i h h2 => by
          by_cases e : i = k
          · subst e; rw [hq]; exact hz
          · exact HN.out i h (by omega)
        have hb : ((q : Int) == z) = false := by rw [beq_eq_false_iff_ne]; exact hz
        clear hq hz HN
        go_wp2
        go_round
        case rel => exact ⟨k + 1, by go_num, by omega, HQ⟩
        case measure => simp [intOf]; omega
    · obtain rfl : k = P.length := by omega
      go_wp2
      go_ret
      exact ⟨.inr ⟨rfl, fun p hp => by obtain ⟨i, hi, rfl⟩ := List.mem_iff_getElem.1 hp; exact HN.out i hi hi⟩, rfl⟩
end Go.Proofs.YtdbaocphglijbaaDoor

/- The document's own arena: Free (a row goes). -/
set_option maxRecDepth 100000
namespace Go.Proofs.YtdbaocphglijbaaDoor
open Go Go.RowKit Go.Shelf
attribute [local go_sem] Oper.semAt_some
/-- The blocks that a call has made, beside x. -/
def plus (x : Nat → Prop) (w w' : World) : Nat → Prop := fun k => x k ∨ (w.heap.size ≤ k ∧ k < w'.heap.size)
/-- What an act of the document's own arena leaves: other rows, nothing else changed but its own box. -/
def MRet (x : Nat → Prop) (m B : Nat) (P' : List Rp) (w w' : World) : Prop := MA (plus x w w') m B P' w' ∧ Trn (fun k => k = m) w w'
theorem ownBlock_in {α : Type} {enc : α → List Value} {k : Nat} {e : TypeId} {base : Nat} {v : Value} {l : List α} {W : World} (h : OwnK enc k e base v l W) : ∀ b, v.ownBlock = some b → base ≤ b ∧ b < W.heap.size := fun b hb => World.ownsRow.lt h b hb
/-- New rows are laid into the box. -/
theorem MA.put {x : Nat → Prop} {m B : Nat} {P P' : List Rp} {w w1 : World} {v : Value} (h : MA x m B P w) (hb : Below w.heap.size w w1) (hv : OwnK encRw 2 52 w.heap.size v (P'.map Prod.fst) w1) (he : ∀ p ∈ P', p.1.h = p.2.1 ∧ RK encC (plus x w w1) p.1.v p.2.2 w1) :
    MRet x m B P' w (w1.setCell ⟨m, 1, none⟩ v) := by
  obtain ⟨v0, h1, h2⟩ := h.ex
  have hs : (w1.setCell ⟨m, 1, none⟩ v).heap.size = w1.heap.size := by simp [World.setCell]
  have hm1 : Blk w1 m [.int .i64 (B : Int), v0] 33 := h1.kept (hb.block m h1.lt)
  have hT : Trn (fun k => k = m) w (w1.setCell ⟨m, 1, none⟩ v) := (Trn.of_below hb).trans (Trn.set hm1 (.inl rfl) 1 v)
  refine ⟨⟨⟨v, hm1.set 1 v, ?_⟩, .inl h.mine, fun p hp => ⟨(he p hp).1, ?_⟩⟩, hT⟩
  · have hr : RK encRw (fun k => w.heap.size ≤ k ∧ k < w1.heap.size) v (P'.map Prod.fst) w1 := RK.own hv (ownBlock_in hv)
    refine (hr.same (W' := w1.setCell ⟨m, 1, none⟩ v) fun b hb2 => Below.heap_setCell w1 ⟨m, 1, none⟩ v b (fun e => by
      have h3 : b = m := e
      have := h1.lt
      have := hb2.1
      omega)).mono fun b hb2 => .inr ⟨hb2.1, by rw [hs]; exact hb2.2⟩
  · obtain ⟨ao, cap, e, hc, hf⟩ := (he p hp).2.form
    refine ⟨ao, cap, e, hc, fun j u hu => ?_⟩
    obtain ⟨b, off, e, hx, c⟩ := hf j u hu
    refine ⟨b, off, e, by unfold plus at hx ⊢; rw [hs]; exact hx, ?_⟩
    have hbm : b ≠ m := fun e2 => by
      subst e2
      have hu2 : ∃ c, u = encB c := by
        rw [flatC] at hu
        obtain ⟨c, _, hc⟩ := List.mem_map.1 (List.mem_of_getElem? hu)
        exact ⟨c, hc.symm⟩
      obtain ⟨c', rfl⟩ := hu2
      have h3 : w1.cell? ⟨b, off + j, none⟩ = [Value.int .i64 (B : Int), v0].toArray[off + j]? := by
        show (match w1.heap[b]? with | some (.cells c _ _) => c[off + j]? | _ => none) = _
        rw [show w1.heap[b]? = _ from hm1]
      rw [c] at h3
      exact absurd (hm1.symm.trans hm1) (fun _ => by
        match hq : off + j, h3 with
        | 0, h3 => simp [encB] at h3
        | 1, h3 =>
          simp only [List.getElem?_toArray, List.getElem?_cons_succ, List.getElem?_cons_zero, Option.some.injEq] at h3
          obtain ⟨ao', cap', e', _⟩ := h2.form
          rw [e'] at h3
          cases h3
        | n + 2, h3 => simp at h3)
    rw [cell_same (Below.heap_setCell w1 ⟨m, 1, none⟩ v b hbm)]
    exact c
theorem each_mid {P1 P2 : List Rp} {p : Rp} {F : Rp → Prop} (h : ∀ q ∈ P1 ++ p :: P2, F q) : ∀ q ∈ P1 ++ P2, F q := fun q hq => h q (by rcases List.mem_append.1 hq with h | h <;> simp [h])
end Go.Proofs.YtdbaocphglijbaaDoor

/- append in a region that draws its order: rows of the region's own are kept (a relation for the law of slots). -/
set_option maxRecDepth 100000
namespace Go.Proofs.YtdbaocphglijbaaDoor
open Go Go.RowKit Go.Shelf
theorem eval_tmp (a : Act) (k : Nat) : a.eval (.tmp k) = a.tmps[k]?.getD undef := by simp [Act.eval]
/-- Each predicate stands when the world goes on by le. -/
def StableBy (le : World → World → Prop) : List (Value → World → Prop) → Prop
  | [] => True
  | p :: l => (∀ v x y, le x y → p v x → p v y) ∧ StableBy le l
theorem slotPhi_by {le : World → World → Prop} : ∀ {l : List (Value → World → Prop)}, StableBy le l → ∀ j v x y, le x y → slotPhi l j v x → slotPhi l j v y
  | [], _, _, _, _, _, _, _ => trivial
  | _p :: _l, h, 0, v, x, y, hxy, hp => h.1 v x y hxy hp
  | _p :: l, h, j + 1, v, x, y, hxy, hp => slotPhi_by (l := l) h.2 j v x y hxy hp
def rowsKept {α : Type} (enc : α → List Value) (k : Nat) (e : TypeId) (base : Nat) (L : List α) (W W' : World) : Prop := ∀ v j, OwnK enc k e base v (L.take j) W → OwnK enc k e base v (L.take j) W'
def leRow {α : Type} (enc : α → List Value) (k : Nat) (e : TypeId) (base : Nat) (L : List α) (W W' : World) : Prop := Below base W W' ∧ rowsKept enc k e base L W W'
section
variable {α : Type} {enc : α → List Value} {k : Nat} {e : TypeId} {base : Nat} {L : List α}
theorem leRow_refl (W : World) : leRow enc k e base L W W := ⟨Below.refl _ W, fun _ _ h => h⟩
theorem leRow_trans {x y z : World} (h : leRow enc k e base L x y) (g : leRow enc k e base L y z) : leRow enc k e base L x z := ⟨h.1.trans g.1, fun v j o => g.2 v j (h.2 v j o)⟩
theorem leRow_of {x y : World} (h : slotLe x y) (hb : base ≤ x.heap.size) : leRow enc k e base L x y := ⟨h.mono hb, fun _ _ o => ownK_below o h⟩
/-- Cells that are written as the long list says keep all its beginnings. -/
theorem kept_take {F cur new : List Value} {a q : Nat} (h1 : ∀ i, i < a → new[i]? = F[i]?) (h2 : ∀ i, a ≤ i → new[i]? = cur[i]?) (hc : cur.take q = F.take q) : new.take q = F.take q := by
  apply List.ext_getElem?
  intro i
  rw [List.getElem?_take, List.getElem?_take]
  split
  · rename_i hi
    by_cases ha : i < a
    · exact h1 i ha
    · have h3 := congrArg (fun l => l[i]?) hc
      simp only [List.getElem?_take, if_pos hi] at h3
      rw [h2 i (by omega), h3]
  · rfl
theorem flat_prefix {l L : List α} (h : l <+: L) : ∃ R, L.flatMap enc = l.flatMap enc ++ R := by
  obtain ⟨t, rfl⟩ := h
  exact ⟨t.flatMap enc, List.flatMap_append⟩
theorem run_apKeep {P : Program} (hk : ∀ a, (enc a).length = k) (h0 : 0 < k) (henc : ∀ a, ∀ u ∈ enc a, u.oneCell' = true) {x : Nat → Prop} (w : World) (t ty : TypeId) (z : Value) (bytes : Nat) (h1 : P.underlying t = some (.slice e))
    (h2 : (P.info? e).map (fun i => (i.zero, i.size, i.bytes)) = some (some z, k, bytes)) (hz : z.cells.size = k) (v : Value) (l : List α) (hown : OwnK enc k e base v l w) (yv : Value) (news : List α) (hy : RK enc x yv news w) (b1 : l.length + news.length ≤ 1000000) (b2 : bytes ≤ 1000) (hb : base ≤ w.heap.size) (hL : (l ++ news) <+: L) :
    ∃ v' w', (Builtin.append_ #[t, t] ty #[v, yv]).run P w = .ok v' w' ∧ OwnK enc k e base v' (l ++ news) w' ∧ leRow enc k e base L w w' ∧ ∀ a', (l = [] → ∀ b, news = [b] → b = a') → ∀ g, Blk w g (enc a') e → Blk w' g (enc a') e := by
  obtain ⟨v', w', hrun, ho, hg, hat⟩ := run_apRK (P := P) hk h0 henc w base t ty e z bytes h1 h2 hz v l hown yv news hy b1 b2 hb
  suffices hh : rowsKept enc k e base L w w' ∧ ∀ a', (l = [] → ∀ b, news = [b] → b = a') → ∀ g, Blk w g (enc a') e → Blk w' g (enc a') e from ⟨v', w', hrun, ho, ⟨below_ownK hown hg hb, hh.1⟩, hh.2⟩
  obtain ⟨i, hi, hz0, hz1, hz2⟩ := info_parts h2
  have hown2 := hown
  rcases hown2.2 with ⟨rfl, hn⟩ | ⟨g, cap, cur, rfl, hbg, hg0, hnc, hcm, hcs, htake⟩
  · exact ⟨fun v0 j o => ownK_grown (row := none) o hg (fun _ _ e => by cases e), fun a' _ g hB => hB.kept (hg.block g hB.lt (fun e => by cases e))⟩
  obtain ⟨ao, cap', rfl, hcap', hc⟩ := hy.form
  by_cases hn : news = []
  · subst hn
    have hr : (Builtin.append_ #[t, t] ty #[.slice (some ⟨g, 0, none⟩) l.length cap, .slice ao ([] : List α).length cap']).run P w = .ok (.slice (some ⟨g, 0, none⟩) l.length cap) w := by
      cases ao with
      | none => exact run_append_nothing (P := P) w t t ty e i h1 hi _ l.length cap hnc _ (Src.ofNil w h1 cap')
      | some ad => exact run_append_nothing (P := P) w t t ty e i h1 hi _ l.length cap hnc _ (Src.ofSlice _ h1 ad 0 cap' [] (by simp) (fun j v hj => by simp at hj) (by simp))
    rw [hr] at hrun
    cases hrun
    exact ⟨fun _ _ o => o, fun _ _ _ hB => hB⟩
  have hpos : 0 < news.length := List.length_pos_iff.2 hn
  have hfl : (news.flatMap enc).length = news.length * k := flat_len enc k hk news
  have hll : (l.flatMap enc).length = l.length * k := flat_len enc k hk l
  obtain ⟨b, off, rfl, _, _⟩ := hc 0 ((news.flatMap enc)[0]'(by rw [hfl]; exact Nat.mul_pos hpos h0)) (List.getElem?_eq_getElem _)
  have hnew : ∀ j u, (news.flatMap enc)[j]? = some u → w.cell? ((⟨b, off, none⟩ : Addr).add j) = some u := fun j u hu => by
    obtain ⟨b', off', e', _, c⟩ := hc j u hu
    cases e'
    have e2 : (⟨b, off, none⟩ : Addr).add j = ⟨b, off + j, none⟩ := by unfold Addr.add; split <;> simp_all
    rw [e2]; exact c
  have hblk : Blk w g cur.toList e := by show w.heap[g]? = some (.cells cur.toList.toArray e (0, 0)); rw [hg0]
  have hlen : cur.toList.length = cap * k := by rw [Array.length_toList]; exact hcs
  have hmax : l.length + news.length ≤ maxLen := Nat.le_trans b1 (by unfold maxLen; decide)
  by_cases hroom : l.length + news.length ≤ cap
  · have hmk : (l.length + news.length) * k ≤ cap * k := Nat.mul_le_mul_right k hroom
    rw [Nat.add_mul] at hmk
    have hcell : ∀ j, j < (news.flatMap enc).length → (w.cell? ⟨g, 0 + l.length * i.size + j, none⟩).isSome = true := fun j hj => by
      rw [hblk.cell (i := 0 + l.length * i.size + j) (v := cur.toList[0 + l.length * i.size + j]'(by rw [hlen, hz1]; omega)) (List.getElem?_eq_getElem _)]
      rfl
    have hr := run_append_room_cells (P := P) w t ty e i h1 hi g 0 l.length cap ⟨b, off, none⟩ news.length cap' (news.flatMap enc) (by rw [hfl, hz1]) hnew (fun u hu => by obtain ⟨a, _, ha⟩ := List.mem_flatMap.1 hu; exact henc a u ha) hroom hcell (fun j _ => hblk.frozen _)
    rw [hr] at hrun
    cases hrun
    rw [Nat.zero_add, hz1]
    obtain ⟨hB, hT⟩ := Blk.setCells (news.flatMap enc) (l.length * k) w cur.toList hblk (by rw [hlen, hfl]; omega)
    refine ⟨fun v0 j o => ?_, fun a' ha' g' hB' => ?_⟩
    case refine_2 =>
      by_cases hgg : g' = g
      · subst hgg
        have h5 := hB'.cells hblk
        have h6 : k = cap * k := by rw [← hlen, ← h5, hk]
        have h7 : cap = 1 := by
          rcases Nat.lt_or_ge cap 1 with h | h
          · obtain rfl : cap = 0 := by omega
            omega
          · rcases Nat.lt_or_ge 1 cap with h | h
            · have := Nat.mul_le_mul_right k h
              omega
            · omega
        have h8 : l = [] := List.length_eq_zero_iff.1 (by omega)
        obtain ⟨b', hb'⟩ := List.length_eq_one_iff.1 (show news.length = 1 by omega)
        obtain rfl := ha' h8 b' hb'
        subst h8 hb'
        rw [← h5] at hB
        simp only [List.length_nil, Nat.zero_mul, List.take_zero, List.nil_append, Nat.zero_add, List.flatMap_cons, List.flatMap_nil, List.append_nil, List.drop_length] at hB ⊢
        exact hB
      · exact hB'.kept (hT.block g' hB'.lt hgg)
    rcases o.2 with ⟨rfl, hn0⟩ | ⟨g0, cap0, cur0, rfl, hbg0, hg00, hnc0, hcm0, hcs0, ht0⟩
    · exact ⟨o.1, .inl ⟨rfl, hn0⟩⟩
    · by_cases hgg : g0 = g
      · subst hgg
        rw [hg0] at hg00
        injection hg00 with hg00
        injection hg00 with hcc _
        subst hcc
        refine ⟨o.1, .inr ⟨g0, cap0, _, rfl, hbg0, hB, hnc0, hcm0, ?_, ?_⟩⟩
        · have h9 : cap * k = cap0 * k := hcs.symm.trans hcs0
          rw [List.size_toArray, List.length_append, List.length_append, List.length_take, List.length_drop, hlen, hfl]
          omega
        · obtain ⟨R, hR⟩ := flat_prefix (enc := enc) hL
          have hF : (L.take j).flatMap enc = (L.flatMap enc).take ((L.take j).length * k) := by
            have h3 : L.flatMap enc = (L.take j).flatMap enc ++ (L.drop j).flatMap enc := by rw [← List.flatMap_append, List.take_append_drop]
            rw [h3, List.take_left' (flat_len enc k hk _)]
          rw [hF] at ht0
          rw [hF]
          have htk : cur.toList.take (l.length * k) = l.flatMap enc := htake
          have hnl : (cur.toList.take (l.length * k) ++ news.flatMap enc) = (l ++ news).flatMap enc := by rw [htk, List.flatMap_append]
          have hnll : ((l ++ news).flatMap enc).length = l.length * k + news.length * k := by rw [List.flatMap_append, List.length_append, hll, hfl]
          simp only [List.toList_toArray]
          refine kept_take (a := l.length * k + news.length * k) (fun i hi2 => ?_) (fun i hi2 => ?_) ht0
          · rw [hnl, List.getElem?_append_left (by rw [hnll]; exact hi2), hR, List.getElem?_append_left (by rw [hnll]; exact hi2)]
          · rw [hnl, List.getElem?_append_right (by rw [hnll]; exact hi2), List.getElem?_drop, hnll, hfl]
            congr 1
            omega
      · refine ⟨o.1, .inr ⟨g0, cap0, cur0, rfl, hbg0, ?_, hnc0, hcm0, hcs0, ht0⟩⟩
        exact (hT.block g0 (Array.getElem?_eq_some_iff.1 hg00).1 hgg).trans hg00
  · have hlim : (l.length + news.length) * bytes ≤ 140737488355328 := Nat.le_trans (Nat.mul_le_mul b1 b2) (by decide)
    have hr := run_append_grow (P := P) w t ty e i z h1 hi hz0 ⟨g, 0, none⟩ l.length cap (l.flatMap enc) (by rw [hll, hz1]) (fun j u hj => World.ownsRow.cells hown (g := g) rfl j u hj) ⟨b, off, none⟩ news.length cap' (news.flatMap enc) (by rw [hfl, hz1]) hnew (by omega) (by simp only [maxLen] at hmax; omega) (growslice_fits (by omega) (by rw [hz2]; exact hlim))
    rw [hr] at hrun
    cases hrun
    have hbb : Below w.heap.size w (w.drew.alloc (.cells ((l.flatMap enc).toArray ++ (news.flatMap enc).toArray ++ Builtin.zeroCells z.cells (grownCap w (l.length + news.length) cap e - (l.length + news.length))) e)) := ((Below.refl _ w).drew).alloc (Nat.le_refl _) _
    exact ⟨fun _ _ o => ownK_below o hbb, fun _ _ g' hB => hB.kept (hbb.block g' hB.lt)⟩
/-- At the operation. -/
theorem wp_apKeep {P : Program} (hk : ∀ a, (enc a).length = k) (h0 : 0 < k) (henc : ∀ a, ∀ u ∈ enc a, u.oneCell' = true) {x : Nat → Prop} {w : World} {t : TypeId} {z : Value} {bytes : Nat} (h1 : P.underlying t = some (.slice e))
    (h2 : (P.info? e).map (fun i => (i.zero, i.size, i.bytes)) = some (some z, k, bytes)) (hz : z.cells.size = k) (b2 : bytes ≤ 1000) {o : Oper} {a : Act} {K : Act → World → Prop} {Q : Exit → Act → World → Prop}
    (s y : Operand) (hop : o.op = Op.call { callee := Callee.builtin Builtin.append, args := #[s, y], argTypes := #[t, t] })
    (v : Value) (l : List α) (hs : a.eval s = v) (hown : OwnK enc k e base v l w) (yv : Value) (news : List α) (hy : a.eval y = yv) (hr : RK enc x yv news w) (b1 : l.length + news.length ≤ 1000000) (hb : base ≤ w.heap.size) (hL : (l ++ news) <+: L)
    (hK : ∀ v' w', OwnK enc k e base v' (l ++ news) w' → leRow enc k e base L w w' → (∀ a', (l = [] → ∀ b, news = [b] → b = a') → ∀ g, Blk w g (enc a') e → Blk w' g (enc a') e) → K (a.put o.dst v') w') : Oper.wp P o a w K Q := by
  obtain ⟨v', w', hrun, r1, r2, r3⟩ := run_apKeep (P := P) (base := base) (L := L) hk h0 henc w t o.type z bytes h1 h2 hz v l hown yv news hr b1 b2 hb hL
  unfold Oper.wp
  simp [execOp, hop, resolve, invoke, builtin, hs, hy, hrun, Result.andThen]
  exact hK v' w' r1 r2 r3
/-- append([]T{}, y...): what was there is left alone. -/
theorem run_litRK {P : Program} (hk : ∀ a, (enc a).length = k) (h0 : 0 < k) {x : Nat → Prop} (w : World) (t ty : TypeId) (z : Value) (bytes : Nat) (h1 : P.underlying t = some (.slice e))
    (h2 : (P.info? e).map (fun i => (i.zero, i.size, i.bytes)) = some (some z, k, bytes)) (hz : z.cells.size = k) (g : Nat) (hown : OwnK enc k e base (.slice (some ⟨g, 0, none⟩) 0 0) [] w) (yv : Value) (news : List α) (hy : RK enc x yv news w) (b1 : news.length ≤ 1000000) (b2 : bytes ≤ 1000) (hb : base ≤ w.heap.size) :
    ∃ v' w', (Builtin.append_ #[t, t] ty #[.slice (some ⟨g, 0, none⟩) 0 0, yv]).run P w = .ok v' w' ∧ OwnK enc k e base v' news w' ∧ Below w.heap.size w w' := by
  obtain ⟨ao, cap, rfl, hcap, hc⟩ := hy.form
  obtain ⟨i, hi, hz0, hz1, hz2⟩ := info_parts h2
  by_cases hn : news = []
  · subst hn
    refine ⟨_, _, ?_, hown, Below.refl _ w⟩
    cases ao with
    | none => exact run_append_nothing (P := P) w t t ty e i h1 hi _ 0 0 (Nat.le_refl _) _ (Src.ofNil w h1 cap)
    | some ad => exact run_append_nothing (P := P) w t t ty e i h1 hi _ 0 0 (Nat.le_refl _) _ (Src.ofSlice _ h1 ad 0 cap [] (by simp) (fun j v hj => by simp at hj) (by simp))
  · have hpos : 0 < news.length := List.length_pos_iff.2 hn
    have hfl : (news.flatMap enc).length = news.length * k := flat_len enc k hk news
    obtain ⟨b, off, rfl, _, _⟩ := hc 0 ((news.flatMap enc)[0]'(by rw [hfl]; exact Nat.mul_pos hpos h0)) (List.getElem?_eq_getElem _)
    have hnew : ∀ j u, (news.flatMap enc)[j]? = some u → w.cell? ((⟨b, off, none⟩ : Addr).add j) = some u := fun j u hu => by
      obtain ⟨b', off', e', _, c⟩ := hc j u hu
      cases e'
      have e2 : (⟨b, off, none⟩ : Addr).add j = ⟨b, off + j, none⟩ := by unfold Addr.add; split <;> simp_all
      rw [e2]; exact c
    have hlim : news.length * bytes ≤ 140737488355328 := Nat.le_trans (Nat.mul_le_mul b1 b2) (by decide)
    have hmax : news.length ≤ maxLen := Nat.le_trans b1 (by unfold maxLen; decide)
    have hr := run_append_grow (P := P) w t ty e i z h1 hi hz0 ⟨g, 0, none⟩ 0 0 [] (by simp) (fun j v hj => by simp at hj) ⟨b, off, none⟩ news.length cap (news.flatMap enc) (by rw [hfl, hz1]) hnew (by omega) (by simp only [maxLen] at hmax; omega) (growslice_fits (by omega) (by rw [hz2]; simpa using hlim))
    simp only [Nat.zero_add] at hr
    have hge := grownCap_ge w news.length 0 e
    have hcm := grownCap_le_maxLen w news.length 0 e hmax
    refine ⟨_, _, hr, ⟨hfl, .inr ⟨w.heap.size, _, _, rfl, hb, heap_alloc_new w.drew _, hge, hcm, ?_, ?_⟩⟩, (Below.refl _ w).drew.alloc (Nat.le_refl _) _⟩
    · simp only [Array.size_append, List.size_toArray, List.length_nil, size_zeroCells, hz, hfl, Nat.zero_add, ← Nat.add_mul]
      congr 1
      omega
    · simp only [Array.toList_append, List.nil_append]
      rw [← hfl]
      exact List.take_left
theorem wp_litRK {P : Program} (hk : ∀ a, (enc a).length = k) (h0 : 0 < k) {x : Nat → Prop} {w : World} {t : TypeId} {z : Value} {bytes : Nat} (h1 : P.underlying t = some (.slice e))
    (h2 : (P.info? e).map (fun i => (i.zero, i.size, i.bytes)) = some (some z, k, bytes)) (hz : z.cells.size = k) (b2 : bytes ≤ 1000) {o : Oper} {a : Act} {K : Act → World → Prop} {Q : Exit → Act → World → Prop}
    (s y : Operand) (hop : o.op = Op.call { callee := Callee.builtin Builtin.append, args := #[s, y], argTypes := #[t, t] })
    (hs : ∃ g, a.eval s = .slice (some ⟨g, 0, none⟩) 0 0 ∧ OwnK enc k e base (.slice (some ⟨g, 0, none⟩) 0 0) [] w) (yv : Value) (news : List α) (hy : a.eval y = yv) (hr : RK enc x yv news w) (b1 : news.length ≤ 1000000) (hb : base ≤ w.heap.size)
    (hK : ∀ v' w', OwnK enc k e base v' news w' → Below w.heap.size w w' → K (a.put o.dst v') w') : Oper.wp P o a w K Q := by
  obtain ⟨g, hs, hown⟩ := hs
  obtain ⟨v', w', hrun, r1, r2⟩ := run_litRK (P := P) (base := base) hk h0 w t o.type z bytes h1 h2 hz g hown yv news hr b1 b2 hb
  unfold Oper.wp
  simp [execOp, hop, resolve, invoke, builtin, hs, hy, hrun, Result.andThen]
  exact hK v' w' r1 r2
/-- Rows of the long list are kept, and a literal of one element too. -/
def leRow1 (enc : α → List Value) (k : Nat) (e : TypeId) (base : Nat) (L : List α) (r : α) (W W' : World) : Prop := leRow enc k e base L W W' ∧ ∀ g, Blk W g (enc r) e → Blk W' g (enc r) e
theorem leRow1_refl {r : α} (W : World) : leRow1 enc k e base L r W W := ⟨leRow_refl W, fun _ h => h⟩
theorem leRow1_trans {r : α} {x y z : World} (h : leRow1 enc k e base L r x y) (g : leRow1 enc k e base L r y z) : leRow1 enc k e base L r x z := ⟨leRow_trans h.1 g.1, fun i o => g.2 i (h.2 i o)⟩
theorem leRow1_of {r : α} {x y : World} (h : slotLe x y) (hb : base ≤ x.heap.size) : leRow1 enc k e base L r x y := ⟨leRow_of h hb, fun g o => o.kept (h.block g o.lt)⟩
theorem RK.blk {r : α} {W : World} {g : Nat} (h : Blk W g (enc r) e) : RK enc (fun _ => True) (.slice (some ⟨g, 0, none⟩) 1 1) [r] W :=
  ⟨some ⟨g, 0, none⟩, 1, rfl, Nat.le_refl _, fun j u hu => ⟨g, 0, rfl, trivial, by
    rw [List.flatMap_cons, List.flatMap_nil, List.append_nil] at hu
    rw [Nat.zero_add]
    exact h.cell hu⟩⟩
end
end Go.Proofs.YtdbaocphglijbaaDoor

/- A region that draws its order, in a round of a loop over a function, whose operations only read: one walk in the order of the text serves every order. -/
namespace Go.Proofs.YtdbaocphglijbaaDoor
open Go
section
variable {F : Fence} {n : Nat} {P : Program} {ops : Array Oper} {md : Region.Mode} {C : World → Prop}

/-- No operation of the list is a defer statement. -/
def noDefer (ops : Array Oper) : Bool := ops.all fun o => match o.op with | .defer _ => false | _ => true

theorem noDefer_spec (h : noDefer ops = true) {i : Nat} {o : Oper} (hi : ops[i]? = some o) : ∀ c, o.op ≠ .defer c := by
  intro c hc
  unfold noDefer at h
  rw [Array.all_eq_true'] at h
  have := h o (Array.mem_of_getElem? hi)
  rw [hc] at this
  cases this

theorem wpIn_of_quiet_r {o : Oper} {a : Act} {K : Act → Prop} {K' : Act → World → Prop} {Q' : Exit → Act → World → Prop} {w : World} (hnd : ∀ c, o.op ≠ .defer c) (hw : C w) (h : ∀ a w', C w' → K a → K' a w')
    (ha : o.askedIn F P a C) (hh : o.quietIn F n P a C K) : o.wpIn F n P a w K' Q' := by
  obtain ⟨v, h1, h2⟩ := hh
  have h3 := h1 w hw
  unfold Oper.quietAtIn at h3
  unfold Oper.wpIn
  refine ⟨ha w hw, ?_⟩
  rw [Oper.semAt_eq _ _ _ hnd]
  generalize (execOp a.eval o).run P w = r at *
  cases r with
  | ok x w' =>
    cases x <;> simp only [Oper.quietUponIn] at h3 <;> simp only [Oper.uponIn]
    case value u =>
      obtain ⟨e1, e2⟩ := h3
      rw [e1, e2]
      exact h _ _ hw h2
    case skip =>
      obtain ⟨e1, e2⟩ := h3
      rw [e1, ← e2]
      exact h _ _ hw h2
    case enter f args =>
      obtain ⟨e1, hd, hc⟩ := h3
      rw [e1]
      exact ⟨hd, hc.mono fun e w'' ⟨he, hw''⟩ => by subst he; exact h _ _ hw'' h2⟩
  | halt x w' => simp only [Oper.quietUponIn] at h3

theorem wpOpIn_of_qOpIn_r {i : Nat} {a : Act} {K : Act → Prop} {K' : Act → World → Prop} {Q' : Exit → Act → World → Prop} {w : World} (hnd : noDefer ops = true) (hC : C w) (h : ∀ a w', C w' → K a → K' a w')
    (hh : qOpIn F n P ops C i K a) : wpOpIn F n P ops Q' i K' a w := by
  unfold qOpIn at hh
  unfold wpOpIn
  split
  · rename_i ho; simp only [ho] at hh; exact h _ _ hC hh
  · rename_i o ho
    simp only [ho] at hh
    obtain ⟨ha, hh⟩ := hh
    split
    · rename_i hw; simp only [hw, if_true] at hh; exact wpIn_of_quiet_r (noDefer_spec hnd ho) hC h ha hh
    · rename_i hw; simp only [hw] at hh; exact ⟨ha w hC, h _ _ hC hh⟩

theorem wpAnyIn_of_quiet_r {Q : Act → Prop} {Q' : Exit → Act → World → Prop} (hnd : noDefer ops = true) (hQ : ∀ a w, C w → Q a → Q' .normal a w) : ∀ (fuel : Nat) (listed : Array Bool) (a : Act) (w : World), C w →
    wpAnyQIn F n P md ops C Q fuel listed a → wpAnyIn F n P md ops Q' fuel listed a w
  | 0, _, _, _, hw, h => ⟨h.1, hQ _ _ hw h.2⟩
  | fuel + 1, _, _, _, hw, h => ⟨fun h0 => hQ _ _ hw (h.1 h0), fun i hi => wpOpIn_of_qOpIn_r hnd hw (fun a' w' hw' => wpAnyIn_of_quiet_r hnd hQ fuel _ a' w' hw') (h.2 i hi)⟩

theorem wpIn_region_quiet_r {id : Nat} {Q : Exit → Act → World → Prop} {a : Act} {w : World} (hnd : noDefer ops = true) (hm : P.follows .mixedOrders = true) (hB : Region.lexB .any ops = true) (hC : C { w with drawn := w.drawn + 1 })
    (h : wpQuietIn F n P ops C (fun a' => ∀ w', C w' → Q .normal a' w') ops.toList a) : (Code.region id ops true).wpIn F n P Q a w := by
  simp only [Region.lexB, Bool.and_eq_true] at hB
  refine wpIn_region_any hm (wpAnyIn_of_quiet_r (Q := fun a' => ∀ w', C w' → Q .normal a' w') hnd (fun _ w' hw' h => h w' hw') _ _ _ _ hC ?_)
  have := wpAnyQIn_lex (F := F) (n := n) (C := C) (md := .any) hB.1 ops.toList 0 (Array.replicate ops.size false) a (by simp) (by simpa using hB.2) h
  simpa using this

/-- At the class: some draws. -/
theorem wpIn_region_quiet_rlit {id : Nat} {Q : Exit → Act → World → Prop} {a : Act} {w : World} {l : List Oper} (hnd : noDefer l.toArray = true) (hm : P.follows .mixedOrders = true) (hB : Region.lexB .any l.toArray = true)
    (h : wpQuietIn F n P l.toArray (fun w' => ∃ n, w' = w.drewN n) (fun a' => ∀ w', (∃ n, w' = w.drewN n) → Q .normal a' w') l a) : (Code.region id l.toArray true).wpIn F n P Q a w :=
  wpIn_region_quiet_r (C := fun w' => ∃ n, w' = w.drewN n) hnd hm hB ⟨1, rfl⟩ (by simpa using h)
/-- At whatever class. -/
theorem wpIn_region_class {id : Nat} {Q : Exit → Act → World → Prop} {a : Act} {w : World} {l : List Oper} (C : World → Prop) (hnd : noDefer l.toArray = true) (hm : P.follows .mixedOrders = true) (hB : Region.lexB .any l.toArray = true) (hC : C w.drew)
    (h : wpQuietIn F n P l.toArray C (fun a' => ∀ w', C w' → Q .normal a' w') l a) : (Code.region id l.toArray true).wpIn F n P Q a w :=
  wpIn_region_quiet_r (C := C) hnd hm hB hC (by simpa using h)
end

/-- A world that has grown out of W: what lay in W lies as it lay. -/
structure Grew (W : World) : Type where
  w : World
  below : RowKit.Below W.heap.size W w

instance Grew.some_world (W : World) : Nonempty (Grew W) := ⟨⟨W, RowKit.Below.refl _ W⟩⟩
theorem Grew.cell {W : World} {a : Addr} {v : Value} (h : W.cell? a = some v) (i : Grew W) : i.w.cell? a = some v := by
  have hl : a.block < W.heap.size := by
    rcases Nat.lt_or_ge a.block W.heap.size with h' | h'
    · exact h'
    · simp [World.cell?, Array.getElem?_eq_none h'] at h
  exact (i.below.cell hl).trans h
theorem Grew.calls {F : Fence} {n : Nat} {P : Program} {f : FuncId} {args : Array Value} {W : World} (i : Grew W) (v : Value) (h : CallsIn F n P f args i.w fun e w' => e = .returned v ∧ RowKit.Below i.w.heap.size i.w w') :
    CallsIn F n P f args i.w fun e w'' => e = .returned v ∧ ∃ j : Grew W, w'' = j.w :=
  h.mono fun _ _ ⟨he, hb⟩ => ⟨he, ⟨_, i.below.trans (hb.mono i.below.size)⟩, rfl⟩
theorem wpIn_region_grew {F : Fence} {n : Nat} {P : Program} {id : Nat} {Q : Exit → Act → World → Prop} {a : Act} {W : World} {l : List Oper} (hnd : noDefer l.toArray = true) (hm : P.follows .mixedOrders = true) (hB : Region.lexB .any l.toArray = true)
    (h : wpQuietIn F n P l.toArray (fun w' => ∃ i : Grew W, w' = i.w) (fun a' => ∀ w', (∃ i : Grew W, w' = i.w) → Q .normal a' w') l a) : (Code.region id l.toArray true).wpIn F n P Q a W :=
  wpIn_region_class (fun w' => ∃ i : Grew W, w' = i.w) hnd hm hB ⟨⟨W.drew, (RowKit.Below.refl _ W).drew⟩, rfl⟩ h
end Go.Proofs.YtdbaocphglijbaaDoor

/- The law of slots in a round of a range over a function. -/
namespace Go.Proofs.YtdbaocphglijbaaDoor
open Go

theorem rowsIn_wide {l n : Nat} {P : Program} {row : String} {args : Array Value} {w : World} {R : Value → World → Prop} (h : Rows P row args w R) : RowsIn (Fence.wide.inRound l) n P row args w R := by
  intro c cs _
  obtain ⟨v, w', r, s⟩ := h c cs
  exact ⟨v, w', r, (stepsIn_wide (P := P)).2 s⟩
theorem wpIn_of_wp {l n : Nat} {P : Program} {o : Oper} {a : Act} {w : World} {K : Act → World → Prop} {Q : Exit → Act → World → Prop} (hd : ∀ c, o.op ≠ .defer c) (h : o.wp P a w K Q) : o.wpIn (Fence.wide.inRound l) n P a w K Q := by
  refine ⟨fun _ _ => trivial, ?_⟩
  rw [Oper.semAt_eq _ _ _ hd]
  unfold Oper.wp at h
  generalize (execOp a.eval o).run P w = res at h
  cases res with
  | ok x w' =>
    cases x with
    | value v => exact h
    | skip => exact h
    | defer d => exact h
    | enter f args => exact ⟨fun e => by simp [Fence.wide] at e, CallsIn.inRound l (callsIn_wide.2 h)⟩
    | row row args => exact ⟨fun e => by simp [Fence.wide] at e, rowsIn_wide h⟩
    | _ => first | exact h.elim | exact h
  | halt x w' =>
    cases x with
    | panic v => exact h
    | _ => first | exact h.elim | exact h

theorem countP_lt {l : List Nat} {p q : Nat → Bool} {i : Nat} (hi : i ∈ l) (hpq : ∀ j ∈ l, p j = true → q j = true) (hq : q i = true) (hp : p i = false) : l.countP p < l.countP q := by
  induction l with
  | nil => cases hi
  | cons x l ih =>
    rw [List.countP_cons, List.countP_cons]
    rcases List.mem_cons.1 hi with rfl | hi
    · have := List.countP_mono_left (p := p) (q := q) (l := l) (fun j hj => hpq j (List.mem_cons_of_mem _ hj))
      rw [hq, hp]
      simp
      omega
    · have h1 := ih hi (fun j hj => hpq j (List.mem_cons_of_mem _ hj))
      have h2 := hpq x (List.mem_cons_self ..)
      cases hpx : p x <;> cases hqx : q x <;> simp_all <;> omega

section
variable {P : Program} {ops : Array Oper} {Q : Exit → Act → World → Prop} {le : World → World → Prop} {φ : Nat → Value → World → Prop} {a0 : Act} {w0 : World}
theorem wpAnyIn_of_steps {r n : Nat} (hnd : noDefer ops = true) (trans : ∀ {x y z}, le x y → le y z → le x z) (stable : ∀ j v x y, le x y → φ j v x → φ j v y) (hD : dstsOk ops a0.tmps.size = true)
    (steps : ∀ i o, ops[i]? = some o → StepOk P ops Q le φ a0 w0 i o)
    (fin : ∀ listed a w, Inv ops le φ a0 w0 listed a w → Region.ready .any ops listed = [] → Q .normal a w) :
    ∀ (fuel : Nat) (listed : Array Bool) (a : Act) (w : World), Inv ops le φ a0 w0 listed a w → (List.range ops.size).countP (fun i => !listed.getD i true) ≤ fuel → wpAnyIn (Fence.wide.inRound r) n P .any ops Q fuel listed a w
  | 0, listed, a, w, I, hc => by
    have : Region.ready .any ops listed = [] := by
      rw [List.eq_nil_iff_forall_not_mem]
      intro i hi
      obtain ⟨hn, o, ho, _⟩ := mem_ready.1 hi
      have hlt : i < ops.size := (Array.getElem?_eq_some_iff.1 ho).1
      have : 0 < (List.range ops.size).countP (fun i => !listed.getD i true) := List.countP_pos_iff.2 ⟨i, List.mem_range.2 hlt, by simp only [hn, Bool.not_false]⟩
      omega
    exact ⟨this, fin listed a w I this⟩
  | fuel + 1, listed, a, w, I, hc => by
    refine ⟨fun h => fin listed a w I h, fun i hi => ?_⟩
    obtain ⟨hn, o, ho, _⟩ := mem_ready.1 hi
    have hlt : i < ops.size := (Array.getElem?_eq_some_iff.1 ho).1
    have hs := steps i o ho a w (fun a' w' => wpAnyIn (Fence.wide.inRound r) n P .any ops Q fuel (listed.setIfInBounds i true) a' w') (I.now hi)
      (fun v w' hw hv => wpAnyIn_of_steps hnd trans stable hD steps fin fuel _ _ _ (I.step trans stable hD hi ho hw (fun _ _ => hv)) (by
        have hlt' : i < listed.size := by rw [I.size]; exact hlt
        have h1 : (List.range ops.size).countP (fun j => !(listed.setIfInBounds i true).getD j true) < (List.range ops.size).countP (fun i => !listed.getD i true) := by
          refine countP_lt (i := i) (List.mem_range.2 hlt) ?_ ?_ ?_
          · intro j _ hj
            by_cases hji : j = i
            · subst hji; rw [hn]; rfl
            · rw [getD_set_ne true (Ne.symm hji)] at hj; exact hj
          · rw [hn]; rfl
          · simp [Array.getD_eq_getD_getElem?, Array.getElem?_setIfInBounds_self_of_lt hlt']
        omega))
    unfold wpOpIn
    rw [ho]
    simp only
    split
    · rename_i hw; rw [if_pos hw] at hs; exact wpIn_of_wp (noDefer_spec hnd ho) hs
    · rename_i hw; rw [if_neg hw] at hs; exact ⟨fun _ _ => trivial, hs⟩
/-- The law. -/
theorem wpIn_region_slots {id r n : Nat} {l : List Oper} (le : World → World → Prop) (φ : Nat → Value → World → Prop) (refl : ∀ x, le x x) (trans : ∀ {x y z}, le x y → le y z → le x z) (stable : ∀ j v x y, le x y → φ j v x → φ j v y)
    (hm : P.follows .mixedOrders = true) (hnd : noDefer l.toArray = true) (hF : fwdOk l.toArray = true) (hD : dstsOk l.toArray a0.tmps.size = true)
    (steps : StepsOk P l.toArray Q le φ a0 w0.drew 0 l)
    (fin : ∀ w, le w0.drew w → FinAll φ w (fun a => Q .normal a w) 0 l a0) :
    (Code.region id l.toArray true).wpIn (Fence.wide.inRound r) n P Q a0 w0 := by
  refine wpIn_region_any hm ?_
  refine wpAnyIn_of_steps (le := le) (φ := φ) (a0 := a0) (w0 := w0.drew) hnd trans stable hD (fun i o ho => ?_) (fun listed a w I hr => ?_) _ _ _ _ ?_ ?_
  · have := stepsOk_at l 0 steps i o (by simpa using ho)
    rwa [Nat.zero_add] at this
  · have hall := fun i hi => all_listed hF I.size hr (i + 1) i (Nat.lt_succ_self i) hi
    have hf := finAll_take (fun d => a.eval (.tmp d)) l 0 a0 (fin w I.le) (fun j o d hj hd => by
      rw [Nat.zero_add]
      have hj' : l.toArray[j]? = some o := by simpa using hj
      exact I.done j d (by unfold dstAt; rw [hj']; exact hd) (hall j (Array.getElem?_eq_some_iff.1 hj').1))
    have hin : ∀ o ∈ l, ∀ d, o.dst = some d → d < a0.tmps.size := by
      intro o ho d hd
      obtain ⟨j, hj⟩ := List.getElem?_of_mem ho
      have hj' : l.toArray[j]? = some o := by simpa using hj
      unfold dstsOk at hD
      rw [List.all_eq_true] at hD
      have := hD j (List.mem_range.2 (Array.getElem?_eq_some_iff.1 hj').1)
      have e : dstAt l.toArray j = some d := by unfold dstAt; rw [hj']; exact hd
      rw [e] at this
      simp only [Bool.and_eq_true, decide_eq_true_eq] at this
      exact this.1
    have hs := putAll_size (fun d => a.eval (.tmp d)) l a0
    have : putAll a0 l (fun d => a.eval (.tmp d)) = a := by
      refine act_ext (hs.1.trans I.tmps.symm) (hs.2.trans I.defers.symm) fun k => ?_
      rw [putAll_get _ _ _ _ hin]
      split
      · rfl
      · rename_i h
        refine (I.rest k fun j hj hd => h ?_).symm
        rw [List.any_eq_true]
        unfold dstAt at hd
        cases ho : l.toArray[j]? with
        | none => rw [ho] at hd; cases hd
        | some o =>
          rw [ho] at hd
          exact ⟨o, List.mem_of_getElem? (by simpa using ho), by simpa using hd⟩
    rw [this] at hf
    exact hf
  · refine ⟨by simp, refl _, rfl, rfl, ?_, ?_, fun k _ => rfl⟩
    · intro j o _ hl
      simp only [Array.getD_eq_getD_getElem?, Array.getElem?_replicate] at hl
      split at hl <;> cases hl
    · intro j d _ hl
      simp only [Array.getD_eq_getD_getElem?, Array.getElem?_replicate] at hl
      split at hl <;> cases hl
  · have := List.countP_le_length (p := fun i => !(Array.replicate l.toArray.size false).getD i true) (l := List.range l.toArray.size)
    simpa using this
end
end Go.Proofs.YtdbaocphglijbaaDoor

/- A region that draws its order, whose operations only read, or call what makes memory, ahead of one last operation (a store) that waits for all of them: one walk in the order of the text serves every order. -/
namespace Go.Proofs.YtdbaocphglijbaaDoor
open Go
section
variable {F : Fence} {n : Nat} {P : Program} {md : Region.Mode} {C : World → Prop}

/-- Each operation waits for earlier ones alone. -/
def backB (md : Region.Mode) (ops : Array Oper) : Bool := (List.range ops.size).all fun k => match ops[k]? with | some o => o.after.all (fun e => !Region.binds md e || decide (e.on < k)) | none => true
/-- The operation m waits for all ahead of it. -/
def lastB (md : Region.Mode) (ops : Array Oper) (m : Nat) : Bool := match ops[m]? with | some o => (List.range m).all fun i => o.after.any fun e => Region.binds md e && e.on == i | none => false

theorem ready_ne {ops : Array Oper} {listed : Array Bool} (hb : backB md ops = true) (hs : listed.size = ops.size) {m : Nat} (hm : m < ops.size) (hu : listed.getD m true = false) : Region.ready md ops listed ≠ [] := by
  have key : ∀ k, k < ops.size → listed.getD k true = false → Region.ready md ops listed ≠ [] := by
    intro k
    induction k using Nat.strongRecOn with
    | _ k ih =>
      intro hk hun
      by_cases h : ∃ j, j < k ∧ listed.getD j true = false
      · obtain ⟨j, hj, hju⟩ := h
        exact ih j hj (by omega) hju
      · intro e
        have hmem : k ∈ Region.ready md ops listed := by
          refine mem_ready.2 ⟨hun, ops[k], Array.getElem?_eq_getElem hk, fun ed hed hbd => ?_⟩
          have h1 := List.all_eq_true.1 hb k (List.mem_range.2 hk)
          rw [Array.getElem?_eq_getElem hk] at h1
          have h2 := Array.all_eq_true_iff_forall_mem.1 h1 ed hed
          simp only [hbd, Bool.not_true, Bool.false_or, decide_eq_true_eq] at h2
          have h3 : ¬ listed.getD ed.on true = false := fun h3 => h ⟨ed.on, h2, h3⟩
          have h4 : ed.on < listed.size := by omega
          simp only [Array.getD, h4, dite_true] at h3 ⊢
          simpa using h3
        rw [e] at hmem
        cases hmem
  exact key m hm hu
theorem last_all {ops : Array Oper} {listed : Array Bool} {m : Nat} (hl : lastB md ops m = true) (hr : m ∈ Region.ready md ops listed) : ∀ i, i < m → listed.getD i false = true := by
  intro i hi
  obtain ⟨_, o, ho, hall⟩ := mem_ready.1 hr
  unfold lastB at hl
  rw [ho] at hl
  have h1 := List.all_eq_true.1 hl i (List.mem_range.2 hi)
  obtain ⟨e, he, hb⟩ := Array.any_eq_true'.1 h1
  simp only [Bool.and_eq_true, beq_iff_eq] at hb
  have := hall e he hb.1
  rw [hb.2] at this
  exact this
theorem ready_done {ops : Array Oper} {listed : Array Bool} {m : Nat} (hs : listed.size = ops.size) (hm : m + 1 = ops.size) (h : ∀ i, i < m → listed.getD i false = true) : Region.ready md ops (listed.setIfInBounds m true) = [] := by
  apply List.eq_nil_iff_forall_not_mem.2
  intro j hj
  obtain ⟨hun, o, ho, _⟩ := mem_ready.1 hj
  have hjl : j < ops.size := (Array.getElem?_eq_some_iff.1 ho).1
  by_cases e : j = m
  · subst e
    have : j < listed.size := by omega
    simp [Array.getD, this] at hun
  · have h1 := h j (by omega)
    rw [getD_set_ne true (fun e' => e e'.symm)] at hun
    rw [getD_both hun] at h1
    cases h1
theorem ready_congr {ops ops' : Array Oper} (hsz : ops'.size = ops.size) (haft : ∀ i : Nat, (ops'[i]?).map Oper.after = (ops[i]?).map Oper.after) (listed : Array Bool) : Region.ready md ops' listed = Region.ready md ops listed := by
  unfold Region.ready
  rw [hsz]
  apply List.filter_congr
  intro i _
  have e : ∀ (ops : Array Oper), ((ops[i]?).map (fun o : Oper => o.after.all fun e => !Region.binds md e || listed.getD e.on false)) = ((ops[i]?).map Oper.after).map (fun x => x.all fun e => !Region.binds md e || listed.getD e.on false) := fun ops => by rw [Option.map_map]; rfl
  rw [e ops', e ops, haft i]

/-- An operation that yields nothing, in the place of the last one. -/
def idle (t : Oper) : Oper := { t with op := .move (.const undef) }
def swapL : List Oper → List Oper
  | [] => []
  | [t] => [idle t]
  | o :: p :: r => o :: swapL (p :: r)
theorem swapL_app : ∀ (l : List Oper) (t : Oper), swapL (l ++ [t]) = l ++ [idle t]
  | [], t => rfl
  | [o], t => rfl
  | o :: p :: r, t => by
    show o :: swapL (p :: r ++ [t]) = _
    rw [swapL_app (p :: r) t]
    rfl

variable {ops ops' : Array Oper} {m : Nat} {t : Oper}
theorem yielded_congr (hd : ∀ i : Nat, (ops'[i]?).map Oper.dst = (ops[i]?).map Oper.dst) (tmps : Array Value) : yielded ops' tmps = yielded ops tmps := by
  funext j
  unfold yielded
  have e : ∀ (ops : Array Oper), (ops[j]?).bind Oper.dst = ((ops[j]?).map Oper.dst).bind id := fun ops => by cases ops[j]? <;> rfl
  rw [e ops', e ops, hd j]

theorem wpAnyIn_tail {Q : Act → Prop} {Q' : Exit → Act → World → Prop} (hsz : ops'.size = ops.size) (hm : m + 1 = ops.size) (hother : ∀ i, i ≠ m → ops'[i]? = ops[i]?) (ht : ops[m]? = some t) (ht' : ops'[m]? = some (idle t)) (htd : t.dst = none) (htg : t.guard = none)
    (hback : backB md ops = true) (hlast : lastB md ops m = true) (hnd : noDefer ops = true) (hQ : ∀ a w, C w → Q a → wpListIn F n P ops Q' [t] a w) :
    ∀ (fuel : Nat) (listed : Array Bool) (a : Act) (w : World), listed.size = ops.size → listed.getD m true = false → C w → wpAnyQIn F n P md ops' C Q fuel listed a → wpAnyIn F n P md ops Q' fuel listed a w := by
  have haft : ∀ i : Nat, (ops'[i]?).map Oper.after = (ops[i]?).map Oper.after := fun i => by
    by_cases e : i = m
    · rw [e, ht, ht']; rfl
    · rw [hother i e]
  have hdst : ∀ i : Nat, (ops'[i]?).map Oper.dst = (ops[i]?).map Oper.dst := fun i => by
    by_cases e : i = m
    · rw [e, ht, ht']; rfl
    · rw [hother i e]
  have hrd := ready_congr (md := md) hsz haft
  intro fuel
  induction fuel with
  | zero =>
    intro listed a w hs hu hC h
    have h0 := h.1
    rw [hrd] at h0
    exact absurd h0 (ready_ne hback hs (by omega) hu)
  | succ fuel ih =>
    intro listed a w hs hu hC h
    refine ⟨fun h0 => absurd h0 (ready_ne hback hs (by omega) hu), fun i hi => ?_⟩
    have hi' : i ∈ Region.ready md ops' listed := by rw [hrd]; exact hi
    have hq := h.2 i hi'
    by_cases e : i = m
    · rw [e] at hi hq ⊢
      have hd := ready_done (md := md) hs hm (last_all hlast hi)
      have hQa : Q a := by
        unfold qOpIn at hq
        simp only [ht'] at hq
        have hw : Region.wanted (idle t) (yielded ops' a.tmps) = true := by unfold Region.wanted idle; simp only [htg]
        rw [hw] at hq
        simp only [if_true] at hq
        obtain ⟨_, v, _, hK⟩ := hq
        have hput : a.put (idle t).dst v = a := by
          have : (idle t).dst = none := htd
          rw [this]; rfl
        rw [hput] at hK
        cases fuel with
        | zero => exact hK.2
        | succ f => exact hK.1 (by rw [hrd]; exact hd)
      have hl := hQ a w hC hQa
      unfold wpOpIn
      simp only [ht]
      have hfin : ∀ (a' : Act) (w' : World), Q' .normal a' w' → wpAnyIn F n P md ops Q' fuel (listed.setIfInBounds m true) a' w' := fun a' w' h' => by
        cases fuel with
        | zero => exact ⟨hd, h'⟩
        | succ f => exact ⟨fun _ => h', fun j hj => by rw [hd] at hj; cases hj⟩
      unfold wpListIn at hl
      by_cases hw : Region.wanted t (yielded ops a.tmps) = true
      · rw [if_pos hw] at hl ⊢
        exact Oper.wpIn_mono (fun a' w' h' => hfin a' w' h') hl
      · rw [if_neg hw] at hl ⊢
        exact ⟨hl.1, hfin _ _ hl.2⟩
    · have hun : (listed.setIfInBounds i true).getD m true = false := by
        rw [getD_set_ne true e]
        exact hu
      have hq2 : qOpIn F n P ops C i (wpAnyQIn F n P md ops' C Q fuel (listed.setIfInBounds i true)) a := by
        unfold qOpIn at hq ⊢
        rw [hother i e, yielded_congr hdst] at hq
        exact hq
      exact wpOpIn_of_qOpIn_r hnd hC (fun a' w' hw' hh => ih _ a' w' (by simpa using hs) hun hw' hh) hq2

theorem wpIn_region_tail {id : Nat} {l : List Oper} {Q : Exit → Act → World → Prop} {a : Act} {w : World} (C : World → Prop) (htd : t.dst = none) (htg : t.guard = none) (hback : backB .any (l ++ [t]).toArray = true) (hlast : lastB .any (l ++ [t]).toArray l.length = true)
    (hnd : noDefer (l ++ [t]).toArray = true) (hmx : P.follows .mixedOrders = true) (hB : Region.lexB .any (l ++ [idle t]).toArray = true) (hC : C w.drew)
    (h : wpQuietIn F n P (l ++ [idle t]).toArray C (fun a' => ∀ w', C w' → wpListIn F n P (l ++ [t]).toArray Q [t] a' w') (l ++ [idle t]) a) : (Code.region id (l ++ [t]).toArray true).wpIn F n P Q a w := by
  simp only [Region.lexB, Bool.and_eq_true] at hB
  refine wpIn_region_any hmx ?_
  refine wpAnyIn_tail (C := C) (ops' := (l ++ [idle t]).toArray) (m := l.length) (t := t) (Q := fun a' => ∀ w', C w' → wpListIn F n P (l ++ [t]).toArray Q [t] a' w') (by simp) (by simp) (fun i hi => ?_) (by simp) (by simp) htd htg hback hlast hnd (fun a w hw h => h w hw) _ _ _ _ (by simp) (by simp [Array.getD]) hC ?_
  · simp only [List.getElem?_toArray]
    rcases Nat.lt_or_ge i l.length with h1 | h1
    · rw [List.getElem?_append_left h1, List.getElem?_append_left h1]
    · rw [List.getElem?_eq_none (by simp; omega), List.getElem?_eq_none (by simp; omega)]
  · have h2 := wpAnyQIn_lex (F := F) (n := n) (C := C) (md := .any) hB.1 (l ++ [idle t]) 0 (Array.replicate (l ++ [idle t]).toArray.size false) a (by simp) (by simpa using hB.2) h
    simpa using h2
theorem swapL_eq {L : List Oper} (hne : L ≠ []) : swapL L = L.dropLast ++ [idle (L.getLast hne)] := by
  have h := swapL_app L.dropLast (L.getLast hne)
  rw [List.dropLast_concat_getLast hne] at h
  exact h
/-- At a list that is written out, in the class of the worlds that have grown out of W. -/
theorem wpIn_region_tailG {id : Nat} {L : List Oper} {Q : Exit → Act → World → Prop} {a : Act} {W : World} (hne : L ≠ []) (htd : (L.getLast hne).dst = none) (htg : (L.getLast hne).guard = none) (hback : backB .any L.toArray = true) (hlast : lastB .any L.toArray (L.length - 1) = true)
    (hnd : noDefer L.toArray = true) (hmx : P.follows .mixedOrders = true) (hB : Region.lexB .any (swapL L).toArray = true)
    (h : wpQuietIn F n P (swapL L).toArray (fun w' => ∃ i : Grew W, w' = i.w) (fun a' => ∀ w', (∃ i : Grew W, w' = i.w) → wpListIn F n P L.toArray Q [L.getLast hne] a' w') (swapL L) a) : (Code.region id L.toArray true).wpIn F n P Q a W := by
  have e := List.dropLast_concat_getLast hne
  rw [swapL_eq hne] at hB h
  have h2 := wpIn_region_tail (F := F) (n := n) (P := P) (id := id) (l := L.dropLast) (t := L.getLast hne) (Q := Q) (a := a) (w := W) (fun w' => ∃ i : Grew W, w' = i.w) htd htg (by rw [e]; exact hback) (by rw [e, List.length_dropLast]; exact hlast) (by rw [e]; exact hnd) hmx hB ⟨⟨W.drew, (RowKit.Below.refl _ W).drew⟩, rfl⟩ (by rw [e]; exact h)
  rw [e] at h2
  exact h2
/-- The idle operation at the walk's end. -/
theorem wpQuietIn_idle {ops : Array Oper} {Q : Act → Prop} {a : Act} (htd : t.dst = none) (htg : t.guard = none) (h : Q a) : wpQuietIn F n P ops C Q [idle t] a := by
  refine wpQuietIn_step (fun w _ f hf => ?_) (fun K hK => ?_)
  · simp [Oper.about, idle] at hf
  · have hw : Region.wanted (idle t) (yielded ops a.tmps) = true := by unfold Region.wanted idle; simp only [htg]
    rw [hw]
    simp only [if_true]
    refine ⟨undef, fun w _ => ?_, ?_⟩
    · simp [Oper.quietAtIn, idle, execOp, Oper.quietUponIn]
      rfl
    · have : (idle t).dst = none := htd
      rw [this]
      exact hK _ h
end
end Go.Proofs.YtdbaocphglijbaaDoor

/- The law of slots, the last operation being another matter: it waits for all others, and is walked behind them. -/
namespace Go.Proofs.YtdbaocphglijbaaDoor
open Go

/-- Each operation ahead of m is waited for by one behind it, up to m. -/
def chainB (ops : Array Oper) (m : Nat) : Bool := (List.range m).all fun i => (List.range (m + 1)).any fun j => decide (i < j) && waitsFor ops j i
section
variable {P : Program} {ops : Array Oper} {Q : Exit → Act → World → Prop} {le : World → World → Prop} {φ : Nat → Value → World → Prop} {a0 : Act} {w0 : World}
theorem Inv.dep {listed : Array Bool} {a : Act} {w : World} (I : Inv ops le φ a0 w0 listed a w) {j i : Nat} (hw : waitsFor ops j i = true) (hj : listed.getD j false = true ∨ j ∈ Region.ready .any ops listed) : listed.getD i false = true := by
  unfold waitsFor at hw
  cases ho : ops[j]? with
  | none => rw [ho] at hw; cases hw
  | some o =>
    rw [ho] at hw
    simp only [Option.map_some, Option.getD_some] at hw
    rw [Array.any_eq_true'] at hw
    obtain ⟨e, he, hb⟩ := hw
    simp only [Bool.and_eq_true, beq_iff_eq] at hb
    rw [← hb.2]
    rcases hj with hj | hj
    · exact I.closed j o ho hj e he hb.1
    · obtain ⟨_, o', ho', hall⟩ := mem_ready.1 hj
      rw [ho] at ho'; cases ho'
      exact hall e he hb.1
theorem Inv.last {listed : Array Bool} {a : Act} {w : World} (I : Inv ops le φ a0 w0 listed a w) {m : Nat} (hc : chainB ops m = true) (hm : m ∈ Region.ready .any ops listed) : ∀ k i, m ≤ i + k → i < m → listed.getD i false = true
  | 0, i, h, hi => by omega
  | k + 1, i, h, hi => by
    unfold chainB at hc
    have h1 := List.all_eq_true.1 hc i (List.mem_range.2 hi)
    obtain ⟨j, hj, h2⟩ := List.any_eq_true.1 h1
    simp only [Bool.and_eq_true, decide_eq_true_eq] at h2
    rw [List.mem_range] at hj
    by_cases hjm : j = m
    · subst hjm; exact I.dep h2.2 (.inr hm)
    · exact I.dep h2.2 (.inl (I.last hc hm k j (by omega) (by omega)))

theorem wpIn_region_slotsT_any {l : List Oper} {t : Oper} {r n : Nat} (hnd : noDefer ops = true) (hops : ops = (l ++ [t]).toArray) (htg : t.guard = none) (hF : fwdOk ops = true) (hc : chainB ops l.length = true) (trans : ∀ {x y z}, le x y → le y z → le x z) (stable : ∀ j v x y, le x y → φ j v x → φ j v y) (hD : dstsOk ops a0.tmps.size = true)
    (steps : ∀ i o, i < l.length → ops[i]? = some o → StepOk P ops Q le φ a0 w0 i o)
    (fin : ∀ w, le w0 w → FinAll φ w (fun a => wpListIn (Fence.wide.inRound r) n P ops Q [t] a w) 0 l a0) :
    ∀ (fuel : Nat) (listed : Array Bool) (a : Act) (w : World), Inv ops le φ a0 w0 listed a w → listed.getD l.length true = false → (List.range ops.size).countP (fun i => !listed.getD i true) ≤ fuel → wpAnyIn (Fence.wide.inRound r) n P .any ops Q fuel listed a w
  | 0, listed, a, w, I, hu, hcnt => by
    have hlt : l.length < ops.size := by rw [hops]; simp
    have : 0 < (List.range ops.size).countP (fun i => !listed.getD i true) := List.countP_pos_iff.2 ⟨l.length, List.mem_range.2 hlt, by simp only [hu, Bool.not_false]⟩
    omega
  | fuel + 1, listed, a, w, I, hu, hcnt => by
    have hlt : l.length < ops.size := by rw [hops]; simp
    have ht : ops[l.length]? = some t := by rw [hops]; simp
    have hne : Region.ready .any ops listed ≠ [] := fun e => by
      have h1 := all_listed hF I.size e (l.length + 1) l.length (Nat.lt_succ_self _) hlt
      rw [getD_true_false (by rw [I.size]; exact hlt) hu] at h1
      cases h1
    refine ⟨fun h => absurd h hne, fun i hi => ?_⟩
    obtain ⟨hn, o, ho, _⟩ := mem_ready.1 hi
    have hilt : i < ops.size := (Array.getElem?_eq_some_iff.1 ho).1
    by_cases him : i = l.length
    · subst him
      rw [ht] at ho; cases ho
      have hall : ∀ j, j < l.length → listed.getD j false = true := fun j hj => I.last hc hi l.length j (by omega) hj
      have hidx : ∀ j o, l[j]? = some o → ops[j]? = some o := fun j o hj => by
        rw [hops, List.getElem?_toArray, List.getElem?_append_left (List.getElem?_eq_some_iff.1 hj).1]; exact hj
      have hf := finAll_take (fun d => a.eval (.tmp d)) l 0 a0 (fin w I.le) (fun j o d hj hd => by
        rw [Nat.zero_add]
        exact I.done j d (by unfold dstAt; rw [hidx j o hj]; exact hd) (hall j (List.getElem?_eq_some_iff.1 hj).1))
      have hin : ∀ o ∈ l, ∀ d, o.dst = some d → d < a0.tmps.size := by
        intro o ho d hd
        obtain ⟨j, hj⟩ := List.getElem?_of_mem ho
        have hj' := hidx j o hj
        unfold dstsOk at hD
        rw [List.all_eq_true] at hD
        have := hD j (List.mem_range.2 (Array.getElem?_eq_some_iff.1 hj').1)
        have e : dstAt ops j = some d := by unfold dstAt; rw [hj']; exact hd
        rw [e] at this
        simp only [Bool.and_eq_true, decide_eq_true_eq] at this
        exact this.1
      have hs := putAll_size (fun d => a.eval (.tmp d)) l a0
      have hpa : putAll a0 l (fun d => a.eval (.tmp d)) = a := by
        refine act_ext (hs.1.trans I.tmps.symm) (hs.2.trans I.defers.symm) fun k => ?_
        rw [putAll_get _ _ _ _ hin]
        split
        · rfl
        · rename_i h
          refine (I.rest k fun j hj hd => h ?_).symm
          rw [List.any_eq_true]
          have hjl : j ≠ l.length := fun e => by
            subst e
            rw [getD_true_false (by rw [I.size]; exact hlt) hu] at hj
            cases hj
          unfold dstAt at hd
          cases ho : ops[j]? with
          | none => rw [ho] at hd; cases hd
          | some o =>
            rw [ho] at hd
            have hj2 : j < ops.size := (Array.getElem?_eq_some_iff.1 ho).1
            have hjlt : j < l.length := by have : ops.size = l.length + 1 := by rw [hops]; simp
                                           omega
            refine ⟨o, ?_, by simpa using hd⟩
            rw [hops, List.getElem?_toArray, List.getElem?_append_left hjlt] at ho
            exact List.mem_of_getElem? ho
      rw [hpa] at hf
      have hd : Region.ready .any ops (listed.setIfInBounds l.length true) = [] := ready_done I.size (by rw [hops]; simp) hall
      have hw : Region.wanted t (yielded ops a.tmps) = true := wanted_no htg
      unfold wpOpIn
      simp only [ht]
      have hfin : ∀ (a' : Act) (w' : World), Q .normal a' w' → wpAnyIn (Fence.wide.inRound r) n P .any ops Q fuel (listed.setIfInBounds l.length true) a' w' := fun a' w' h' => by
        cases fuel with
        | zero => exact ⟨hd, h'⟩
        | succ f => exact ⟨fun _ => h', fun j hj => by rw [hd] at hj; cases hj⟩
      unfold wpListIn at hf
      rw [if_pos hw] at hf ⊢
      exact Oper.wpIn_mono (fun a' w' h' => hfin a' w' h') hf
    · have hs := steps i o (by have : ops.size = l.length + 1 := by rw [hops]; simp
                               omega) ho a w (fun a' w' => wpAnyIn (Fence.wide.inRound r) n P .any ops Q fuel (listed.setIfInBounds i true) a' w') (I.now hi)
        (fun v w' hw hv => wpIn_region_slotsT_any hnd hops htg hF hc trans stable hD steps fin fuel _ _ _ (I.step trans stable hD hi ho hw (fun _ _ => hv)) (by rw [getD_set_ne true him]; exact hu) (by
          have hlt' : i < listed.size := by rw [I.size]; exact hilt
          have h1 : (List.range ops.size).countP (fun j => !(listed.setIfInBounds i true).getD j true) < (List.range ops.size).countP (fun i => !listed.getD i true) := by
            refine countP_lt (i := i) (List.mem_range.2 hilt) ?_ ?_ ?_
            · intro j _ hj
              by_cases hji : j = i
              · subst hji; rw [hn]; rfl
              · rw [getD_set_ne true (Ne.symm hji)] at hj; exact hj
            · rw [hn]; rfl
            · simp [Array.getD_eq_getD_getElem?, Array.getElem?_setIfInBounds_self_of_lt hlt']
          omega))
      unfold wpOpIn
      rw [ho]
      simp only
      split
      · rename_i hw; rw [if_pos hw] at hs; exact wpIn_of_wp (noDefer_spec hnd ho) hs
      · rename_i hw; rw [if_neg hw] at hs; exact ⟨fun _ _ => trivial, hs⟩

/-- The law. -/
theorem wpIn_region_slotsT {id : Nat} {l : List Oper} {t : Oper} {r n : Nat} (hnd : noDefer (l ++ [t]).toArray = true) (le : World → World → Prop) (φ : Nat → Value → World → Prop) (refl : ∀ x, le x x) (trans : ∀ {x y z}, le x y → le y z → le x z) (stable : ∀ j v x y, le x y → φ j v x → φ j v y)
    (hm : P.follows .mixedOrders = true) (htg : t.guard = none) (hF : fwdOk (l ++ [t]).toArray = true) (hc : chainB (l ++ [t]).toArray l.length = true) (hD : dstsOk (l ++ [t]).toArray a0.tmps.size = true)
    (steps : StepsOk P (l ++ [t]).toArray Q le φ a0 w0.drew 0 l)
    (fin : ∀ w, le w0.drew w → FinAll φ w (fun a => wpListIn (Fence.wide.inRound r) n P (l ++ [t]).toArray Q [t] a w) 0 l a0) :
    (Code.region id (l ++ [t]).toArray true).wpIn (Fence.wide.inRound r) n P Q a0 w0 := by
  refine wpIn_region_any hm ?_
  refine wpIn_region_slotsT_any hnd (le := le) (φ := φ) (a0 := a0) (w0 := w0.drew) rfl htg hF hc trans stable hD (fun i o hi ho => ?_) fin _ _ _ _ ?_ ?_ ?_
  · have hl : l[i]? = some o := by rw [List.getElem?_toArray, List.getElem?_append_left hi] at ho; exact ho
    have := stepsOk_at l 0 steps i o hl
    rwa [Nat.zero_add] at this
  · refine ⟨by simp, refl _, rfl, rfl, ?_, ?_, fun k _ => rfl⟩
    · intro j o _ hl
      simp only [Array.getD_eq_getD_getElem?, Array.getElem?_replicate] at hl
      split at hl <;> cases hl
    · intro j d _ hl
      simp only [Array.getD_eq_getD_getElem?, Array.getElem?_replicate] at hl
      split at hl <;> cases hl
  · simp [Array.getD_eq_getD_getElem?]
  · have := List.countP_le_length (p := fun i => !(Array.replicate (l ++ [t]).toArray.size false).getD i true) (l := List.range (l ++ [t]).toArray.size)
    simpa using this
/-- At a list that is written out. -/
theorem wpIn_region_slotsTL {id : Nat} {L : List Oper} {r n : Nat} (hnd : noDefer L.toArray = true) (hne : L ≠ []) (le : World → World → Prop) (φ : Nat → Value → World → Prop) (refl : ∀ x, le x x) (trans : ∀ {x y z}, le x y → le y z → le x z) (stable : ∀ j v x y, le x y → φ j v x → φ j v y)
    (hm : P.follows .mixedOrders = true) (htg : (L.getLast hne).guard = none) (hF : fwdOk L.toArray = true) (hc : chainB L.toArray (L.length - 1) = true) (hD : dstsOk L.toArray a0.tmps.size = true)
    (steps : StepsOk P L.toArray Q le φ a0 w0.drew 0 L.dropLast)
    (fin : ∀ w, le w0.drew w → FinAll φ w (fun a => wpListIn (Fence.wide.inRound r) n P L.toArray Q [L.getLast hne] a w) 0 L.dropLast a0) :
    (Code.region id L.toArray true).wpIn (Fence.wide.inRound r) n P Q a0 w0 := by
  have e := List.dropLast_concat_getLast hne
  have h := wpIn_region_slotsT (id := id) (l := L.dropLast) (t := L.getLast hne) (Q := Q) (a0 := a0) (w0 := w0) (by rw [e]; exact hnd) le φ refl trans stable hm htg (by rw [e]; exact hF) (by rw [e, List.length_dropLast]; exact hc) (by rw [e]; exact hD) (by rw [e]; exact steps) (fun w hw => by rw [e]; exact fin w hw)
  rw [e] at h
  exact h

theorem wp_region_slotsT_any {l : List Oper} {t : Oper} (hops : ops = (l ++ [t]).toArray) (htg : t.guard = none) (hF : fwdOk ops = true) (hc : chainB ops l.length = true) (trans : ∀ {x y z}, le x y → le y z → le x z) (stable : ∀ j v x y, le x y → φ j v x → φ j v y) (hD : dstsOk ops a0.tmps.size = true)
    (steps : ∀ i o, i < l.length → ops[i]? = some o → StepOk P ops Q le φ a0 w0 i o)
    (fin : ∀ w, le w0 w → FinAll φ w (fun a => wpList P ops Q [t] a w) 0 l a0) :
    ∀ (fuel : Nat) (listed : Array Bool) (a : Act) (w : World), Inv ops le φ a0 w0 listed a w → listed.getD l.length true = false → (List.range ops.size).countP (fun i => !listed.getD i true) ≤ fuel → wpAny P .any ops Q fuel listed a w
  | 0, listed, a, w, I, hu, hcnt => by
    have hlt : l.length < ops.size := by rw [hops]; simp
    have : 0 < (List.range ops.size).countP (fun i => !listed.getD i true) := List.countP_pos_iff.2 ⟨l.length, List.mem_range.2 hlt, by simp only [hu, Bool.not_false]⟩
    omega
  | fuel + 1, listed, a, w, I, hu, hcnt => by
    have hlt : l.length < ops.size := by rw [hops]; simp
    have ht : ops[l.length]? = some t := by rw [hops]; simp
    have hne : Region.ready .any ops listed ≠ [] := fun e => by
      have h1 := all_listed hF I.size e (l.length + 1) l.length (Nat.lt_succ_self _) hlt
      rw [getD_true_false (by rw [I.size]; exact hlt) hu] at h1
      cases h1
    refine ⟨fun h => absurd h hne, fun i hi => ?_⟩
    obtain ⟨hn, o, ho, _⟩ := mem_ready.1 hi
    have hilt : i < ops.size := (Array.getElem?_eq_some_iff.1 ho).1
    by_cases him : i = l.length
    · subst him
      rw [ht] at ho; cases ho
      have hall : ∀ j, j < l.length → listed.getD j false = true := fun j hj => I.last hc hi l.length j (by omega) hj
      have hidx : ∀ j o, l[j]? = some o → ops[j]? = some o := fun j o hj => by
        rw [hops, List.getElem?_toArray, List.getElem?_append_left (List.getElem?_eq_some_iff.1 hj).1]; exact hj
      have hf := finAll_take (fun d => a.eval (.tmp d)) l 0 a0 (fin w I.le) (fun j o d hj hd => by
        rw [Nat.zero_add]
        exact I.done j d (by unfold dstAt; rw [hidx j o hj]; exact hd) (hall j (List.getElem?_eq_some_iff.1 hj).1))
      have hin : ∀ o ∈ l, ∀ d, o.dst = some d → d < a0.tmps.size := by
        intro o ho d hd
        obtain ⟨j, hj⟩ := List.getElem?_of_mem ho
        have hj' := hidx j o hj
        unfold dstsOk at hD
        rw [List.all_eq_true] at hD
        have := hD j (List.mem_range.2 (Array.getElem?_eq_some_iff.1 hj').1)
        have e : dstAt ops j = some d := by unfold dstAt; rw [hj']; exact hd
        rw [e] at this
        simp only [Bool.and_eq_true, decide_eq_true_eq] at this
        exact this.1
      have hs := putAll_size (fun d => a.eval (.tmp d)) l a0
      have hpa : putAll a0 l (fun d => a.eval (.tmp d)) = a := by
        refine act_ext (hs.1.trans I.tmps.symm) (hs.2.trans I.defers.symm) fun k => ?_
        rw [putAll_get _ _ _ _ hin]
        split
        · rfl
        · rename_i h
          refine (I.rest k fun j hj hd => h ?_).symm
          rw [List.any_eq_true]
          have hjl : j ≠ l.length := fun e => by
            subst e
            rw [getD_true_false (by rw [I.size]; exact hlt) hu] at hj
            cases hj
          unfold dstAt at hd
          cases ho : ops[j]? with
          | none => rw [ho] at hd; cases hd
          | some o =>
            rw [ho] at hd
            have hj2 : j < ops.size := (Array.getElem?_eq_some_iff.1 ho).1
            have hjlt : j < l.length := by have : ops.size = l.length + 1 := by rw [hops]; simp
                                           omega
            refine ⟨o, ?_, by simpa using hd⟩
            rw [hops, List.getElem?_toArray, List.getElem?_append_left hjlt] at ho
            exact List.mem_of_getElem? ho
      rw [hpa] at hf
      have hd : Region.ready .any ops (listed.setIfInBounds l.length true) = [] := ready_done I.size (by rw [hops]; simp) hall
      have hw : Region.wanted t (yielded ops a.tmps) = true := wanted_no htg
      unfold wpOp
      simp only [ht]
      have hfin : ∀ (a' : Act) (w' : World), Q .normal a' w' → wpAny P .any ops Q fuel (listed.setIfInBounds l.length true) a' w' := fun a' w' h' => by
        cases fuel with
        | zero => exact ⟨hd, h'⟩
        | succ f => exact ⟨fun _ => h', fun j hj => by rw [hd] at hj; cases hj⟩
      unfold wpList at hf
      rw [if_pos hw] at hf ⊢
      exact hf.imp (fun h => Oper.wp_mono (fun a' w' h' => hfin a' w' h') h) id
    · have hs := steps i o (by have : ops.size = l.length + 1 := by rw [hops]; simp
                               omega) ho a w (fun a' w' => wpAny P .any ops Q fuel (listed.setIfInBounds i true) a' w') (I.now hi)
        (fun v w' hw hv => wp_region_slotsT_any hops htg hF hc trans stable hD steps fin fuel _ _ _ (I.step trans stable hD hi ho hw (fun _ _ => hv)) (by rw [getD_set_ne true him]; exact hu) (by
          have hlt' : i < listed.size := by rw [I.size]; exact hilt
          have h1 : (List.range ops.size).countP (fun j => !(listed.setIfInBounds i true).getD j true) < (List.range ops.size).countP (fun i => !listed.getD i true) := by
            refine countP_lt (i := i) (List.mem_range.2 hilt) ?_ ?_ ?_
            · intro j _ hj
              by_cases hji : j = i
              · subst hji; rw [hn]; rfl
              · rw [getD_set_ne true (Ne.symm hji)] at hj; exact hj
            · rw [hn]; rfl
            · simp [Array.getD_eq_getD_getElem?, Array.getElem?_setIfInBounds_self_of_lt hlt']
          omega))
      unfold wpOp
      rw [ho]
      simp only
      split
      · rename_i hw; rw [if_pos hw] at hs; exact .inl hs
      · rename_i hw; rw [if_neg hw] at hs; exact hs

/-- The law. -/
theorem wp_region_slotsT {id : Nat} {l : List Oper} {t : Oper} (le : World → World → Prop) (φ : Nat → Value → World → Prop) (refl : ∀ x, le x x) (trans : ∀ {x y z}, le x y → le y z → le x z) (stable : ∀ j v x y, le x y → φ j v x → φ j v y)
    (hm : P.follows .mixedOrders = true) (htg : t.guard = none) (hF : fwdOk (l ++ [t]).toArray = true) (hc : chainB (l ++ [t]).toArray l.length = true) (hD : dstsOk (l ++ [t]).toArray a0.tmps.size = true)
    (steps : StepsOk P (l ++ [t]).toArray Q le φ a0 w0.drew 0 l)
    (fin : ∀ w, le w0.drew w → FinAll φ w (fun a => wpList P (l ++ [t]).toArray Q [t] a w) 0 l a0) :
    (Code.region id (l ++ [t]).toArray true).wp P Q a0 w0 := by
  refine wp_region_any hm ?_
  refine wp_region_slotsT_any (le := le) (φ := φ) (a0 := a0) (w0 := w0.drew) rfl htg hF hc trans stable hD (fun i o hi ho => ?_) fin _ _ _ _ ?_ ?_ ?_
  · have hl : l[i]? = some o := by rw [List.getElem?_toArray, List.getElem?_append_left hi] at ho; exact ho
    have := stepsOk_at l 0 steps i o hl
    rwa [Nat.zero_add] at this
  · refine ⟨by simp, refl _, rfl, rfl, ?_, ?_, fun k _ => rfl⟩
    · intro j o _ hl
      simp only [Array.getD_eq_getD_getElem?, Array.getElem?_replicate] at hl
      split at hl <;> cases hl
    · intro j d _ hl
      simp only [Array.getD_eq_getD_getElem?, Array.getElem?_replicate] at hl
      split at hl <;> cases hl
  · simp [Array.getD_eq_getD_getElem?]
  · have := List.countP_le_length (p := fun i => !(Array.replicate (l ++ [t]).toArray.size false).getD i true) (l := List.range (l ++ [t]).toArray.size)
    simpa using this
/-- At a list that is written out. -/
theorem wp_region_slotsTL {id : Nat} {L : List Oper} (hne : L ≠ []) (le : World → World → Prop) (φ : Nat → Value → World → Prop) (refl : ∀ x, le x x) (trans : ∀ {x y z}, le x y → le y z → le x z) (stable : ∀ j v x y, le x y → φ j v x → φ j v y)
    (hm : P.follows .mixedOrders = true) (htg : (L.getLast hne).guard = none) (hF : fwdOk L.toArray = true) (hc : chainB L.toArray (L.length - 1) = true) (hD : dstsOk L.toArray a0.tmps.size = true)
    (steps : StepsOk P L.toArray Q le φ a0 w0.drew 0 L.dropLast)
    (fin : ∀ w, le w0.drew w → FinAll φ w (fun a => wpList P L.toArray Q [L.getLast hne] a w) 0 L.dropLast a0) :
    (Code.region id L.toArray true).wp P Q a0 w0 := by
  have e := List.dropLast_concat_getLast hne
  have h := wp_region_slotsT (id := id) (l := L.dropLast) (t := L.getLast hne) (Q := Q) (a0 := a0) (w0 := w0) le φ refl trans stable hm htg (by rw [e]; exact hF) (by rw [e, List.length_dropLast]; exact hc) (by rw [e]; exact hD) (by rw [e]; exact steps) (fun w hw => by rw [e]; exact fin w hw)
  rw [e] at h
  exact h
end
end Go.Proofs.YtdbaocphglijbaaDoor

/- The document's own arena: Free. -/
set_option maxRecDepth 100000
namespace Go.Proofs.YtdbaocphglijbaaDoor
open Go Go.RowKit Go.Shelf
attribute [local go_sem] Oper.semAt_some
def MFreeRet (x : Nat → Prop) (m B : Nat) (P : List Rp) (z : Int) (w : World) (e : Ending) (w' : World) : Prop :=
  (e = .returned (.int .i64 5) ∧ (∀ p ∈ P, (p.2.1 : Int) ≠ z) ∧ w = w') ∨ (e = .returned (.int .i64 0) ∧ ∃ P1 p P2, P = P1 ++ p :: P2 ∧ (p.2.1 : Int) = z ∧ MRet x m B (P1 ++ P2) w w')
theorem rw_under : Tryd.prog.underlying 31 = some (.slice 52) := by kernel_rfl
theorem own_lit0 {n : Nat} (W : World) (h : n ≤ W.heap.size) : OwnK encRw 2 52 n (.slice (some ⟨W.heap.size, 0, none⟩) 0 0) [] (W.alloc (.cells #[] 52)) :=
  World.ownsRow_lit (base := n) (e := 52) (size := 2) W #[] 0 h (by simp) rfl
theorem below_undr {n : Nat} {w W : World} (h : Below n w.drew W) : Below n w W := ((Below.refl n w).drew).trans h
set_option maxHeartbeats 8000000 in
theorem mfree_any (x : Nat → Prop) (m B : Nat) (P : List Rp) (z : Int) (w : World) (h : MA x m B P w) (hl : P.length ≤ 900000) :
    Calls Tryd.prog 20 #[.pointer (some ⟨m, 0, none⟩), .int .i64 z] w (MFreeRet x m B P z w) := by
  have HAT := Lib.hid (mat_any x m B P z w h (by omega))
  have HM := Lib.hid h
  obtain ⟨ao, cap, c0, c1, hcap, hrk, hrow⟩ := h.box
  obtain ⟨v0, hm1, _⟩ := h.ex
  have hml := hm1.lt
  clear hrow h
  go_enter Tryd.func20, Tryd.ntmps20
  go_wp2_with fail
  refine HAT.out.mono ?_
  rintro e w' ⟨⟨i, hi, rfl, hz⟩ | ⟨rfl, hn⟩, rfl⟩
  · obtain ⟨vt, ht1, ht2⟩ := run_takeK (P := Tryd.prog) encRw_len rw_under infoRw hrk (m := i) (by rw [List.length_map]; omega)
    obtain ⟨vd, hd1, hd2⟩ := run_dropK (P := Tryd.prog) encRw_len rw_under infoRw hrk (m := i + 1) (by rw [List.length_map]; omega)
    rw [show ((i + 1 : Nat) : Int) = (i : Int) + 1 by norm_cast] at hd1
    have HRT := Lib.hid (fun W' (hb : Below w.heap.size w W') => ht2.below hb)
    have HRD := Lib.hid (fun W' (hb : Below w.heap.size w W') => hd2.below hb)
    have hl1 : ((P.map Prod.fst).take i).length ≤ 900000 := by rw [List.length_take, List.length_map]; omega
    have hl2 : ((P.map Prod.fst).drop (i + 1)).length + ((P.map Prod.fst).take i).length ≤ 900000 := by rw [List.length_drop, List.length_take, List.length_map]; omega
    have HSPL : Hid (P = P.take i ++ P[i] :: P.drop (i + 1)) := Lib.hid (by rw [← List.drop_eq_getElem_cons hi, List.take_append_drop])
    have HZ := Lib.hid hz
    obtain ⟨TT, hTT⟩ : ∃ T, (P.map Prod.fst).take i = T := ⟨_, rfl⟩
    obtain ⟨DD, hDD⟩ : ∃ D, (P.map Prod.fst).drop (i + 1) = D := ⟨_, rfl⟩
    have HMP : Hid ((P.take i ++ P.drop (i + 1)).map Prod.fst = TT ++ DD) := Lib.hid (by rw [List.map_append, List.map_take, List.map_drop, hTT, hDD])
    rw [hTT] at HRT hl1 hl2
    rw [hDD] at HRD hl2
    obtain ⟨LL, hLL⟩ : ∃ LL, TT ++ DD = LL := ⟨_, rfl⟩
    obtain ⟨n1, hn1⟩ : ∃ n, TT.length = n := ⟨_, rfl⟩
    obtain ⟨n2, hn2⟩ : ∃ n, (TT ++ DD).length = n := ⟨_, rfl⟩
    have HN1 : Hid (LL.take n1 = TT) := Lib.hid (by rw [← hLL, ← hn1, List.take_left' rfl])
    have HN2 : Hid (LL.take n2 = TT ++ DD) := Lib.hid (by rw [← hLL, ← hn2, List.take_length])
    have HP1 : Hid (([] : List Rw) ++ TT <+: LL) := Lib.hid ⟨DD, by rw [← hLL]; rfl⟩
    have HP2 : Hid (TT ++ DD <+: LL) := Lib.hid ⟨[], by rw [← hLL, List.append_nil]⟩
    have HEA : Hid (∀ W', Below w.heap.size w W' → ∀ p ∈ P.take i ++ P.drop (i + 1), p.1.h = p.2.1 ∧ RK encC (plus x w W') p.1.v p.2.2 W') := Lib.hid fun W' hb p hp => by
      have hp2 : p ∈ P := by
        rcases List.mem_append.1 hp with h | h
        · exact List.mem_of_mem_take h
        · exact List.mem_of_mem_drop h
      have h9 := HM.out.each p hp2
      exact ⟨h9.1, (h9.2.below hb).mono fun b hb => .inl hb⟩
    clear ht2 hd2 hz hrk hTT hDD hLL hn1 hn2
    have hwi : IntKind.i64.wrap ((i : Int) + 1) = (i : Int) + 1 := IntWalk.i64_in _ (by omega)
    have HCL : Hid (∀ W', Below w.heap.size w W' → W'.cell? ⟨m, 1, none⟩ = some (.slice ao P.length cap)) := Lib.hid fun W' hb => (hb.cell hml).trans c1
    have HFZ : Hid (∀ W', Below w.heap.size w W' → W'.frozen? ⟨m, 1, none⟩ = false) := Lib.hid fun W' hb => (hm1.kept (hb.block m hml)).frozen 1
    go_wp2
    refine wp_region_slotsTL (by simp) (leRow encRw 2 52 w.heap.size LL) (slotPhi ((fun v _ => v = ?f11) :: (fun v W' => OwnK encRw 2 52 w.heap.size v (LL.take 0) W') :: (fun v _ => v = ?f13) :: (fun v _ => v = ?f14) :: (fun v _ => v = ?f15) :: (fun v _ => v = ?f16) :: (fun v _ => v = ?f17) :: (fun v _ => v = ?f18) :: (fun v W' => OwnK encRw 2 52 w.heap.size v (LL.take n1) W') :: (fun v _ => v = ?f20) :: (fun v _ => v = ?f21) :: (fun v _ => v = ?f22) :: (fun v _ => v = ?f23) :: (fun v _ => v = ?f24) :: (fun v _ => v = ?f25) :: (fun v _ => v = ?f26) :: (fun v W' => OwnK encRw 2 52 w.heap.size v (LL.take n2) W') :: (fun v _ => v = ?f28) :: (fun v _ => v = ?f29) :: [])) leRow_refl (fun h g => leRow_trans h g) (slotPhi_by ?stb) (by kernel_rfl) (by kernel_rfl) (by kernel_rfl) (by kernel_rfl) (by kernel_rfl) ?steps ?fin
    case stb =>
      refine ⟨by intro _ _ _ _ h; exact h, ?_⟩
      refine ⟨by intro v x y hle h; exact hle.2 v _ h, ?_⟩
      refine ⟨by intro _ _ _ _ h; exact h, ?_⟩
      refine ⟨by intro _ _ _ _ h; exact h, ?_⟩
      refine ⟨by intro _ _ _ _ h; exact h, ?_⟩
      refine ⟨by intro _ _ _ _ h; exact h, ?_⟩
      refine ⟨by intro _ _ _ _ h; exact h, ?_⟩
      refine ⟨by intro _ _ _ _ h; exact h, ?_⟩
      refine ⟨by intro v x y hle h; exact hle.2 v _ h, ?_⟩
      refine ⟨by intro _ _ _ _ h; exact h, ?_⟩
      refine ⟨by intro _ _ _ _ h; exact h, ?_⟩
      refine ⟨by intro _ _ _ _ h; exact h, ?_⟩
      refine ⟨by intro _ _ _ _ h; exact h, ?_⟩
      refine ⟨by intro _ _ _ _ h; exact h, ?_⟩
      refine ⟨by intro _ _ _ _ h; exact h, ?_⟩
      refine ⟨by intro _ _ _ _ h; exact h, ?_⟩
      refine ⟨by intro v x y hle h; exact hle.2 v _ h, ?_⟩
      refine ⟨by intro _ _ _ _ h; exact h, ?_⟩
      refine ⟨by intro _ _ _ _ h; exact h, ?_⟩
      exact trivial
    case steps =>
      refine ⟨?_, ?_⟩
      · intro a W K N hK
        have e0 : a.tmps[0]?.getD undef = .pointer (some ⟨m, 0, none⟩) := N.was' 0 _ (by kernel_rfl) rfl
        rw [if_pos (wanted_no rfl)]
        go_simp
        refine hK _ _ (leRow_refl _) ?_
        exact rfl
      refine ⟨?_, ?_⟩
      · intro a W K N hK
        rw [if_pos (wanted_no rfl)]
        go_simp
        refine hK _ _ (leRow_of ((Below.refl _ _).alloc (Nat.le_refl _) _) N.le.1.size) ?_
        exact own_lit0 W N.le.1.size
      refine ⟨?_, ?_⟩
      · intro a W K N hK
        have e0 : a.tmps[0]?.getD undef = .pointer (some ⟨m, 0, none⟩) := N.was' 0 _ (by kernel_rfl) rfl
        rw [if_pos (wanted_no rfl)]
        go_simp
        refine hK _ _ (leRow_refl _) ?_
        exact rfl
      refine ⟨?_, ?_⟩
      · intro a W K N hK
        have e13 : a.tmps[13]?.getD undef = _ := N.dep' 2 13 (by kernel_rfl)
        rw [if_pos (wanted_no rfl)]
        go_simp
        refine hK _ _ (leRow_refl _) ?_
        exact rfl
      refine ⟨?_, ?_⟩
      · intro a W K N hK
        have e14 : a.tmps[14]?.getD undef = _ := N.dep' 3 14 (by kernel_rfl)
        rw [if_pos (wanted_no rfl)]
        go_simp
        refine hK _ _ (leRow_refl _) ?_
        exact rfl
      refine ⟨?_, ?_⟩
      · intro a W K N hK
        have e15 : a.tmps[15]?.getD undef = _ := N.dep' 4 15 (by kernel_rfl)
        rw [if_pos (wanted_no rfl)]
        have z := (N.le.1.cell (p := ⟨m, 1, none⟩) hml).trans c1
        go_simp
        refine hK _ _ (leRow_refl _) ?_
        exact rfl
      refine ⟨?_, ?_⟩
      · intro a W K N hK
        have e5 : a.tmps[5]?.getD undef = .int .i64 (i : Int) := N.was' 5 _ (by kernel_rfl) rfl
        rw [if_pos (wanted_no rfl)]
        go_simp
        refine hK _ _ (leRow_refl _) ?_
        exact rfl
      refine ⟨?_, ?_⟩
      · intro a W K N hK
        have e16 : a.tmps[16]?.getD undef = _ := N.dep' 5 16 (by kernel_rfl)
        have e17 : a.tmps[17]?.getD undef = _ := N.dep' 6 17 (by kernel_rfl)
        rw [if_pos (wanted_no rfl)]
        go_simp
        refine hK _ _ (leRow_refl _) ?_
        exact rfl
      refine ⟨?_, ?_⟩
      · intro a W K N hK
        have e12 := Lib.hid (show (fun v W' => OwnK encRw 2 52 w.heap.size v (LL.take 0) W') (a.tmps[12]?.getD undef) W from N.dep' 1 12 (by kernel_rfl))
        have e18 : a.tmps[18]?.getD undef = _ := N.dep' 7 18 (by kernel_rfl)
        rw [if_pos (wanted_no rfl)]
        refine wp_apKeep (L := LL) (base := w.heap.size) encRw_len (by omega) encRw_one rw_under infoRw rfl (by omega) (.tmp 12) (.tmp 18) rfl _ ([]) (eval_tmp a 12) (by exact e12.out) _ (TT) ((eval_tmp a 18).trans e18) (HRT.out _ (below_undr N.le.1)) (by first | omega | (simp only [List.length_nil]; omega)) N.le.1.size (by first | exact HP1.out | exact HP2.out) ?_
        intro v5 w5 ho5 hle5 _
        refine hK _ _ hle5 ?_
        exact HN1.out ▸ ho5
      refine ⟨?_, ?_⟩
      · intro a W K N hK
        have e0 : a.tmps[0]?.getD undef = .pointer (some ⟨m, 0, none⟩) := N.was' 0 _ (by kernel_rfl) rfl
        rw [if_pos (wanted_no rfl)]
        go_simp
        refine hK _ _ (leRow_refl _) ?_
        exact rfl
      refine ⟨?_, ?_⟩
      · intro a W K N hK
        have e20 : a.tmps[20]?.getD undef = _ := N.dep' 9 20 (by kernel_rfl)
        rw [if_pos (wanted_no rfl)]
        go_simp
        refine hK _ _ (leRow_refl _) ?_
        exact rfl
      refine ⟨?_, ?_⟩
      · intro a W K N hK
        have e21 : a.tmps[21]?.getD undef = _ := N.dep' 10 21 (by kernel_rfl)
        rw [if_pos (wanted_no rfl)]
        go_simp
        refine hK _ _ (leRow_refl _) ?_
        exact rfl
      refine ⟨?_, ?_⟩
      · intro a W K N hK
        have e22 : a.tmps[22]?.getD undef = _ := N.dep' 11 22 (by kernel_rfl)
        rw [if_pos (wanted_no rfl)]
        have z := (N.le.1.cell (p := ⟨m, 1, none⟩) hml).trans c1
        go_simp
        refine hK _ _ (leRow_refl _) ?_
        exact rfl
      refine ⟨?_, ?_⟩
      · intro a W K N hK
        have e5 : a.tmps[5]?.getD undef = .int .i64 (i : Int) := N.was' 5 _ (by kernel_rfl) rfl
        rw [if_pos (wanted_no rfl)]
        go_simp
        refine hK _ _ (leRow_refl _) ?_
        exact rfl
      refine ⟨?_, ?_⟩
      · intro a W K N hK
        have e24 : a.tmps[24]?.getD undef = _ := N.dep' 13 24 (by kernel_rfl)
        rw [if_pos (wanted_no rfl)]
        go_simp
        refine hK _ _ (leRow_refl _) ?_
        exact rfl
      refine ⟨?_, ?_⟩
      · intro a W K N hK
        have e23 : a.tmps[23]?.getD undef = _ := N.dep' 12 23 (by kernel_rfl)
        have e25 : a.tmps[25]?.getD undef = _ := N.dep' 14 25 (by kernel_rfl)
        rw [if_pos (wanted_no rfl)]
        go_simp
        refine hK _ _ (leRow_refl _) ?_
        exact rfl
      refine ⟨?_, ?_⟩
      · intro a W K N hK
        have e19 := Lib.hid (show (fun v W' => OwnK encRw 2 52 w.heap.size v (LL.take n1) W') (a.tmps[19]?.getD undef) W from N.dep' 8 19 (by kernel_rfl))
        have e26 : a.tmps[26]?.getD undef = _ := N.dep' 15 26 (by kernel_rfl)
        rw [if_pos (wanted_no rfl)]
        refine wp_apKeep (L := LL) (base := w.heap.size) encRw_len (by omega) encRw_one rw_under infoRw rfl (by omega) (.tmp 19) (.tmp 26) rfl _ (TT) (eval_tmp a 19) (by exact (HN1.out ▸ e19.out)) _ (DD) ((eval_tmp a 26).trans e26) (HRD.out _ (below_undr N.le.1)) (by first | omega | (simp only [List.length_nil]; omega)) N.le.1.size (by first | exact HP1.out | exact HP2.out) ?_
        intro v5 w5 ho5 hle5 _
        refine hK _ _ hle5 ?_
        exact HN2.out ▸ ho5
      refine ⟨?_, ?_⟩
      · intro a W K N hK
        have e11 : a.tmps[11]?.getD undef = _ := N.dep' 0 11 (by kernel_rfl)
        rw [if_pos (wanted_no rfl)]
        go_simp
        refine hK _ _ (leRow_refl _) ?_
        exact rfl
      refine ⟨?_, ?_⟩
      · intro a W K N hK
        have e28 : a.tmps[28]?.getD undef = _ := N.dep' 17 28 (by kernel_rfl)
        rw [if_pos (wanted_no rfl)]
        go_simp
        refine hK _ _ (leRow_refl _) ?_
        exact rfl
      exact trivial
    case fin =>
      intro V hV
      simp only [FinAll, slotPhi, List.dropLast, List.getLast_cons_cons, List.getLast_singleton, List.getD_cons_zero, List.getD_cons_succ, forall_eq, Act.put, List.setIfInBounds_toArray, List.set_cons_zero, List.set_cons_succ]
      intro v12 h12
      intro v19 h19
      intro v27 h27
      have hVb := below_undr hV.1
      have cl := HCL.out _ hVb
      have fz := HFZ.out _ hVb
      rw [HN2.out, ← HMP.out] at h27
      have H27 := Lib.hid h27
      obtain ⟨a5, n5, c5, e5⟩ : ∃ a n c, v27 = .slice a n c := by obtain ⟨a5, c5, e5, _⟩ := ownK_form h27; exact ⟨_, _, _, e5⟩
      subst e5
      have HVB := Lib.hid hVb
      clear hV hVb h12 h19 h27
      go_wp2
      go_ret
      exact .inr ⟨rfl, _, P[i], _, HSPL.out, HZ.out, HM.out.put HVB.out H27.out fun p hp => HEA.out _ HVB.out p hp⟩
  · have HN := Lib.hid hn
    clear hn
    go_wp2
    go_ret
    exact .inl ⟨rfl, HN.out, rfl⟩
end Go.Proofs.YtdbaocphglijbaaDoor

/- ArenaReuse: what its calls do. -/
set_option maxRecDepth 100000
namespace Go.Proofs.YtdbaocphglijbaaDoor
open Go.RowKit Go.Shelf
attribute [local go_sem] Oper.semAt_some
/-- The handles from 1 on, one behind the other. -/
structure Cs (m q : Nat) (L : List Bl) : Prop where
  len : L.length = m
  at_ : ∀ i (h : i < L.length), L[i].1 = i + 1
  sz : ∀ b ∈ L, b.2.length ≤ q
theorem Cs.nil (q : Nat) : Cs 0 q [] := ⟨rfl, (fun i h => by cases h), (fun b h => by cases h)⟩
theorem Cs.add {m q : Nat} {L : List Bl} (h : Cs m q L) {d : List UInt8} (hd : d.length ≤ q) : Cs (m + 1) q (L ++ [(m + 1, d)]) := by
  refine ⟨by simp [h.len], fun i hi => ?_, fun b hb => ?_⟩
  · by_cases e : i < L.length
    · rw [List.getElem_append_left e]; exact h.at_ i e
    · have : i = L.length := by simp at hi; omega
      subst this
      rw [List.getElem_append_right (Nat.le_refl _)]
      simp [h.len]
  · rcases List.mem_append.1 hb with hb | hb
    · exact h.sz b hb
    · rw [List.mem_singleton] at hb
      subst hb
      exact hd
theorem Cs.cut {m q : Nat} {L1 L2 : List Bl} (h : Cs m q (L1 ++ L2)) (hl : Least L1 L2) : L2 = [] ∧ L1.length = m := by
  have h2 : L2 = [] := by
    cases L2 with
    | nil => rfl
    | cons b r =>
      have h1 := h.at_ L1.length (by simp)
      have h2 := hl.2 b (by simp)
      simp at h1
      omega
  subst h2
  have := h.len
  simp at this
  exact ⟨rfl, this⟩
theorem Cs.le {m q : Nat} {L : List Bl} (h : Cs m q L) : ∀ b ∈ L, b.1 ≤ m := fun b hb => by
  obtain ⟨i, hi, rfl⟩ := List.mem_iff_getElem.1 hb
  have := h.at_ i hi
  have := h.len
  omega
theorem Cs.sum {q c : Nat} (hc : ∀ k, k ≤ q → Ar.cost k ≤ c) : ∀ {L : List Bl}, (∀ b ∈ L, b.2.length ≤ q) → sumC L ≤ c * L.length
  | [], _ => by simp [sumC]
  | b :: L, h => by
    rw [sumC_cons, List.length_cons]
    have h1 := hc _ (h b (by simp))
    have h2 := Cs.sum hc (fun x hx => h x (List.mem_cons_of_mem _ hx)) (L := L)
    rw [Nat.mul_succ]
    omega
theorem cost_248 : ∀ k, k ≤ 248 → Ar.cost k ≤ 256 := fun k hk => by unfold Ar.cost; (repeat' split) <;> omega
theorem ru_alloc (x : Nat → Prop) (A m n : Nat) (L : List Bl) (n0 : Nat) (w : World) (h : HX x A 4096 L n0 w) (hc : Cs m 248 L) (hm : m ≤ 12) (hn : n ≤ 248) (hm2 : m < 12) :
    Calls Tryd.prog 17 #[.pointer (some ⟨A, 0, none⟩), .int .i64 (n : Int)] w fun e w' => e = .returned (.tuple #[.int .i64 ((m : Int) + 1), .int .i64 0]) ∧ LX x A 4096 (L ++ [(m + 1, Ar.zeros n)]) n0 w w' := by
  have hs := Cs.sum cost_248 hc.sz
  have hcn := cost_248 n hn
  have hlen := hc.len
  refine (alloc_ok x A 4096 L n0 _ n w rfl h (by omega) (by omega)).mono fun e w' ⟨L1, L2, e1, hl, he, hL⟩ => ?_
  subst e1
  obtain ⟨rfl, e2⟩ := hc.cut hl
  rw [List.append_nil]
  rw [e2] at he hL
  exact ⟨by rw [he]; norm_cast, hL⟩
theorem ru_free (x : Nat → Prop) (A B : Nat) (L : List Bl) (n0 : Nat) (z : Int) (w : World) (h : HX x A B L n0 w) :
    Calls Tryd.prog 19 #[.pointer (some ⟨A, 0, none⟩), .int .i64 z] w fun e w' => ∃ (r : Int) (L' : List Bl), e = .returned (.int .i64 r) ∧ LX x A B L' n0 w w' ∧ ∀ b ∈ L', b ∈ L ∧ (b.1 : Int) ≠ z := by
  refine (free_x x A B L n0 z w h).mono fun e w' hk => ?_
  rcases hk with ⟨k1, he, hL⟩ | ⟨L1, b, L2, rfl, e2, he, hL⟩
  · exact ⟨5, L, he, hL, fun b hb => ⟨hb, k1 b hb⟩⟩
  · refine ⟨0, L1 ++ L2, he, hL, fun c hc => ⟨by rcases List.mem_append.1 hc with hc | hc <;> simp [hc], fun e => ?_⟩⟩
    have hs := h.each.1
    rw [List.pairwise_append, List.pairwise_cons] at hs
    rcases List.mem_append.1 hc with hc | hc
    · have := hs.2.2 c hc b (by simp); omega
    · have := hs.2.1.1 c hc; omega
theorem rdB_row {x : Nat → Prop} {n0 : Nat} {v : Value} {l : List UInt8} {w : World} (h : RowIn x n0 5 v (l.map encB) w) : RdB v l w := by
  have := h.own
  rw [List.length_map] at this
  exact RdB.own this
/-- A slice of so many bytes 0 that was just made. -/
def MkZ (n : Nat) (v : Value) (W : World) : Prop := ∃ B, v = .slice (some ⟨B, 0, none⟩) n n ∧ RdB (.slice (some ⟨B, 0, none⟩) n n) (Ar.zeros n) W
theorem MkZ.below {n : Nat} {v : Value} {x y : World} (h : MkZ n v x) (hb : slotLe x y) : MkZ n v y := by
  obtain ⟨B, e, hr⟩ := h
  exact ⟨B, e, hr.below hb⟩
theorem MkZ.new (n : Nat) (W : World) : MkZ n (.slice (some ⟨W.heap.size, 0, none⟩) n n) (W.alloc (.cells (Array.replicate n (.int .u8 0)) 5)) :=
  ⟨W.heap.size, rfl, rdB_block (l := Ar.zeros n) (by have := Blk.new W ((Ar.zeros n).map encB) 5; unfold Ar.zeros at this ⊢; rw [List.map_replicate, List.toArray_replicate] at this; rw [List.map_replicate]; exact this) (zeros_len n).symm⟩
theorem zz_step {k n : Nat} {u : UInt8} (h : k < n) : ((List.replicate k u ++ List.replicate (n - k) 0).map encB).set k (encB u) = (List.replicate (k + 1) u ++ List.replicate (n - (k + 1)) 0).map encB := by
  rw [← List.map_set]
  congr 1
  rw [List.set_append_right _ _ (by simp)]
  obtain ⟨m, hm⟩ : ∃ m, n - k = m + 1 := ⟨n - k - 1, by omega⟩
  rw [hm, show n - (k + 1) = m by omega, List.replicate_succ (n := m)]
  simp [List.replicate_succ']
theorem zz_at {k n : Nat} {u : UInt8} (h : k < n) : ((List.replicate k u ++ List.replicate (n - k) 0).map encB)[k]? = some (.int .u8 0) := by
  rw [List.getElem?_map, List.getElem?_append_right (by simp), List.getElem?_replicate, if_pos (by simp; omega)]
  rfl
theorem rg_at {k m : Nat} (h : k < m) : ((List.range' 1 m).map encI)[k]? = some (.int .i64 ((k : Int) + 1)) := by
  rw [List.getElem?_map, List.getElem?_range' (by omega)]
  show some (encI _) = _
  unfold encI
  congr 2
  omega
theorem rg_len (m : Nat) : ((List.range' 1 m).map encI).length = m := by simp
theorem rg_add (m : Nat) : List.range' 1 m ++ [m + 1] = List.range' 1 (m + 1) := by rw [List.range'_1_concat, Nat.add_comm 1 m]
theorem ru_new (w : World) (hT : TabOk w) : Calls Tryd.prog 15 #[.int .i64 4096] w fun e w' => ∃ A, e = .returned (.tuple #[.pointer (some ⟨A, 0, none⟩), .int .i64 0]) ∧ HX (fun _ => False) A 4096 [] w.heap.size w' ∧ Below w.heap.size w w' :=
  new_x 4096 w (by decide) (by decide) hT
theorem ru_read (x : Nat → Prop) (A m n : Nat) (L : List Bl) (n0 : Nat) (z : Int) (w : World) (hz : z = (m : Int) + 1) (h : HX x A 4096 (L ++ [(m + 1, Ar.zeros n)]) n0 w) :
    Calls Tryd.prog 21 #[.pointer (some ⟨A, 0, none⟩), .int .i64 z, .int .i64 0, .int .i64 (n : Int)] w fun e w' => ∃ (v : Value) (y : Nat → Prop), e = .returned (.tuple #[v, .int .i64 0]) ∧ HX y A 4096 (L ++ [(m + 1, Ar.zeros n)]) n0 w' ∧ RowIn y n0 5 v ((Ar.zeros n).map encB) w' ∧ (∀ k, x k → y k) ∧ Below w.heap.size w w' := by
  refine (read_ok x A 4096 _ (m + 1, Ar.zeros n) n0 z 0 (n : Int) 0 n w (by rw [hz]; norm_cast) rfl rfl (by simp) h (by rw [zeros_len]; omega)).mono fun e w' ⟨v, he, hr, hL, hb⟩ => ?_
  have e1 : ((Ar.zeros n).drop 0).take n = Ar.zeros n := by rw [List.drop_zero, List.take_of_length_le (by rw [zeros_len]; omega)]
  rw [e1] at hr
  obtain ⟨h1, h2⟩ := h.take hb hr (by rw [List.length_map, zeros_len])
  exact ⟨v, _, he, h1, h2, fun k hk => .inl hk, hb⟩
theorem put_all (d l : List UInt8) (h : l.length = d.length) : Ar.put d 0 l = l := by
  unfold Ar.put
  rw [Nat.zero_add, h, List.drop_length]
  simp
theorem ru_write (x : Nat → Prop) (A m n : Nat) (L : List Bl) (n0 : Nat) (z : Int) (v : Value) (l : List UInt8) (w : World) (hz : z = (m : Int) + 1) (h : HX x A 4096 (L ++ [(m + 1, Ar.zeros n)]) n0 w) (hv : RowIn x n0 5 v (l.map encB) w) (hl : l.length = n) :
    Calls Tryd.prog 23 #[.pointer (some ⟨A, 0, none⟩), .int .i64 z, .int .i64 0, v] w fun e w' => e = .returned (.int .i64 0) ∧ LX x A 4096 (L ++ [(m + 1, l)]) n0 w w' := by
  refine (write_ok x A 4096 L [] (m + 1, Ar.zeros n) n0 z 0 0 v l w (by rw [hz]; norm_cast) rfl h (rdB_row hv) (by rw [zeros_len]; omega)).mono fun e w' ⟨he, hL⟩ => ⟨he, ?_⟩
  rw [put_all _ _ (by rw [zeros_len, hl])] at hL
  exact hL
end Go.Proofs.YtdbaocphglijbaaDoor

/- ArenaMoves: what its calls do. -/
set_option maxRecDepth 100000
namespace Go.Proofs.YtdbaocphglijbaaDoor
open Go.RowKit Go.Shelf
attribute [local go_sem] Oper.semAt_some
theorem apd_int_loc {n0 : Nat} {v v' : Value} {l : List Nat} {w w' : World} (hr : w.ownsRow n0 3 1 v l.length (l.map encI)) (hl : l.length ≤ 900000) (hlow : n0 ≤ w.heap.size) (k : Nat)
    (hrun : (Builtin.append_ #[54, 54] 54 #[v, .slice (some ⟨w.heap.size, 0, none⟩) 1 1]).run Tryd.prog (w.alloc (.cells #[encI k] 3)) = .ok v' w') : v'.ownBlock = v.ownBlock ∨ v'.ownBlock = some (w.heap.size + 1) := by
  obtain ⟨i, hi, hz0, hz1, hz2⟩ := info_parts infoInt
  have hown := World.ownsRow.alloc hr (.cells #[encI k] 3)
  have hs : (w.alloc (.cells #[encI k] 3)).heap.size = w.heap.size + 1 := World.size_alloc _ _
  obtain ⟨v2, w2, hr2, _, _, _, hloc⟩ := run_append_own_at (P := Tryd.prog) (w.alloc (.cells #[encI k] 3)) n0 54 54 3 i (.int .i64 0) 1 8 Tryd.underlying54 hi hz0 hz1 hz2 rfl (by omega) v l.length (l.map encI) hown ⟨w.heap.size, 0, none⟩ 1 1 [encI k] rfl (fun j u hj => cells_new w [encI k] 3 j u hj) (fun u hu => by rw [List.mem_singleton] at hu; subst hu; rfl) (by unfold maxLen; omega) (by omega) (by rw [hs]; omega)
  rw [hrun] at hr2
  obtain ⟨rfl, rfl⟩ : v' = v2 ∧ w' = w2 := ⟨(Result.ok.inj hr2).1, (Result.ok.inj hr2).2⟩
  rw [hs] at hloc
  exact hloc
theorem wpList_apdI2 {w : World} {ops : Array Oper} {rest : List Oper} {o : Oper} {a : Act} {Q : Exit → Act → World → Prop} (hg : o.guard = none) (s z : Operand)
    (hop : o.op = Op.call { callee := Callee.builtin Builtin.append, args := #[s, z], argTypes := #[54, 54] }) (hty : o.type = 54) {x : Nat → Prop} {A B : Nat} {L : List Bl} {n0 : Nat} {v : Value} {l : List Nat} (w0 : World) (hs : a.eval s = v)
    (h : HX x A B L n0 w0) (hr : RowIn x n0 3 v (l.map encI) w0) (hl : l.length ≤ 900000) (k : Nat) (u : Value) (hw : w = w0.alloc (.cells #[u] 3)) (hu : u = encI k) (hz : a.eval z = .slice (some ⟨w0.heap.size, 0, none⟩) 1 1)
    (hK : ∀ v' w', HX (fun j => x j ∨ v'.ownBlock = some j) A B L n0 w' → RowIn (fun j => x j ∨ v'.ownBlock = some j) n0 3 v' ((l ++ [k]).map encI) w' → Below n0 w0 w' → (∀ j, j < w0.heap.size → v.ownBlock ≠ some j → w'.heap[j]? = w0.heap[j]?) → (v'.ownBlock = v.ownBlock ∨ v'.ownBlock = some (w0.heap.size + 1)) → wpList Tryd.prog ops Q rest (a.put o.dst v') w') :
    wpList Tryd.prog ops Q (o :: rest) a w := by
  subst hw hu
  refine wpList_plain hg fun K hK' => ?_
  obtain ⟨v', w', hrun, r1, r2, r3, r4, _⟩ := apd_int h hr hl k
  have hloc := apd_int_loc (by have := hr.own; rwa [List.length_map] at this) hl h.low k hrun
  unfold Oper.wp
  simp [execOp, hop, hty, resolve, invoke, builtin, hs, hz, hrun, Result.andThen]
  exact hK' _ _ (hK v' w' r1 r2 r3 r4 hloc)
def chr (s : Nat) : UInt8 := UInt8.ofNat (97 + s)
theorem chr_nat {s : Nat} (h : s ≤ 60) : (chr s).toNat = 97 + s := by unfold chr; rw [UInt8.toNat_ofNat']; omega
theorem encB_chr {s : Nat} (h : s ≤ 60) : encB (chr s) = .int .u8 (97 + (s : Int)) := by unfold encB; rw [chr_nat h]; norm_cast
/-- The blocks of these sizes, from a handle on. -/
def mvL : Nat → List Nat → List Bl
  | _, [] => []
  | s, n :: N => (s + 1, List.replicate n (chr s)) :: mvL (s + 1) N
theorem mvL_add : ∀ (N : List Nat) (s n : Nat), mvL s (N ++ [n]) = mvL s N ++ [(s + N.length + 1, List.replicate n (chr (s + N.length)))]
  | [], s, n => by simp [mvL]
  | m :: N, s, n => by
    simp only [List.cons_append, mvL, List.length_cons]
    rw [mvL_add N (s + 1) n]
    rw [show s + 1 + N.length = s + (N.length + 1) by omega]
theorem mvL_len : ∀ (N : List Nat) (s : Nat), (mvL s N).length = N.length
  | [], _ => rfl
  | _ :: N, s => by simp [mvL, mvL_len N]
theorem mvL_at : ∀ (N : List Nat) (s i : Nat) (h : i < N.length), (mvL s N)[i]? = some (s + i + 1, List.replicate N[i] (chr (s + i)))
  | n :: N, s, 0, _ => by simp [mvL]
  | n :: N, s, i + 1, h => by
    simp only [mvL, List.getElem?_cons_succ, List.getElem_cons_succ]
    rw [mvL_at N (s + 1) i (by simpa using h)]
    rw [show s + 1 + i = s + (i + 1) by omega]
theorem mvL_cs {N : List Nat} (h : ∀ n ∈ N, n ≤ 119) : Cs N.length 119 (mvL 0 N) := by
  refine ⟨mvL_len N 0, fun i hi => ?_, fun b hb => ?_⟩
  · have hi' : i < N.length := by rwa [mvL_len] at hi
    have := mvL_at N 0 i hi'
    rw [List.getElem?_eq_getElem hi] at this
    rw [Option.some.inj this]
    simp
  · obtain ⟨i, hi, rfl⟩ := List.mem_iff_getElem.1 hb
    have hi' : i < N.length := by rwa [mvL_len] at hi
    have e := mvL_at N 0 i hi'
    rw [List.getElem?_eq_getElem hi] at e
    rw [Option.some.inj e]
    simp only [List.length_replicate]
    exact h _ (List.getElem_mem _)
/-- An Alloc of what is small: there is room, or there is none. -/
theorem mv_alloc (x : Nat → Prop) (A n : Nat) (N : List Nat) (n0 : Nat) (w : World) (h : HX x A 2048 (mvL 0 N) n0 w) (hN : ∀ n ∈ N, n ≤ 119) (hn : n ≤ 119) :
    Calls Tryd.prog 17 #[.pointer (some ⟨A, 0, none⟩), .int .i64 (n : Int)] w fun e w' => (e = .returned (.tuple #[.int .i64 0, .int .i64 4]) ∧ w = w') ∨ (e = .returned (.tuple #[.int .i64 ((N.length : Int) + 1), .int .i64 0]) ∧ LX x A 2048 (mvL 0 N ++ [(N.length + 1, Ar.zeros n)]) n0 w w') := by
  by_cases hc : sumC (mvL 0 N) + Ar.cost n ≤ 2048
  · refine (alloc_ok x A 2048 _ n0 _ n w rfl h (by omega) hc).mono fun e w' ⟨L1, L2, e1, hl, he, hL⟩ => .inr ?_
    obtain ⟨rfl, e2⟩ := (e1 ▸ mvL_cs hN : Cs N.length 119 (L1 ++ L2)).cut hl
    rw [List.append_nil] at e1
    subst e1
    rw [e2] at he hL
    exact ⟨by rw [he]; norm_cast, hL⟩
  · exact (alloc_no x A 2048 _ n0 _ n w rfl h (by omega) (by omega)).mono fun e w' hk => .inl hk
theorem mv_write (x : Nat → Prop) (A n : Nat) (N : List Nat) (n0 : Nat) (z : Int) (v : Value) (l : List UInt8) (w : World) (hz : z = (N.length : Int) + 1) (h : HX x A 2048 (mvL 0 N ++ [(N.length + 1, Ar.zeros n)]) n0 w) (hv : RowIn x n0 5 v (l.map encB) w) (hl : l = List.replicate n (chr N.length)) :
    Calls Tryd.prog 23 #[.pointer (some ⟨A, 0, none⟩), .int .i64 z, .int .i64 0, v] w fun e w' => e = .returned (.int .i64 0) ∧ LX x A 2048 (mvL 0 (N ++ [n])) n0 w w' := by
  have hlen : l.length = n := by rw [hl, List.length_replicate]
  refine (write_ok x A 2048 (mvL 0 N) [] (N.length + 1, Ar.zeros n) n0 z 0 0 v l w (by rw [hz]; norm_cast) rfl h (rdB_row hv) (by rw [zeros_len]; omega)).mono fun e w' ⟨he, hL⟩ => ⟨he, ?_⟩
  rw [put_all _ _ (by rw [zeros_len, hlen])] at hL
  rw [mvL_add, Nat.zero_add, ← hl]
  exact hL
/-- What is left of the blocks: those that were not given back. -/
def Stays (gone : List Bool) (k : Nat) (j : Nat) : Prop := ¬ (j < k ∧ gone[j]? = some true)
structure Rest (N : List Nat) (gone : List Bool) (k : Nat) (L : List Bl) : Prop where
  mem : ∀ b, b ∈ L ↔ ∃ j, j < N.length ∧ Stays gone k j ∧ (mvL 0 N)[j]? = some b
theorem Rest.start (N : List Nat) (gone : List Bool) : Rest N gone 0 (mvL 0 N) := by
  refine ⟨fun b => ?_⟩
  constructor
  · intro hb
    obtain ⟨j, hj, rfl⟩ := List.mem_iff_getElem.1 hb
    exact ⟨j, by rwa [mvL_len] at hj, fun h => by have := h.1; omega, List.getElem?_eq_getElem hj⟩
  · rintro ⟨j, _, _, h⟩
    exact List.mem_of_getElem? h
theorem Rest.skip {N : List Nat} {gone : List Bool} {k : Nat} {L : List Bl} (h : Rest N gone k L) (hk : gone[k]? ≠ some true) : Rest N gone (k + 1) L := by
  refine ⟨fun b => (h.mem b).trans ⟨?_, ?_⟩⟩
  · rintro ⟨j, h1, h2, h3⟩
    refine ⟨j, h1, fun e => ?_, h3⟩
    by_cases e2 : j = k
    · subst e2; exact hk e.2
    · exact h2 ⟨by have := e.1; omega, e.2⟩
  · rintro ⟨j, h1, h2, h3⟩
    exact ⟨j, h1, fun e => h2 ⟨by have := e.1; omega, e.2⟩, h3⟩
theorem mvL_fst {N : List Nat} {j : Nat} {b : Bl} (h : (mvL 0 N)[j]? = some b) : b.1 = j + 1 ∧ j < N.length := by
  have hj : j < N.length := by rw [← mvL_len N 0]; exact (List.getElem?_eq_some_iff.1 h).1
  rw [mvL_at N 0 j hj] at h
  cases h
  exact ⟨by simp, hj⟩
theorem Rest.free {N : List Nat} {gone : List Bool} {k : Nat} {L1 L2 : List Bl} {b : Bl} (h : Rest N gone k (L1 ++ b :: L2)) (hs : (L1 ++ b :: L2).Pairwise (fun x y => x.1 < y.1)) (hk : gone[k]? = some true) (hb : b.1 = k + 1) : Rest N gone (k + 1) (L1 ++ L2) := by
  have hne : ∀ c ∈ L1 ++ L2, c.1 ≠ b.1 := fun c hc e => by
    rw [List.pairwise_append, List.pairwise_cons] at hs
    rcases List.mem_append.1 hc with hc | hc
    · have := hs.2.2 c hc b (by simp); omega
    · have := hs.2.1.1 c hc; omega
  refine ⟨fun c => ⟨fun hc => ?_, ?_⟩⟩
  · obtain ⟨j, h1, h2, h3⟩ := (h.mem c).1 (by rcases List.mem_append.1 hc with hc | hc <;> simp [hc])
    refine ⟨j, h1, fun e => h2 ⟨?_, e.2⟩, h3⟩
    have := (mvL_fst h3).1
    have := hne c hc
    have := e.1
    omega
  · rintro ⟨j, h1, h2, h3⟩
    have hc := (h.mem c).2 ⟨j, h1, fun e => h2 ⟨by have := e.1; omega, e.2⟩, h3⟩
    have hjk : j ≠ k := fun e => h2 ⟨by omega, by rw [e]; exact hk⟩
    have := (mvL_fst h3).1
    rcases List.mem_append.1 hc with hc | hc
    · simp [hc]
    · rcases List.mem_cons.1 hc with rfl | hc
      · omega
      · simp [hc]
theorem mv_free (x : Nat → Prop) (A : Nat) (N : List Nat) (gone : List Bool) (k : Nat) (L : List Bl) (n0 : Nat) (z : Int) (w : World) (hz : z = (k : Int) + 1) (h : HX x A 2048 L n0 w) (hr : Rest N gone k L) (hk : k < N.length) (hg : gone[k]? = some true) :
    Calls Tryd.prog 19 #[.pointer (some ⟨A, 0, none⟩), .int .i64 z] w fun e w' => e = .returned (.int .i64 0) ∧ ∃ L', LX x A 2048 L' n0 w w' ∧ Rest N gone (k + 1) L' := by
  obtain ⟨b, hb⟩ : ∃ b, (mvL 0 N)[k]? = some b := ⟨_, mvL_at N 0 k hk⟩
  have hmem := (hr.mem b).2 ⟨k, hk, fun e => by have := e.1; omega, hb⟩
  have hb1 := (mvL_fst hb).1
  obtain ⟨L1, L2, rfl⟩ := List.append_of_mem hmem
  refine (free_ok x A 2048 L1 L2 b n0 z w (by rw [hz, hb1]; norm_cast) h).mono fun e w' ⟨he, hL⟩ => ⟨he, L1 ++ L2, hL, hr.free h.each.1 hg hb1⟩
theorem mv_new (w : World) (hT : TabOk w) : Calls Tryd.prog 15 #[.int .i64 2048] w fun e w' => ∃ A, e = .returned (.tuple #[.pointer (some ⟨A, 0, none⟩), .int .i64 0]) ∧ HX (fun _ => False) A 2048 [] w.heap.size w' ∧ Below w.heap.size w w' :=
  new_x 2048 w (by decide) (by decide) hT
end Go.Proofs.YtdbaocphglijbaaDoor

/- The document's own arena: Alloc. -/
set_option maxRecDepth 100000
namespace Go.Proofs.YtdbaocphglijbaaDoor
open Go Go.RowKit Go.Shelf
attribute [local go_sem] Oper.semAt_some
def MAllocRet (x : Nat → Prop) (m B : Nat) (P : List Rp) (n : Int) (w : World) (e : Ending) (w' : World) : Prop :=
  (Ar.costI n = 0 ∧ e = .returned (.tuple #[.int .i64 0, .int .i64 3]) ∧ Below w.heap.size w w') ∨
  (Ar.costI n ≠ 0 ∧ B - sumC (lsP P) < Ar.costI n ∧ e = .returned (.tuple #[.int .i64 0, .int .i64 4]) ∧ Below w.heap.size w w') ∨
  (Ar.costI n ≠ 0 ∧ Ar.costI n ≤ B - sumC (lsP P) ∧ ∃ (k : Nat) (r : Rw), k ≤ P.length ∧ (∀ i (h : i < P.length), i < k → P[i].2.1 = i + 1) ∧ (∀ h : k < P.length, P[k].2.1 ≠ k + 1) ∧ e = .returned (.tuple #[.int .i64 ((k : Int) + 1), .int .i64 0]) ∧ MRet x m B (P.take k ++ (r, (k + 1, Ar.zeros n.toNat)) :: P.drop k) w w')
theorem below_drewN (n : Nat) (w : World) (k : Nat) : Below n w (w.drewN k) := ⟨rfl, rfl, rfl, Nat.le_refl _, fun _ _ => rfl⟩
theorem costI_in {n : Int} (h : Ar.costI n ≠ 0) : 0 ≤ n ∧ n ≤ 4096 := by
  unfold Ar.costI at h
  split at h
  · assumption
  · exact absurd rfl h
theorem alc_of {w w1 W2 : World} {k q : Nat} (hb : Below w.heap.size w w1) (h : W2 = (w1.alloc (.cells (Array.replicate q (.int .u8 0)) 5)).alloc (.cells #[.int .i64 ((k : Int) + 1), .slice (some ⟨w1.heap.size, 0, none⟩) q q] 52)) :
    Below w.heap.size w W2 ∧ Blk W2 (w1.heap.size + 1) [.int .i64 ((k : Int) + 1), .slice (some ⟨w1.heap.size, 0, none⟩) q q] 52 ∧ Blk W2 w1.heap.size (List.replicate q (.int .u8 0)) 5 := by
  subst h
  have hs : (w1.alloc (.cells (Array.replicate q (.int .u8 0)) 5)).heap.size = w1.heap.size + 1 := World.size_alloc _ _
  have h1 : Blk (w1.alloc (.cells (Array.replicate q (.int .u8 0)) 5)) w1.heap.size (List.replicate q (.int .u8 0)) 5 := by
    have := Blk.new w1 (List.replicate q (.int .u8 0)) 5
    rw [List.toArray_replicate] at this
    exact this
  refine ⟨(hb.alloc hb.size _).alloc (by rw [hs]; have := hb.size; omega) _, ?_, h1.alloc _⟩
  have := Blk.new (w1.alloc (.cells (Array.replicate q (.int .u8 0)) 5)) [.int .i64 ((k : Int) + 1), .slice (some ⟨w1.heap.size, 0, none⟩) q q] 52
  rw [hs] at this
  exact this
theorem rk_zeros {x : Nat → Prop} {W : World} {g q : Nat} (h : Blk W g (List.replicate q (.int .u8 0)) 5) (hx : x g) : RK encC x (.slice (some ⟨g, 0, none⟩) q q) (Ar.zeros q) W :=
  ⟨some ⟨g, 0, none⟩, q, by simp [Ar.zeros], by simp [Ar.zeros], fun j u hu => ⟨g, 0, rfl, hx, by
    rw [Nat.zero_add]
    refine h.cell ?_
    rw [flatC, Ar.zeros, List.map_replicate] at hu
    exact hu⟩⟩
set_option maxHeartbeats 16000000 in
theorem malloc_any (x : Nat → Prop) (m B : Nat) (P : List Rp) (n : Int) (w : World) (h : MA x m B P w) (hn : -9223372036854775808 ≤ n ∧ n ≤ 9223372036854775807) (hB : B ≤ 1048576) (hs : sumC (lsP P) ≤ B) (hl : P.length ≤ 900000) (he : ∀ b ∈ lsP P, b.2.length ≤ 4096) :
    Calls Tryd.prog 18 #[.pointer (some ⟨m, 0, none⟩), .int .i64 n] w (MAllocRet x m B P n w) := by
  have HCO := Lib.hid (rcost_any n w hn)
  have HLE := Lib.hid (mleft_any x m B P w h hB hs (by omega) he)
  obtain ⟨c, hc⟩ : ∃ c, Ar.costI n = c := ⟨_, rfl⟩
  obtain ⟨s, hss⟩ : ∃ s, B - sumC (lsP P) = s := ⟨_, rfl⟩
  have hcb : c ≤ 8192 := by
    rw [← hc]; unfold Ar.costI Ar.cost
    (repeat' split) <;> omega
  have hsb : s ≤ 1048576 := by omega
  rw [hc] at HCO
  rw [hss] at HLE
  by_cases hc0 : c = 0
  · subst hc0
    have HZ := Lib.hid hc
    clear hc hss h
    go_enter Tryd.func18, Tryd.ntmps18
    go_wp2_with fail
    refine HCO.out.mono ?_
    rintro e w' ⟨rfl, rfl⟩
    go_wp2
    go_ret2
    exact .inl ⟨HZ.out, rfl, Below.refl _ _⟩
  have hcn : ((c : Int) == 0) = false := by rw [beq_eq_false_iff_ne]; omega
  by_cases hcs : s < c
  · have HZ : Hid (Ar.costI n ≠ 0 ∧ B - sumC (lsP P) < Ar.costI n) := Lib.hid (by rw [hc, hss]; exact ⟨hc0, hcs⟩)
    clear hc hss h
    go_enter Tryd.func18, Tryd.ntmps18
    go_wp2_with fail
    refine HCO.out.mono ?_
    rintro e w' ⟨rfl, rfl⟩
    go_wp2_with fail
    refine HLE.out.mono ?_
    rintro e w' ⟨rfl, nd, rfl⟩
    go_wp2
    go_ret2
    exact .inr (.inl ⟨HZ.out.1, HZ.out.2, rfl, below_drewN _ _ nd⟩)
  obtain ⟨hn0, hn1⟩ := costI_in (n := n) (by rw [hc]; exact hc0)
  obtain ⟨q, rfl⟩ : ∃ q : Nat, n = (q : Int) := ⟨n.toNat, by omega⟩
  have HZ : Hid (Ar.costI (q : Int) ≠ 0 ∧ Ar.costI (q : Int) ≤ B - sumC (lsP P)) := Lib.hid (by rw [hc, hss]; exact ⟨hc0, by omega⟩)
  have HM := Lib.hid h
  obtain ⟨ao, cap, c0, c1, hcap, hrk, hrow⟩ := h.box
  obtain ⟨v0, hm1, _⟩ := h.ex
  have hml := hm1.lt
  have HR := Lib.hid hrow
  have HRK := Lib.hid hrk
  have hmk := fun W => (by have h := make_one (e := 5) Tryd.underlying34 infoU8 (by decide) rfl (q : Int) q rfl (by omega) W; rw [List.toArray_replicate] at h; exact h : (Instr.makeSlice 34 (.int .i64 (q : Int)) (.int .i64 (q : Int))).run Tryd.prog W = .ok (.slice (some ⟨W.heap.size, 0, none⟩) q q) (W.alloc (.cells (Array.replicate q (.int .u8 0)) 5)))
  have HM1 := Lib.hid hm1
  clear hc hss h hrow hrk hm1 he hs hB
  go_enter Tryd.func18, Tryd.ntmps18
  go_wp2_with fail
  refine HCO.out.mono ?_
  rintro e w' ⟨rfl, rfl⟩
  go_wp2_with fail
  refine HLE.out.mono ?_
  rintro e w' ⟨rfl, nd, rfl⟩
  clear HCO HLE
  have hb1 : Below w.heap.size w (w.drewN nd) := below_drewN _ _ nd
  have e1 : (w.drewN nd).cell? ⟨m, 1, none⟩ = some (.slice ao P.length cap) := c1
  have HR1 : Hid (∀ i (hi : i < P.length), ∃ b off, ao = some ⟨b, off, none⟩ ∧ (w.drewN nd).cell? ⟨b, off + i * 2, none⟩ = some (.int .i64 (P[i].2.1 : Int))) := Lib.hid fun i hi => by
    obtain ⟨b, off, e, _, d0, _⟩ := HR.out i hi
    exact ⟨b, off, e, d0⟩
  generalize w.drewN nd = w1 at hb1 e1 HR1 ⊢
  have HB1 := Lib.hid hb1
  clear hb1 HR
  go_wp2
  go_loop [7] (fun i => ∃ k : Nat, i = .int .i64 (k : Int) ∧ k ≤ P.length ∧ Hid (∀ i (h : i < P.length), i < k → P[i].2.1 = i + 1)) (fun i => P.length + 1 - (intOf i).toNat)
  case atStart => exact ⟨0, rfl, Nat.zero_le _, Lib.hid fun i h h2 => by omega⟩
  case round =>
    obtain ⟨k, rfl, hk, HN⟩ := hrel
    by_cases hgo : ∃ h : k < P.length, P[k].2.1 = k + 1
    · obtain ⟨hlt, hq⟩ := hgo
      obtain ⟨b, off, rfl, d0⟩ := HR1.out k hlt
      rw [hq] at d0
      rw [show ((k + 1 : Nat) : Int) = (k : Int) + 1 by norm_cast] at d0
      have HQ : Hid (∀ i (h : i < P.length), i < k + 1 → P[i].2.1 = i + 1) := Lib.hid fun i h h2 => by
        by_cases e : i = k
        · subst e; exact hq
        · exact HN.out i h (by omega)
      have hbq : ((k : Int) + 1 == (k : Int) + 1) = true := beq_self_eq_true _
      clear hq HN
      go_wp2
      go_round
      case rel => exact ⟨k + 1, by go_num, by omega, HQ⟩
      case measure => simp [intOf]; omega
    · have HGO : Hid (∀ h : k < P.length, P[k].2.1 ≠ k + 1) := Lib.hid fun h e => hgo ⟨h, e⟩
      have hstop : k = P.length ∨ ∃ b off q2, k < P.length ∧ ao = some ⟨b, off, none⟩ ∧ w1.cell? ⟨b, off + k * 2, none⟩ = some (.int .i64 q2) ∧ (q2 == (k : Int) + 1) = false := by
        rcases Nat.lt_or_ge k P.length with h | h
        · obtain ⟨b, off, e, d0⟩ := HR1.out k h
          exact .inr ⟨b, off, _, h, e, d0, by rw [beq_eq_false_iff_ne]; have := HGO.out h; omega⟩
        · exact .inl (by omega)
      clear hgo
      obtain ⟨vt, ht1, ht2⟩ := run_takeK (P := Tryd.prog) encRw_len rw_under infoRw HRK.out (m := k) (by rw [List.length_map]; omega)
      obtain ⟨vd, hd1, hd2⟩ := run_dropK (P := Tryd.prog) encRw_len rw_under infoRw HRK.out (m := k) (by rw [List.length_map]; omega)
      have HT2 := Lib.hid ht2
      have HD2 := Lib.hid hd2
      clear ht2 hd2 hcap
      rcases hstop with hk2 | ⟨b, off, q2, hlt, rfl, d0, hq⟩
      · have hnl : ¬ ((k : Int) < (P.length : Int)) := by omega
        clear hk2
        go_wp2
        generalize hW2 : (w1.alloc (.cells (Array.replicate q (.int .u8 0)) 5)).alloc _ = W2
        obtain ⟨hB2, hbx2, hby2⟩ := alc_of HB1.out hW2.symm
        have HB2 := Lib.hid hB2
        obtain ⟨bb, hbbe⟩ : ∃ bb, w1.heap.size + 1 = bb := ⟨_, rfl⟩
        obtain ⟨r, hr⟩ : ∃ r : Rw, r = ⟨k + 1, some ⟨w1.heap.size, 0, none⟩, q, q⟩ := ⟨_, rfl⟩
        have HER : Hid (encRw r = [.int .i64 ((k : Int) + 1), .slice (some ⟨w1.heap.size, 0, none⟩) q q]) := Lib.hid (by rw [hr]; rfl)
        rw [hbbe] at hbx2 ⊢
        have hmn : m < W2.heap.size := Nat.lt_of_lt_of_le hml HB2.out.size
        have c2 : W2.cell? ⟨m, 1, none⟩ = some _ := (HB2.out.cell (p := ⟨m, 1, none⟩) hml).trans c1
        have d1 := hbx2.cell (i := 0) rfl
        have d2 := hbx2.cell (i := 1) rfl
        have hbb2 : bb < W2.heap.size := hbx2.lt
        have hm2 : m < W2.heap.size := hmn
        have HM2 := Lib.hid (HM1.out.kept (HB2.out.block m hml))
        obtain ⟨TT, hTT⟩ : ∃ T, (P.map Prod.fst).take k = T := ⟨_, rfl⟩
        obtain ⟨DD, hDD⟩ : ∃ D, (P.map Prod.fst).drop k = D := ⟨_, rfl⟩
        rw [hTT] at HT2
        rw [hDD] at HD2
        have HRT := Lib.hid (fun W' (hb : Below W2.heap.size W2 W') => (HT2.out.below HB2.out).below hb)
        have HRD := Lib.hid (fun W' (hb : Below W2.heap.size W2 W') => (HD2.out.below HB2.out).below hb)
        have hl1 : TT.length ≤ 900000 := by rw [← hTT, List.length_take, List.length_map]; omega
        have hl2 : TT.length + 1 + DD.length ≤ 900001 := by rw [← hTT, ← hDD, List.length_take, List.length_drop, List.length_map]; omega
        obtain ⟨LL, hLL⟩ : ∃ LL, TT ++ [r] ++ DD = LL := ⟨_, rfl⟩
        obtain ⟨n1, hn1⟩ : ∃ n, TT.length = n := ⟨_, rfl⟩
        obtain ⟨n3, hn3⟩ : ∃ n, (TT ++ [r]).length = n := ⟨_, rfl⟩
        obtain ⟨n4, hn4⟩ : ∃ n, (TT ++ [r] ++ DD).length = n := ⟨_, rfl⟩
        have HN1 : Hid (LL.take n1 = TT) := Lib.hid (by rw [← hLL, ← hn1, List.append_assoc, List.take_left' rfl])
        have HN3 : Hid (LL.take n3 = TT ++ [r]) := Lib.hid (by rw [← hLL, ← hn3, List.take_left' rfl])
        have HN4 : Hid (LL.take n4 = TT ++ [r] ++ DD) := Lib.hid (by rw [← hLL, ← hn4, List.take_length])
        have HP1 : Hid (TT ++ [r] <+: LL) := Lib.hid ⟨DD, hLL⟩
        have HP2 : Hid (TT ++ [r] ++ DD <+: LL) := Lib.hid ⟨[], by rw [← hLL, List.append_nil]⟩
        have HMP : Hid ((P.take k ++ (r, (k + 1, Ar.zeros q)) :: P.drop k).map Prod.fst = TT ++ [r] ++ DD) := Lib.hid (by rw [List.map_append, List.map_cons, List.map_take, List.map_drop, hTT, hDD]; simp)
        have HEA : Hid (∀ W', Below W2.heap.size W2 W' → ∀ p ∈ P.take k ++ (r, (k + 1, Ar.zeros q)) :: P.drop k, p.1.h = p.2.1 ∧ RK encC (plus x w W') p.1.v p.2.2 W') := Lib.hid fun W' hb p hp => by
          have hwW : Below w.heap.size w W' := HB2.out.trans (hb.mono HB2.out.size)
          have hold : p ∈ P → p.1.h = p.2.1 ∧ RK encC (plus x w W') p.1.v p.2.2 W' := fun hp2 => by
            have h9 := HM.out.each p hp2
            exact ⟨h9.1, (h9.2.below hwW).mono fun b hb => .inl hb⟩
          rcases List.mem_append.1 hp with h | h
          · exact hold (List.mem_of_mem_take h)
          · rcases List.mem_cons.1 h with rfl | h
            · rw [hr]
              refine ⟨rfl, ?_⟩
              have hb3 := hby2.kept (hb.block _ hby2.lt)
              exact rk_zeros hb3 (.inr ⟨HB1.out.size, hb3.lt⟩)
            · exact hold (List.mem_of_mem_drop h)
        have HIDR := Lib.hid (And.intro hr hbx2)
        clear hTT hDD hLL hn1 hn3 hn4 hmn hbbe hr hbx2 hby2 hW2 hB2 HT2 HD2 c1 c0 e1 hmk
        refine wp_region_slotsTL (by simp) (leRow1 encRw 2 52 W2.heap.size LL r) (slotPhi ((fun v _ => v = ?f46) :: (fun v W' => ∃ g, v = .slice (some ⟨g, 0, none⟩) 0 0 ∧ OwnK encRw 2 52 W2.heap.size v (LL.take 0) W') :: (fun v _ => v = ?f48) :: (fun v _ => v = ?f49) :: (fun v _ => v = ?f50) :: (fun v _ => v = ?f51) :: (fun v _ => v = ?f52) :: (fun v _ => v = ?f53) :: (fun v W' => OwnK encRw 2 52 W2.heap.size v (LL.take n1) W') :: (fun v _ => v = ?f55) :: (fun v W' => ∃ g, v = .slice (some ⟨g, 0, none⟩) 1 1 ∧ Blk W' g (encRw r) 52) :: (fun v W' => OwnK encRw 2 52 W2.heap.size v (LL.take n3) W') :: (fun v _ => v = ?f58) :: (fun v _ => v = ?f59) :: (fun v _ => v = ?f60) :: (fun v _ => v = ?f61) :: (fun v _ => v = ?f62) :: (fun v _ => v = ?f63) :: (fun v W' => OwnK encRw 2 52 W2.heap.size v (LL.take n4) W') :: (fun v _ => v = ?f65) :: (fun v _ => v = ?f66) :: [])) leRow1_refl (fun h g => leRow1_trans h g) (slotPhi_by ?stb) (by kernel_rfl) (by kernel_rfl) (by kernel_rfl) (by kernel_rfl) (by kernel_rfl) ?steps ?fin
        case stb =>
          refine ⟨by intro _ _ _ _ h; exact h, ?_⟩
          refine ⟨by intro v x y hle ⟨g, e, h⟩; exact ⟨g, e, hle.1.2 v _ h⟩, ?_⟩
          refine ⟨by intro _ _ _ _ h; exact h, ?_⟩
          refine ⟨by intro _ _ _ _ h; exact h, ?_⟩
          refine ⟨by intro _ _ _ _ h; exact h, ?_⟩
          refine ⟨by intro _ _ _ _ h; exact h, ?_⟩
          refine ⟨by intro _ _ _ _ h; exact h, ?_⟩
          refine ⟨by intro _ _ _ _ h; exact h, ?_⟩
          refine ⟨by intro v x y hle h; exact hle.1.2 v _ h, ?_⟩
          refine ⟨by intro _ _ _ _ h; exact h, ?_⟩
          refine ⟨by intro v x y hle ⟨g, e, h⟩; exact ⟨g, e, hle.2 g h⟩, ?_⟩
          refine ⟨by intro v x y hle h; exact hle.1.2 v _ h, ?_⟩
          refine ⟨by intro _ _ _ _ h; exact h, ?_⟩
          refine ⟨by intro _ _ _ _ h; exact h, ?_⟩
          refine ⟨by intro _ _ _ _ h; exact h, ?_⟩
          refine ⟨by intro _ _ _ _ h; exact h, ?_⟩
          refine ⟨by intro _ _ _ _ h; exact h, ?_⟩
          refine ⟨by intro _ _ _ _ h; exact h, ?_⟩
          refine ⟨by intro v x y hle h; exact hle.1.2 v _ h, ?_⟩
          refine ⟨by intro _ _ _ _ h; exact h, ?_⟩
          refine ⟨by intro _ _ _ _ h; exact h, ?_⟩
          exact trivial
        case steps =>
          refine ⟨?_, ?_⟩
          · intro a W K N hK
            have e0 : a.tmps[0]?.getD undef = .pointer (some ⟨m, 0, none⟩) := N.was' 0 _ (by kernel_rfl) rfl
            rw [if_pos (wanted_no rfl)]
            go_simp
            refine hK _ _ (leRow1_refl _) ?_
            exact rfl
          refine ⟨?_, ?_⟩
          · intro a W K N hK
            rw [if_pos (wanted_no rfl)]
            go_simp
            refine hK _ _ (leRow1_of ((Below.refl _ _).alloc (Nat.le_refl _) _) N.le.1.1.size) ?_
            exact ⟨_, rfl, own_lit0 W N.le.1.1.size⟩
          refine ⟨?_, ?_⟩
          · intro a W K N hK
            have e0 : a.tmps[0]?.getD undef = .pointer (some ⟨m, 0, none⟩) := N.was' 0 _ (by kernel_rfl) rfl
            rw [if_pos (wanted_no rfl)]
            go_simp
            refine hK _ _ (leRow1_refl _) ?_
            exact rfl
          refine ⟨?_, ?_⟩
          · intro a W K N hK
            have e48 : a.tmps[48]?.getD undef = _ := N.dep' 2 48 (by kernel_rfl)
            rw [if_pos (wanted_no rfl)]
            go_simp
            refine hK _ _ (leRow1_refl _) ?_
            exact rfl
          refine ⟨?_, ?_⟩
          · intro a W K N hK
            have e49 : a.tmps[49]?.getD undef = _ := N.dep' 3 49 (by kernel_rfl)
            rw [if_pos (wanted_no rfl)]
            go_simp
            refine hK _ _ (leRow1_refl _) ?_
            exact rfl
          refine ⟨?_, ?_⟩
          · intro a W K N hK
            have e50 : a.tmps[50]?.getD undef = _ := N.dep' 4 50 (by kernel_rfl)
            rw [if_pos (wanted_no rfl)]
            have z := (N.le.1.1.cell (p := ⟨m, 1, none⟩) hm2).trans c2
            go_simp
            refine hK _ _ (leRow1_refl _) ?_
            exact rfl
          refine ⟨?_, ?_⟩
          · intro a W K N hK
            have e7 : a.tmps[7]?.getD undef = .int .i64 (k : Int) := N.was' 7 _ (by kernel_rfl) rfl
            rw [if_pos (wanted_no rfl)]
            go_simp
            refine hK _ _ (leRow1_refl _) ?_
            exact rfl
          refine ⟨?_, ?_⟩
          · intro a W K N hK
            have e51 : a.tmps[51]?.getD undef = _ := N.dep' 5 51 (by kernel_rfl)
            have e52 : a.tmps[52]?.getD undef = _ := N.dep' 6 52 (by kernel_rfl)
            rw [if_pos (wanted_no rfl)]
            go_simp
            refine hK _ _ (leRow1_refl _) ?_
            exact rfl
          refine ⟨?_, ?_⟩
          · intro a W K N hK
            have e47 := Lib.hid (show (fun v W' => ∃ g, v = .slice (some ⟨g, 0, none⟩) 0 0 ∧ OwnK encRw 2 52 W2.heap.size v (LL.take 0) W') (a.tmps[47]?.getD undef) W from N.dep' 1 47 (by kernel_rfl))
            have e53 : a.tmps[53]?.getD undef = _ := N.dep' 7 53 (by kernel_rfl)
            rw [if_pos (wanted_no rfl)]
            refine wp_litRK (base := W2.heap.size) encRw_len (by omega) rw_under infoRw rfl (by omega) (.tmp 47) (.tmp 53) rfl (by obtain ⟨g, e, h⟩ := e47.out; exact ⟨g, (eval_tmp a 47).trans e, by rw [e] at h; exact h⟩) _ TT ((eval_tmp a 53).trans e53) (HRT.out _ (below_undr N.le.1.1)) (by omega) N.le.1.1.size ?_
            intro v5 w5 ho5 hle5
            refine hK _ _ (leRow1_of hle5 N.le.1.1.size) ?_
            exact HN1.out ▸ ho5
          refine ⟨?_, ?_⟩
          · intro a W K N hK
            have e8 : a.tmps[8]?.getD undef = .pointer (some ⟨bb, 0, none⟩) := N.was' 8 _ (by kernel_rfl) rfl
            rw [if_pos (wanted_no rfl)]
            have z0 := (N.le.1.1.cell (p := ⟨bb, 0, none⟩) hbb2).trans d1
            have z1 := (N.le.1.1.cell (p := ⟨bb, 1, none⟩) hbb2).trans d2
            go_simp
            refine hK _ _ (leRow1_refl _) ?_
            exact rfl
          refine ⟨?_, ?_⟩
          · intro a W K N hK
            have e55 : a.tmps[55]?.getD undef = _ := N.dep' 9 55 (by kernel_rfl)
            rw [if_pos (wanted_no rfl)]
            go_simp
            refine hK _ _ (leRow1_of ((Below.refl _ _).alloc (Nat.le_refl _) _) N.le.1.1.size) ?_
            exact ⟨_, rfl, by rw [HER.out]; exact Blk.new W _ _⟩
          refine ⟨?_, ?_⟩
          · intro a W K N hK
            have e54 := Lib.hid (show (fun v W' => OwnK encRw 2 52 W2.heap.size v (LL.take n1) W') (a.tmps[54]?.getD undef) W from N.dep' 8 54 (by kernel_rfl))
            have e56 := Lib.hid (show (fun v W' => ∃ g, v = .slice (some ⟨g, 0, none⟩) 1 1 ∧ Blk W' g (encRw r) 52) (a.tmps[56]?.getD undef) W from N.dep' 10 56 (by kernel_rfl))
            rw [if_pos (wanted_no rfl)]
            obtain ⟨g6, e6, hb6⟩ := e56.out
            refine wp_apKeep (L := LL) (base := W2.heap.size) encRw_len (by omega) encRw_one rw_under infoRw rfl (by omega) (.tmp 54) (.tmp 56) rfl _ (TT) (eval_tmp a 54) (by exact (HN1.out ▸ e54.out)) _ ([r]) ((eval_tmp a 56).trans e6) (RK.blk hb6) (by first | omega | (simp only [List.length_append, List.length_singleton]; omega)) N.le.1.1.size HP1.out ?_
            intro v5 w5 ho5 hle5 hlit5
            refine hK _ _ ⟨hle5, fun g hB => hlit5 r (fun _ b hb => by cases hb; rfl) g hB⟩ ?_
            exact HN3.out ▸ ho5
          refine ⟨?_, ?_⟩
          · intro a W K N hK
            have e0 : a.tmps[0]?.getD undef = .pointer (some ⟨m, 0, none⟩) := N.was' 0 _ (by kernel_rfl) rfl
            rw [if_pos (wanted_no rfl)]
            go_simp
            refine hK _ _ (leRow1_refl _) ?_
            exact rfl
          refine ⟨?_, ?_⟩
          · intro a W K N hK
            have e58 : a.tmps[58]?.getD undef = _ := N.dep' 12 58 (by kernel_rfl)
            rw [if_pos (wanted_no rfl)]
            go_simp
            refine hK _ _ (leRow1_refl _) ?_
            exact rfl
          refine ⟨?_, ?_⟩
          · intro a W K N hK
            have e59 : a.tmps[59]?.getD undef = _ := N.dep' 13 59 (by kernel_rfl)
            rw [if_pos (wanted_no rfl)]
            go_simp
            refine hK _ _ (leRow1_refl _) ?_
            exact rfl
          refine ⟨?_, ?_⟩
          · intro a W K N hK
            have e60 : a.tmps[60]?.getD undef = _ := N.dep' 14 60 (by kernel_rfl)
            rw [if_pos (wanted_no rfl)]
            have z := (N.le.1.1.cell (p := ⟨m, 1, none⟩) hm2).trans c2
            go_simp
            refine hK _ _ (leRow1_refl _) ?_
            exact rfl
          refine ⟨?_, ?_⟩
          · intro a W K N hK
            have e7 : a.tmps[7]?.getD undef = .int .i64 (k : Int) := N.was' 7 _ (by kernel_rfl) rfl
            rw [if_pos (wanted_no rfl)]
            go_simp
            refine hK _ _ (leRow1_refl _) ?_
            exact rfl
          refine ⟨?_, ?_⟩
          · intro a W K N hK
            have e61 : a.tmps[61]?.getD undef = _ := N.dep' 15 61 (by kernel_rfl)
            have e62 : a.tmps[62]?.getD undef = _ := N.dep' 16 62 (by kernel_rfl)
            rw [if_pos (wanted_no rfl)]
            go_simp
            refine hK _ _ (leRow1_refl _) ?_
            exact rfl
          refine ⟨?_, ?_⟩
          · intro a W K N hK
            have e57 := Lib.hid (show (fun v W' => OwnK encRw 2 52 W2.heap.size v (LL.take n3) W') (a.tmps[57]?.getD undef) W from N.dep' 11 57 (by kernel_rfl))
            have e63 : a.tmps[63]?.getD undef = _ := N.dep' 17 63 (by kernel_rfl)
            rw [if_pos (wanted_no rfl)]
            refine wp_apKeep (L := LL) (base := W2.heap.size) encRw_len (by omega) encRw_one rw_under infoRw rfl (by omega) (.tmp 57) (.tmp 63) rfl _ (TT ++ [r]) (eval_tmp a 57) (by exact (HN3.out ▸ e57.out)) _ (DD) ((eval_tmp a 63).trans e63) (HRD.out _ (below_undr N.le.1.1)) (by first | omega | (simp only [List.length_append, List.length_singleton]; omega)) N.le.1.1.size HP2.out ?_
            intro v5 w5 ho5 hle5 hlit5
            refine hK _ _ ⟨hle5, fun g hB => hlit5 r (fun h => absurd h (by simp)) g hB⟩ ?_
            exact HN4.out ▸ ho5
          refine ⟨?_, ?_⟩
          · intro a W K N hK
            have e46 : a.tmps[46]?.getD undef = _ := N.dep' 0 46 (by kernel_rfl)
            rw [if_pos (wanted_no rfl)]
            go_simp
            refine hK _ _ (leRow1_refl _) ?_
            exact rfl
          refine ⟨?_, ?_⟩
          · intro a W K N hK
            have e65 : a.tmps[65]?.getD undef = _ := N.dep' 19 65 (by kernel_rfl)
            rw [if_pos (wanted_no rfl)]
            go_simp
            refine hK _ _ (leRow1_refl _) ?_
            exact rfl
          exact trivial
        case fin =>
          intro V hV
          simp only [FinAll, slotPhi, List.dropLast, List.getLast_cons_cons, List.getLast_singleton, List.getD_cons_zero, List.getD_cons_succ, forall_eq, Act.put, List.setIfInBounds_toArray, List.set_cons_zero, List.set_cons_succ]
          intro v47 h47
          intro v54 h54
          intro v56 h56
          intro v57 h57
          intro v64 h64
          have hVb := below_undr hV.1.1
          have cl := (hVb.cell (p := ⟨m, 1, none⟩) hm2).trans c2
          have fz := (HM2.out.kept (hVb.block m hm2)).frozen 1
          rw [HN4.out, ← HMP.out] at h64
          have H64 := Lib.hid h64
          obtain ⟨a5, n5, c5, e5⟩ : ∃ a n c, v64 = .slice a n c := by obtain ⟨a5, c5, e5, _⟩ := ownK_form h64; exact ⟨_, _, _, e5⟩
          subst e5
          have HVB := Lib.hid (HB2.out.trans (hVb.mono HB2.out.size))
          have HEV := Lib.hid (HEA.out V hVb)
          clear hV hVb h47 h54 h56 h57 h64
          go_wp2
          go_ret2
          exact .inr (.inr ⟨HZ.out.1, HZ.out.2, k, r, hk, HN.out, HGO.out, rfl, HM.out.put HVB.out (World.ownsRow.mono H64.out HB2.out.size) HEV.out⟩)
          
      · go_wp2
        generalize hW2 : (w1.alloc (.cells (Array.replicate q (.int .u8 0)) 5)).alloc _ = W2
        obtain ⟨hB2, hbx2, hby2⟩ := alc_of HB1.out hW2.symm
        have HB2 := Lib.hid hB2
        obtain ⟨bb, hbbe⟩ : ∃ bb, w1.heap.size + 1 = bb := ⟨_, rfl⟩
        obtain ⟨r, hr⟩ : ∃ r : Rw, r = ⟨k + 1, some ⟨w1.heap.size, 0, none⟩, q, q⟩ := ⟨_, rfl⟩
        have HER : Hid (encRw r = [.int .i64 ((k : Int) + 1), .slice (some ⟨w1.heap.size, 0, none⟩) q q]) := Lib.hid (by rw [hr]; rfl)
        rw [hbbe] at hbx2 ⊢
        have hmn : m < W2.heap.size := Nat.lt_of_lt_of_le hml HB2.out.size
        have c2 : W2.cell? ⟨m, 1, none⟩ = some _ := (HB2.out.cell (p := ⟨m, 1, none⟩) hml).trans c1
        have d1 := hbx2.cell (i := 0) rfl
        have d2 := hbx2.cell (i := 1) rfl
        have hbb2 : bb < W2.heap.size := hbx2.lt
        have hm2 : m < W2.heap.size := hmn
        have HM2 := Lib.hid (HM1.out.kept (HB2.out.block m hml))
        obtain ⟨TT, hTT⟩ : ∃ T, (P.map Prod.fst).take k = T := ⟨_, rfl⟩
        obtain ⟨DD, hDD⟩ : ∃ D, (P.map Prod.fst).drop k = D := ⟨_, rfl⟩
        rw [hTT] at HT2
        rw [hDD] at HD2
        have HRT := Lib.hid (fun W' (hb : Below W2.heap.size W2 W') => (HT2.out.below HB2.out).below hb)
        have HRD := Lib.hid (fun W' (hb : Below W2.heap.size W2 W') => (HD2.out.below HB2.out).below hb)
        have hl1 : TT.length ≤ 900000 := by rw [← hTT, List.length_take, List.length_map]; omega
        have hl2 : TT.length + 1 + DD.length ≤ 900001 := by rw [← hTT, ← hDD, List.length_take, List.length_drop, List.length_map]; omega
        obtain ⟨LL, hLL⟩ : ∃ LL, TT ++ [r] ++ DD = LL := ⟨_, rfl⟩
        obtain ⟨n1, hn1⟩ : ∃ n, TT.length = n := ⟨_, rfl⟩
        obtain ⟨n3, hn3⟩ : ∃ n, (TT ++ [r]).length = n := ⟨_, rfl⟩
        obtain ⟨n4, hn4⟩ : ∃ n, (TT ++ [r] ++ DD).length = n := ⟨_, rfl⟩
        have HN1 : Hid (LL.take n1 = TT) := Lib.hid (by rw [← hLL, ← hn1, List.append_assoc, List.take_left' rfl])
        have HN3 : Hid (LL.take n3 = TT ++ [r]) := Lib.hid (by rw [← hLL, ← hn3, List.take_left' rfl])
        have HN4 : Hid (LL.take n4 = TT ++ [r] ++ DD) := Lib.hid (by rw [← hLL, ← hn4, List.take_length])
        have HP1 : Hid (TT ++ [r] <+: LL) := Lib.hid ⟨DD, hLL⟩
        have HP2 : Hid (TT ++ [r] ++ DD <+: LL) := Lib.hid ⟨[], by rw [← hLL, List.append_nil]⟩
        have HMP : Hid ((P.take k ++ (r, (k + 1, Ar.zeros q)) :: P.drop k).map Prod.fst = TT ++ [r] ++ DD) := Lib.hid (by rw [List.map_append, List.map_cons, List.map_take, List.map_drop, hTT, hDD]; simp)
        have HEA : Hid (∀ W', Below W2.heap.size W2 W' → ∀ p ∈ P.take k ++ (r, (k + 1, Ar.zeros q)) :: P.drop k, p.1.h = p.2.1 ∧ RK encC (plus x w W') p.1.v p.2.2 W') := Lib.hid fun W' hb p hp => by
          have hwW : Below w.heap.size w W' := HB2.out.trans (hb.mono HB2.out.size)
          have hold : p ∈ P → p.1.h = p.2.1 ∧ RK encC (plus x w W') p.1.v p.2.2 W' := fun hp2 => by
            have h9 := HM.out.each p hp2
            exact ⟨h9.1, (h9.2.below hwW).mono fun b hb => .inl hb⟩
          rcases List.mem_append.1 hp with h | h
          · exact hold (List.mem_of_mem_take h)
          · rcases List.mem_cons.1 h with rfl | h
            · rw [hr]
              refine ⟨rfl, ?_⟩
              have hb3 := hby2.kept (hb.block _ hby2.lt)
              exact rk_zeros hb3 (.inr ⟨HB1.out.size, hb3.lt⟩)
            · exact hold (List.mem_of_mem_drop h)
        have HIDR := Lib.hid (And.intro hr hbx2)
        clear hTT hDD hLL hn1 hn3 hn4 hmn hbbe hr hbx2 hby2 hW2 hB2 HT2 HD2 c1 c0 e1 hmk
        refine wp_region_slotsTL (by simp) (leRow1 encRw 2 52 W2.heap.size LL r) (slotPhi ((fun v _ => v = ?g46) :: (fun v W' => ∃ g, v = .slice (some ⟨g, 0, none⟩) 0 0 ∧ OwnK encRw 2 52 W2.heap.size v (LL.take 0) W') :: (fun v _ => v = ?g48) :: (fun v _ => v = ?g49) :: (fun v _ => v = ?g50) :: (fun v _ => v = ?g51) :: (fun v _ => v = ?g52) :: (fun v _ => v = ?g53) :: (fun v W' => OwnK encRw 2 52 W2.heap.size v (LL.take n1) W') :: (fun v _ => v = ?g55) :: (fun v W' => ∃ g, v = .slice (some ⟨g, 0, none⟩) 1 1 ∧ Blk W' g (encRw r) 52) :: (fun v W' => OwnK encRw 2 52 W2.heap.size v (LL.take n3) W') :: (fun v _ => v = ?g58) :: (fun v _ => v = ?g59) :: (fun v _ => v = ?g60) :: (fun v _ => v = ?g61) :: (fun v _ => v = ?g62) :: (fun v _ => v = ?g63) :: (fun v W' => OwnK encRw 2 52 W2.heap.size v (LL.take n4) W') :: (fun v _ => v = ?g65) :: (fun v _ => v = ?g66) :: [])) leRow1_refl (fun h g => leRow1_trans h g) (slotPhi_by ?stb) (by kernel_rfl) (by kernel_rfl) (by kernel_rfl) (by kernel_rfl) (by kernel_rfl) ?steps ?fin
        case stb =>
          refine ⟨by intro _ _ _ _ h; exact h, ?_⟩
          refine ⟨by intro v x y hle ⟨g, e, h⟩; exact ⟨g, e, hle.1.2 v _ h⟩, ?_⟩
          refine ⟨by intro _ _ _ _ h; exact h, ?_⟩
          refine ⟨by intro _ _ _ _ h; exact h, ?_⟩
          refine ⟨by intro _ _ _ _ h; exact h, ?_⟩
          refine ⟨by intro _ _ _ _ h; exact h, ?_⟩
          refine ⟨by intro _ _ _ _ h; exact h, ?_⟩
          refine ⟨by intro _ _ _ _ h; exact h, ?_⟩
          refine ⟨by intro v x y hle h; exact hle.1.2 v _ h, ?_⟩
          refine ⟨by intro _ _ _ _ h; exact h, ?_⟩
          refine ⟨by intro v x y hle ⟨g, e, h⟩; exact ⟨g, e, hle.2 g h⟩, ?_⟩
          refine ⟨by intro v x y hle h; exact hle.1.2 v _ h, ?_⟩
          refine ⟨by intro _ _ _ _ h; exact h, ?_⟩
          refine ⟨by intro _ _ _ _ h; exact h, ?_⟩
          refine ⟨by intro _ _ _ _ h; exact h, ?_⟩
          refine ⟨by intro _ _ _ _ h; exact h, ?_⟩
          refine ⟨by intro _ _ _ _ h; exact h, ?_⟩
          refine ⟨by intro _ _ _ _ h; exact h, ?_⟩
          refine ⟨by intro v x y hle h; exact hle.1.2 v _ h, ?_⟩
          refine ⟨by intro _ _ _ _ h; exact h, ?_⟩
          refine ⟨by intro _ _ _ _ h; exact h, ?_⟩
          exact trivial
        case steps =>
          refine ⟨?_, ?_⟩
          · intro a W K N hK
            have e0 : a.tmps[0]?.getD undef = .pointer (some ⟨m, 0, none⟩) := N.was' 0 _ (by kernel_rfl) rfl
            rw [if_pos (wanted_no rfl)]
            go_simp
            refine hK _ _ (leRow1_refl _) ?_
            exact rfl
          refine ⟨?_, ?_⟩
          · intro a W K N hK
            rw [if_pos (wanted_no rfl)]
            go_simp
            refine hK _ _ (leRow1_of ((Below.refl _ _).alloc (Nat.le_refl _) _) N.le.1.1.size) ?_
            exact ⟨_, rfl, own_lit0 W N.le.1.1.size⟩
          refine ⟨?_, ?_⟩
          · intro a W K N hK
            have e0 : a.tmps[0]?.getD undef = .pointer (some ⟨m, 0, none⟩) := N.was' 0 _ (by kernel_rfl) rfl
            rw [if_pos (wanted_no rfl)]
            go_simp
            refine hK _ _ (leRow1_refl _) ?_
            exact rfl
          refine ⟨?_, ?_⟩
          · intro a W K N hK
            have e48 : a.tmps[48]?.getD undef = _ := N.dep' 2 48 (by kernel_rfl)
            rw [if_pos (wanted_no rfl)]
            go_simp
            refine hK _ _ (leRow1_refl _) ?_
            exact rfl
          refine ⟨?_, ?_⟩
          · intro a W K N hK
            have e49 : a.tmps[49]?.getD undef = _ := N.dep' 3 49 (by kernel_rfl)
            rw [if_pos (wanted_no rfl)]
            go_simp
            refine hK _ _ (leRow1_refl _) ?_
            exact rfl
          refine ⟨?_, ?_⟩
          · intro a W K N hK
            have e50 : a.tmps[50]?.getD undef = _ := N.dep' 4 50 (by kernel_rfl)
            rw [if_pos (wanted_no rfl)]
            have z := (N.le.1.1.cell (p := ⟨m, 1, none⟩) hm2).trans c2
            go_simp
            refine hK _ _ (leRow1_refl _) ?_
            exact rfl
          refine ⟨?_, ?_⟩
          · intro a W K N hK
            have e7 : a.tmps[7]?.getD undef = .int .i64 (k : Int) := N.was' 7 _ (by kernel_rfl) rfl
            rw [if_pos (wanted_no rfl)]
            go_simp
            refine hK _ _ (leRow1_refl _) ?_
            exact rfl
          refine ⟨?_, ?_⟩
          · intro a W K N hK
            have e51 : a.tmps[51]?.getD undef = _ := N.dep' 5 51 (by kernel_rfl)
            have e52 : a.tmps[52]?.getD undef = _ := N.dep' 6 52 (by kernel_rfl)
            rw [if_pos (wanted_no rfl)]
            go_simp
            refine hK _ _ (leRow1_refl _) ?_
            exact rfl
          refine ⟨?_, ?_⟩
          · intro a W K N hK
            have e47 := Lib.hid (show (fun v W' => ∃ g, v = .slice (some ⟨g, 0, none⟩) 0 0 ∧ OwnK encRw 2 52 W2.heap.size v (LL.take 0) W') (a.tmps[47]?.getD undef) W from N.dep' 1 47 (by kernel_rfl))
            have e53 : a.tmps[53]?.getD undef = _ := N.dep' 7 53 (by kernel_rfl)
            rw [if_pos (wanted_no rfl)]
            refine wp_litRK (base := W2.heap.size) encRw_len (by omega) rw_under infoRw rfl (by omega) (.tmp 47) (.tmp 53) rfl (by obtain ⟨g, e, h⟩ := e47.out; exact ⟨g, (eval_tmp a 47).trans e, by rw [e] at h; exact h⟩) _ TT ((eval_tmp a 53).trans e53) (HRT.out _ (below_undr N.le.1.1)) (by omega) N.le.1.1.size ?_
            intro v5 w5 ho5 hle5
            refine hK _ _ (leRow1_of hle5 N.le.1.1.size) ?_
            exact HN1.out ▸ ho5
          refine ⟨?_, ?_⟩
          · intro a W K N hK
            have e8 : a.tmps[8]?.getD undef = .pointer (some ⟨bb, 0, none⟩) := N.was' 8 _ (by kernel_rfl) rfl
            rw [if_pos (wanted_no rfl)]
            have z0 := (N.le.1.1.cell (p := ⟨bb, 0, none⟩) hbb2).trans d1
            have z1 := (N.le.1.1.cell (p := ⟨bb, 1, none⟩) hbb2).trans d2
            go_simp
            refine hK _ _ (leRow1_refl _) ?_
            exact rfl
          refine ⟨?_, ?_⟩
          · intro a W K N hK
            have e55 : a.tmps[55]?.getD undef = _ := N.dep' 9 55 (by kernel_rfl)
            rw [if_pos (wanted_no rfl)]
            go_simp
            refine hK _ _ (leRow1_of ((Below.refl _ _).alloc (Nat.le_refl _) _) N.le.1.1.size) ?_
            exact ⟨_, rfl, by rw [HER.out]; exact Blk.new W _ _⟩
          refine ⟨?_, ?_⟩
          · intro a W K N hK
            have e54 := Lib.hid (show (fun v W' => OwnK encRw 2 52 W2.heap.size v (LL.take n1) W') (a.tmps[54]?.getD undef) W from N.dep' 8 54 (by kernel_rfl))
            have e56 := Lib.hid (show (fun v W' => ∃ g, v = .slice (some ⟨g, 0, none⟩) 1 1 ∧ Blk W' g (encRw r) 52) (a.tmps[56]?.getD undef) W from N.dep' 10 56 (by kernel_rfl))
            rw [if_pos (wanted_no rfl)]
            obtain ⟨g6, e6, hb6⟩ := e56.out
            refine wp_apKeep (L := LL) (base := W2.heap.size) encRw_len (by omega) encRw_one rw_under infoRw rfl (by omega) (.tmp 54) (.tmp 56) rfl _ (TT) (eval_tmp a 54) (by exact (HN1.out ▸ e54.out)) _ ([r]) ((eval_tmp a 56).trans e6) (RK.blk hb6) (by first | omega | (simp only [List.length_append, List.length_singleton]; omega)) N.le.1.1.size HP1.out ?_
            intro v5 w5 ho5 hle5 hlit5
            refine hK _ _ ⟨hle5, fun g hB => hlit5 r (fun _ b hb => by cases hb; rfl) g hB⟩ ?_
            exact HN3.out ▸ ho5
          refine ⟨?_, ?_⟩
          · intro a W K N hK
            have e0 : a.tmps[0]?.getD undef = .pointer (some ⟨m, 0, none⟩) := N.was' 0 _ (by kernel_rfl) rfl
            rw [if_pos (wanted_no rfl)]
            go_simp
            refine hK _ _ (leRow1_refl _) ?_
            exact rfl
          refine ⟨?_, ?_⟩
          · intro a W K N hK
            have e58 : a.tmps[58]?.getD undef = _ := N.dep' 12 58 (by kernel_rfl)
            rw [if_pos (wanted_no rfl)]
            go_simp
            refine hK _ _ (leRow1_refl _) ?_
            exact rfl
          refine ⟨?_, ?_⟩
          · intro a W K N hK
            have e59 : a.tmps[59]?.getD undef = _ := N.dep' 13 59 (by kernel_rfl)
            rw [if_pos (wanted_no rfl)]
            go_simp
            refine hK _ _ (leRow1_refl _) ?_
            exact rfl
          refine ⟨?_, ?_⟩
          · intro a W K N hK
            have e60 : a.tmps[60]?.getD undef = _ := N.dep' 14 60 (by kernel_rfl)
            rw [if_pos (wanted_no rfl)]
            have z := (N.le.1.1.cell (p := ⟨m, 1, none⟩) hm2).trans c2
            go_simp
            refine hK _ _ (leRow1_refl _) ?_
            exact rfl
          refine ⟨?_, ?_⟩
          · intro a W K N hK
            have e7 : a.tmps[7]?.getD undef = .int .i64 (k : Int) := N.was' 7 _ (by kernel_rfl) rfl
            rw [if_pos (wanted_no rfl)]
            go_simp
            refine hK _ _ (leRow1_refl _) ?_
            exact rfl
          refine ⟨?_, ?_⟩
          · intro a W K N hK
            have e61 : a.tmps[61]?.getD undef = _ := N.dep' 15 61 (by kernel_rfl)
            have e62 : a.tmps[62]?.getD undef = _ := N.dep' 16 62 (by kernel_rfl)
            rw [if_pos (wanted_no rfl)]
            go_simp
            refine hK _ _ (leRow1_refl _) ?_
            exact rfl
          refine ⟨?_, ?_⟩
          · intro a W K N hK
            have e57 := Lib.hid (show (fun v W' => OwnK encRw 2 52 W2.heap.size v (LL.take n3) W') (a.tmps[57]?.getD undef) W from N.dep' 11 57 (by kernel_rfl))
            have e63 : a.tmps[63]?.getD undef = _ := N.dep' 17 63 (by kernel_rfl)
            rw [if_pos (wanted_no rfl)]
            refine wp_apKeep (L := LL) (base := W2.heap.size) encRw_len (by omega) encRw_one rw_under infoRw rfl (by omega) (.tmp 57) (.tmp 63) rfl _ (TT ++ [r]) (eval_tmp a 57) (by exact (HN3.out ▸ e57.out)) _ (DD) ((eval_tmp a 63).trans e63) (HRD.out _ (below_undr N.le.1.1)) (by first | omega | (simp only [List.length_append, List.length_singleton]; omega)) N.le.1.1.size HP2.out ?_
            intro v5 w5 ho5 hle5 hlit5
            refine hK _ _ ⟨hle5, fun g hB => hlit5 r (fun h => absurd h (by simp)) g hB⟩ ?_
            exact HN4.out ▸ ho5
          refine ⟨?_, ?_⟩
          · intro a W K N hK
            have e46 : a.tmps[46]?.getD undef = _ := N.dep' 0 46 (by kernel_rfl)
            rw [if_pos (wanted_no rfl)]
            go_simp
            refine hK _ _ (leRow1_refl _) ?_
            exact rfl
          refine ⟨?_, ?_⟩
          · intro a W K N hK
            have e65 : a.tmps[65]?.getD undef = _ := N.dep' 19 65 (by kernel_rfl)
            rw [if_pos (wanted_no rfl)]
            go_simp
            refine hK _ _ (leRow1_refl _) ?_
            exact rfl
          exact trivial
        case fin =>
          intro V hV
          simp only [FinAll, slotPhi, List.dropLast, List.getLast_cons_cons, List.getLast_singleton, List.getD_cons_zero, List.getD_cons_succ, forall_eq, Act.put, List.setIfInBounds_toArray, List.set_cons_zero, List.set_cons_succ]
          intro v47 h47
          intro v54 h54
          intro v56 h56
          intro v57 h57
          intro v64 h64
          have hVb := below_undr hV.1.1
          have cl := (hVb.cell (p := ⟨m, 1, none⟩) hm2).trans c2
          have fz := (HM2.out.kept (hVb.block m hm2)).frozen 1
          rw [HN4.out, ← HMP.out] at h64
          have H64 := Lib.hid h64
          obtain ⟨a5, n5, c5, e5⟩ : ∃ a n c, v64 = .slice a n c := by obtain ⟨a5, c5, e5, _⟩ := ownK_form h64; exact ⟨_, _, _, e5⟩
          subst e5
          have HVB := Lib.hid (HB2.out.trans (hVb.mono HB2.out.size))
          have HEV := Lib.hid (HEA.out V hVb)
          clear hV hVb h47 h54 h56 h57 h64
          go_wp2
          go_ret2
          exact .inr (.inr ⟨HZ.out.1, HZ.out.2, k, r, hk, HN.out, HGO.out, rfl, HM.out.put HVB.out (World.ownsRow.mono H64.out HB2.out.size) HEV.out⟩)
          
end Go.Proofs.YtdbaocphglijbaaDoor

/- The document's own table of names, in memory: find, At. -/
set_option maxRecDepth 100000
namespace Go.Proofs.YtdbaocphglijbaaDoor
open Go Go.RowKit Go.Shelf
attribute [local go_sem] Oper.semAt_some
def encE (e : Ent) : List Value := [.int .i64 (e.id : Int), .string ⟨e.name.toArray⟩, .int .i64 (e.uses : Int)]
theorem encE_len (e : Ent) : (encE e).length = 3 := rfl
theorem encE_one (e : Ent) : ∀ u ∈ encE e, u.oneCell' = true := fun u hu => by
  simp only [encE, List.mem_cons, List.not_mem_nil, or_false] at hu
  rcases hu with rfl | rfl | rfl <;> rfl
theorem infoEn : (Tryd.prog.info? 118).map (fun i => (i.zero, i.size, i.bytes)) = some (some (.agg #[.int .i64 0, .string ⟨#[]⟩, .int .i64 0]), 3, 32) := by kernel_rfl
theorem en_under : Tryd.prog.underlying 68 = some (.slice 118) := by kernel_rfl
/-- Rows of names, and the box that they lie in. -/
structure MN (x : Nat → Prop) (t m : Nat) (E : List Ent) (W : World) : Prop where
  ex : ∃ v, Blk W t [.pointer (some ⟨m, 0, none⟩), v] 70 ∧ RK encE x v E W
  mine : x t
theorem MN.same {x : Nat → Prop} {t m : Nat} {E : List Ent} {W W' : World} (h : MN x t m E W) (hk : ∀ b, x b → W'.heap[b]? = W.heap[b]?) : MN x t m E W' := by
  obtain ⟨v, h1, h2⟩ := h.ex
  exact ⟨⟨v, h1.kept (hk t h.mine), h2.same hk⟩, h.mine⟩
theorem MN.below {x : Nat → Prop} {t m : Nat} {E : List Ent} {W W' : World} (h : MN x t m E W) (hb : Below W.heap.size W W') : MN x t m E W' := by
  obtain ⟨v, h1, h2⟩ := h.ex
  exact ⟨⟨v, h1.kept (hb.block t h1.lt), h2.below hb⟩, h.mine⟩
theorem MN.mono {x y : Nat → Prop} {t m : Nat} {E : List Ent} {W : World} (h : MN x t m E W) (hxy : ∀ b, x b → y b) : MN y t m E W := by
  obtain ⟨v, h1, h2⟩ := h.ex
  exact ⟨⟨v, h1, h2.mono hxy⟩, hxy _ h.mine⟩
theorem MN.box {x : Nat → Prop} {t m : Nat} {E : List Ent} {W : World} (h : MN x t m E W) : ∃ ao cap, Blk W t [.pointer (some ⟨m, 0, none⟩), .slice ao E.length cap] 70 ∧ W.cell? ⟨t, 0, none⟩ = some (.pointer (some ⟨m, 0, none⟩)) ∧ W.cell? ⟨t, 1, none⟩ = some (.slice ao E.length cap) ∧ E.length ≤ cap ∧ RK encE x (.slice ao E.length cap) E W ∧
    ∀ i (hi : i < E.length), ∃ b off, ao = some ⟨b, off, none⟩ ∧ x b ∧ W.cell? ⟨b, off + i * 3, none⟩ = some (.int .i64 (E[i].id : Int)) ∧ W.cell? ⟨b, off + i * 3 + 1, none⟩ = some (.string ⟨E[i].name.toArray⟩) ∧ W.cell? ⟨b, off + i * 3 + 2, none⟩ = some (.int .i64 (E[i].uses : Int)) := by
  obtain ⟨v, h1, h2⟩ := h.ex
  obtain ⟨ao, cap, rfl, hc, hf⟩ := h2.form
  refine ⟨ao, cap, h1, h1.cell rfl, h1.cell rfl, hc, h2, fun i hi => ?_⟩
  obtain ⟨b, off, e, hx, c0⟩ := h2.at_ encE_len (i := i) (f := 0) hi (by omega)
  obtain ⟨b1, off1, e1, _, c1⟩ := h2.at_ encE_len (i := i) (f := 1) hi (by omega)
  obtain ⟨b2, off2, e2, _, c2⟩ := h2.at_ encE_len (i := i) (f := 2) hi (by omega)
  rw [e] at e1 e2
  cases e1
  cases e2
  rw [Nat.add_zero] at c0
  exact ⟨b, off, e, hx, c0, by rw [Nat.add_assoc]; exact c1, by rw [Nat.add_assoc]; exact c2⟩
def TAtRet (E : List Ent) (z : Int) (w : World) (e : Ending) (w' : World) : Prop := ((∃ (i : Nat) (hi : i < E.length), e = .returned (.int .i64 (i : Int)) ∧ (E[i].id : Int) = z) ∨ (e = .returned (.int .i64 (-1)) ∧ ∀ y ∈ E, (y.id : Int) ≠ z)) ∧ w = w'
def TFindRet (E : List Ent) (l : List UInt8) (w : World) (e : Ending) (w' : World) : Prop := ((∃ (i : Nat) (hi : i < E.length), e = .returned (.int .i64 (i : Int)) ∧ E[i].name = l) ∨ (e = .returned (.int .i64 (-1)) ∧ ∀ y ∈ E, y.name ≠ l)) ∧ w = w'
set_option maxHeartbeats 4000000 in
theorem mtAt_any (x : Nat → Prop) (t m : Nat) (E : List Ent) (z : Int) (w : World) (h : MN x t m E w) (hl : E.length ≤ 1000000) :
    Calls Tryd.prog 80 #[.pointer (some ⟨t, 0, none⟩), .int .i64 z] w (TAtRet E z w) := by
  obtain ⟨ao, cap, _, _, c1, hcap, _, hrow⟩ := h.box
  have HR := Lib.hid hrow
  clear hrow h
  go_enter Tryd.func80, Tryd.ntmps80
  go_wp2
  go_loop [5] (fun i => ∃ k : Nat, i = .int .i64 (k : Int) ∧ k ≤ E.length ∧ Hid (∀ i (h : i < E.length), i < k → (E[i].id : Int) ≠ z)) (fun i => E.length + 1 - (intOf i).toNat)
  case atStart => exact ⟨0, rfl, Nat.zero_le _, Lib.hid fun i h h2 => by omega⟩
  case round =>
    obtain ⟨k, rfl, hk, HN⟩ := hrel
    by_cases hlt : k < E.length
    · obtain ⟨b, off, rfl, hx, d0, _⟩ := HR.out k hlt
      obtain ⟨q, hq⟩ : ∃ q, E[k].id = q := ⟨_, rfl⟩
      rw [hq] at d0
      by_cases hz : (q : Int) = z
      · have HQ : Hid ((E[k].id : Int) = z) := Lib.hid (by rw [hq]; exact hz)
        have hb : ((q : Int) == z) = true := by rw [hz]; exact beq_self_eq_true z
        clear hq hz HN
        go_wp2
        go_ret
        exact ⟨.inl ⟨k, hlt, rfl, HQ.out⟩, rfl⟩
      · have HQ : Hid (∀ i (h : i < E.length), i < k + 1 → (E[i].id : Int) ≠ z) := Lib.hid fun i h h2 => by
          by_cases e : i = k
          · subst e; rw [hq]; exact hz
          · exact HN.out i h (by omega)
        have hb : ((q : Int) == z) = false := by rw [beq_eq_false_iff_ne]; exact hz
        clear hq hz HN
        go_wp2
        go_round
        case rel => exact ⟨k + 1, by go_num, by omega, HQ⟩
        case measure => simp [intOf]; omega
    · obtain rfl : k = E.length := by omega
      go_wp2
      go_ret
      exact ⟨.inr ⟨rfl, fun p hp => by obtain ⟨i, hi, rfl⟩ := List.mem_iff_getElem.1 hp; exact HN.out i hi hi⟩, rfl⟩
set_option maxHeartbeats 4000000 in
theorem mtfind_any (x : Nat → Prop) (t m : Nat) (E : List Ent) (l : List UInt8) (w : World) (h : MN x t m E w) (hl : E.length ≤ 1000000) :
    Calls Tryd.prog 77 #[.pointer (some ⟨t, 0, none⟩), .string ⟨l.toArray⟩] w (TFindRet E l w) := by
  obtain ⟨ao, cap, _, _, c1, hcap, _, hrow⟩ := h.box
  have HR := Lib.hid hrow
  clear hrow h
  go_enter Tryd.func77, Tryd.ntmps77
  go_wp2
  go_loop [5] (fun i => ∃ k : Nat, i = .int .i64 (k : Int) ∧ k ≤ E.length ∧ Hid (∀ i (h : i < E.length), i < k → E[i].name ≠ l)) (fun i => E.length + 1 - (intOf i).toNat)
  case atStart => exact ⟨0, rfl, Nat.zero_le _, Lib.hid fun i h h2 => by omega⟩
  case round =>
    obtain ⟨k, rfl, hk, HN⟩ := hrel
    by_cases hlt : k < E.length
    · obtain ⟨b, off, rfl, hx, _, d0, _⟩ := HR.out k hlt
      obtain ⟨q, hq⟩ : ∃ q, E[k].name = q := ⟨_, rfl⟩
      rw [hq] at d0
      by_cases hz : q = l
      · have HQ : Hid (E[k].name = l) := Lib.hid (by rw [hq]; exact hz)
        have hb : (q == l) = true := by rw [hz]; exact beq_self_eq_true l
        clear hq hz HN
        go_wp2
        go_ret
        exact ⟨.inl ⟨k, hlt, rfl, HQ.out⟩, rfl⟩
      · have HQ : Hid (∀ i (h : i < E.length), i < k + 1 → E[i].name ≠ l) := Lib.hid fun i h h2 => by
          by_cases e : i = k
          · subst e; rw [hq]; exact hz
          · exact HN.out i h (by omega)
        have hb : (q == l) = false := by rw [beq_eq_false_iff_ne]; exact hz
        clear hq hz HN
        go_wp2
        go_round
        case rel => exact ⟨k + 1, by go_num, by omega, HQ⟩
        case measure => simp [intOf]; omega
    · obtain rfl : k = E.length := by omega
      go_wp2
      go_ret
      exact ⟨.inr ⟨rfl, fun p hp => by obtain ⟨i, hi, rfl⟩ := List.mem_iff_getElem.1 hp; exact HN.out i hi hi⟩, rfl⟩
end Go.Proofs.YtdbaocphglijbaaDoor

/- The document's own table: rows that are copied, and one number in them changed. -/
set_option maxRecDepth 100000
namespace Go.Proofs.YtdbaocphglijbaaDoor
open Go Go.RowKit Go.Shelf
attribute [local go_sem] Oper.semAt_some
section
variable {α : Type} {enc : α → List Value} {k : Nat} {e : TypeId} {base : Nat} {L : List α}
theorem wpList_litRK {P : Program} (hk : ∀ a, (enc a).length = k) (h0 : 0 < k) {x : Nat → Prop} {w : World} {t : TypeId} {z : Value} {bytes : Nat} (h1 : P.underlying t = some (.slice e))
    (h2 : (P.info? e).map (fun i => (i.zero, i.size, i.bytes)) = some (some z, k, bytes)) (hz : z.cells.size = k) (b2 : bytes ≤ 1000) {ops : Array Oper} {rest : List Oper} {o : Oper} {a : Act} {Q : Exit → Act → World → Prop} (hg : o.guard = none)
    (s y : Operand) (hop : o.op = Op.call { callee := Callee.builtin Builtin.append, args := #[s, y], argTypes := #[t, t] })
    (base g : Nat) (hs : a.eval s = .slice (some ⟨g, 0, none⟩) 0 0) (hown : OwnK enc k e base (.slice (some ⟨g, 0, none⟩) 0 0) [] w) (yv : Value) (news : List α) (hy : a.eval y = yv) (hr : RK enc x yv news w) (b1 : news.length ≤ 1000000) (hb : base ≤ w.heap.size)
    (hK : ∀ v' w', OwnK enc k e base v' news w' → Below w.heap.size w w' → wpList P ops Q rest (a.put o.dst v') w') : wpList P ops Q (o :: rest) a w :=
  wpList_plain hg fun _ hK' => wp_litRK (base := base) hk h0 h1 h2 hz b2 s y hop ⟨g, hs, hown⟩ yv news hy hr b1 hb fun v' w' r1 r2 => hK' _ _ (hK v' w' r1 r2)
theorem wpList_apRK {P : Program} (hk : ∀ a, (enc a).length = k) (h0 : 0 < k) (henc : ∀ a, ∀ u ∈ enc a, u.oneCell' = true) {x : Nat → Prop} {w : World} {t : TypeId} {z : Value} {bytes : Nat} (h1 : P.underlying t = some (.slice e))
    (h2 : (P.info? e).map (fun i => (i.zero, i.size, i.bytes)) = some (some z, k, bytes)) (hz : z.cells.size = k) (b2 : bytes ≤ 1000) {ops : Array Oper} {rest : List Oper} {o : Oper} {a : Act} {Q : Exit → Act → World → Prop} (hg : o.guard = none)
    (s y : Operand) (hop : o.op = Op.call { callee := Callee.builtin Builtin.append, args := #[s, y], argTypes := #[t, t] })
    (base : Nat) (v : Value) (l : List α) (hs : a.eval s = v) (hown : OwnK enc k e base v l w) (yv : Value) (news : List α) (hy : a.eval y = yv) (hr : RK enc x yv news w) (b1 : l.length + news.length ≤ 1000000) (hb : base ≤ w.heap.size)
    (hK : ∀ v' w', OwnK enc k e base v' (l ++ news) w' → Below base w w' → wpList P ops Q rest (a.put o.dst v') w') : wpList P ops Q (o :: rest) a w :=
  wpList_plain hg fun _ hK' => wp_apKeep (base := base) (L := l ++ news) hk h0 henc h1 h2 hz b2 s y hop v l hs hown yv news hy hr b1 hb (List.prefix_refl _) fun v' w' r1 r2 _ => hK' _ _ (hK v' w' r1 r2.1)
end
theorem flatE_set : ∀ (E : List Ent) (i : Nat) (h : i < E.length) (u : Nat), (E.flatMap encE).set (i * 3 + 2) (.int .i64 (u : Int)) = (E.set i ⟨E[i].id, u, E[i].name⟩).flatMap encE
  | [], i, h, u => by simp at h
  | y :: E, 0, h, u => by simp [encE]
  | y :: E, i + 1, h, u => by
    have ih := flatE_set E i (by simpa using h) u
    have e1 : (i + 1) * 3 + 2 = (encE y).length + (i * 3 + 2) := by rw [encE_len, Nat.succ_mul]; omega
    rw [List.flatMap_cons, e1, List.set_append_right _ _ (by omega), Nat.add_sub_cancel_left, ih, List.set_cons_succ, List.flatMap_cons]
    rfl
theorem ownE_set {base g n c : Nat} {E : List Ent} {W : World} (h : OwnK encE 3 118 base (.slice (some ⟨g, 0, none⟩) n c) E W) {i : Nat} (hi : i < E.length) (u : Nat) :
    OwnK encE 3 118 base (.slice (some ⟨g, 0, none⟩) n c) (E.set i ⟨E[i].id, u, E[i].name⟩) (W.setCell ⟨g, 0 + i * 3 + 2, none⟩ (.int .i64 (u : Int))) := by
  have hl := h.1
  rcases h.2 with ⟨e1, _⟩ | ⟨g', cap, cur, e1, hb, hg, hn, hc, hs, ht⟩
  · cases e1
  · injection e1 with e1 e2 e3
    injection e1 with e1
    injection e1 with e1
    subst e1 e2 e3
    have hblk : Blk W g cur.toList 118 := by show W.heap[g]? = some (.cells cur.toList.toArray 118 (0, 0)); rw [hg]
    have hset := hblk.set (0 + i * 3 + 2) (.int .i64 (u : Int))
    refine ⟨?_, .inr ⟨g, c, _, by rw [List.length_set], hb, hset, by rw [List.length_set]; exact hn, hc, ?_, ?_⟩⟩
    · rw [← flatE_set E i hi u, List.length_set, List.length_set]; exact hl
    · rw [List.size_toArray, List.length_set, Array.length_toList]; exact hs
    · rw [List.toList_toArray, List.length_set, List.take_set, ht, Nat.zero_add, flatE_set E i hi u]
def TRet (x : Nat → Prop) (t m : Nat) (E : List Ent) (w w' : World) : Prop := MN (plus x w w') t m E w' ∧ Trn (fun k => k = t) w w'
/-- New rows are laid into the box. -/
theorem MN.put {x : Nat → Prop} {t m : Nat} {E E' : List Ent} {w w1 : World} {v : Value} (h : MN x t m E w) (hb : Below w.heap.size w w1) (hv : OwnK encE 3 118 w.heap.size v E' w1) :
    TRet x t m E' w (w1.setCell ⟨t, 1, none⟩ v) ∧ OwnK encE 3 118 w.heap.size v E' (w1.setCell ⟨t, 1, none⟩ v) := by
  obtain ⟨v0, h1, h2⟩ := h.ex
  have hs : (w1.setCell ⟨t, 1, none⟩ v).heap.size = w1.heap.size := by simp [World.setCell]
  have hm1 : Blk w1 t [.pointer (some ⟨m, 0, none⟩), v0] 70 := h1.kept (hb.block t h1.lt)
  have hT : Trn (fun k => k = t) w (w1.setCell ⟨t, 1, none⟩ v) := (Trn.of_below hb).trans (Trn.set hm1 (.inl rfl) 1 v)
  have hO : OwnK encE 3 118 w.heap.size v E' (w1.setCell ⟨t, 1, none⟩ v) := by
    refine ownK_grown (row := some t) hv ⟨rfl, rfl, rfl, by simp [World.setCell], fun k _ hk => Below.heap_setCell w1 ⟨t, 1, none⟩ v k (fun e => hk (by rw [e]))⟩ fun g hg e => ?_
    have := (ownBlock_in hv g hg).1
    have := h1.lt
    injection e with e
    omega
  refine ⟨⟨⟨⟨v, hm1.set 1 v, ?_⟩, .inl h.mine⟩, hT⟩, hO⟩
  exact RK.own hO fun b hb2 => .inr (ownBlock_in hO b hb2)
/-- A number in one of the rows just made is changed. -/
theorem TRet.uses {x : Nat → Prop} {t m : Nat} {E : List Ent} {w w1 : World} {g c : Nat} (h : TRet x t m E w w1) (hc : w1.cell? ⟨t, 1, none⟩ = some (.slice (some ⟨g, 0, none⟩) E.length c)) (hO : OwnK encE 3 118 w.heap.size (.slice (some ⟨g, 0, none⟩) E.length c) E w1) (ht : t < w.heap.size) {i : Nat} (hi : i < E.length) (u : Nat) :
    TRet x t m (E.set i ⟨E[i].id, u, E[i].name⟩) w (w1.setCell ⟨g, 0 + i * 3 + 2, none⟩ (.int .i64 (u : Int))) ∧ OwnK encE 3 118 w.heap.size (.slice (some ⟨g, 0, none⟩) E.length c) (E.set i ⟨E[i].id, u, E[i].name⟩) (w1.setCell ⟨g, 0 + i * 3 + 2, none⟩ (.int .i64 (u : Int))) := by
  obtain ⟨⟨⟨v, h1, h2⟩, hm⟩, hT⟩ := h
  have hv : v = .slice (some ⟨g, 0, none⟩) E.length c := by
    have := h1.cell (i := 1) (v := v) rfl
    rw [this] at hc
    exact Option.some.inj hc
  subst hv
  have hgb := ownBlock_in hO g rfl
  have hO2 := ownE_set hO hi u
  have hs : (w1.setCell ⟨g, 0 + i * 3 + 2, none⟩ (.int .i64 (u : Int))).heap.size = w1.heap.size := by simp [World.setCell]
  have hcur : ∃ cur, Blk w1 g cur 118 := by
    rcases hO.2 with ⟨e1, _⟩ | ⟨g', cap, cur, e1, hb, hg, _⟩
    · cases e1
    · injection e1 with e1 e2 e3
      injection e1 with e1
      injection e1 with e1
      subst e1
      exact ⟨cur.toList, hg⟩
  obtain ⟨cur, hcur⟩ := hcur
  refine ⟨⟨⟨⟨_, h1.other (by omega) _ _, ?_⟩, ?_⟩, hT.trans (Trn.set hcur (.inr hgb) _ _)⟩, hO2⟩
  · exact RK.own hO2 fun b hb => .inr (ownBlock_in hO2 b hb)
  · unfold plus at hm ⊢
    rw [hs]; exact hm
end Go.Proofs.YtdbaocphglijbaaDoor

/- The document's own table: Add of a name that is there; of none. -/
set_option maxRecDepth 100000
namespace Go.Proofs.YtdbaocphglijbaaDoor
open Go Go.RowKit Go.Shelf
attribute [local go_sem] Oper.semAt_some
theorem own_litE {n : Nat} (W : World) (h : n ≤ W.heap.size) : OwnK encE 3 118 n (.slice (some ⟨W.heap.size, 0, none⟩) 0 0) [] (W.alloc (.cells #[] 118)) :=
  World.ownsRow_lit (base := n) (e := 118) (size := 3) W #[] 0 h (by simp) rfl
theorem ownK_loose {α : Type} {enc : α → List Value} {k : Nat} {e : TypeId} {base g n cap : Nat} {l : List α} {W : World} (h : OwnK enc k e base (.slice (some ⟨g, 0, none⟩) n cap) l W) (i : Nat) : W.frozen? ⟨g, i, none⟩ = false := by
  rcases h.2 with ⟨e1, _⟩ | ⟨g', cap', cur, e1, _, hg, _⟩
  · cases e1
  · injection e1 with e1
    injection e1 with e1
    injection e1 with e1
    subst e1
    simp [World.frozen?, hg]
set_option maxHeartbeats 4000000 in
theorem mtadd_bad (t : Value) (n : List UInt8) (w : World) (hv : Nm.valid n = false) (hl : n.length ≤ 100000) :
    Calls Tryd.prog 37 #[t, .string ⟨n.toArray⟩] w fun e w' => e = .returned (.tuple #[.int .i64 0, .int .i64 2]) ∧ Below w.heap.size w w' := by
  have HV := Lib.hid (by have k := rvalid_any n w hl; rw [hv] at k; exact k)
  clear hv
  go_enter Tryd.func37, Tryd.ntmps37
  go_wp2_with fail
  refine HV.out.mono ?_
  rintro e w1 ⟨rfl, b1⟩
  have HB := Lib.hid b1
  clear b1
  go_wp2
  go_ret2
  exact ⟨rfl, HB.out⟩
set_option maxHeartbeats 8000000 in
theorem mtadd_use (x : Nat → Prop) (t m : Nat) (E : List Ent) (n : List UInt8) (i : Nat) (hi : i < E.length) (w : World) (h : MN x t m E w) (hE : E.length ≤ 900000) (hv : Nm.valid n = true) (hl : n.length ≤ 100000) (hz : E[i].name = Nm.fold n) (hnd : ∀ j (hj : j < E.length), E[j].name = Nm.fold n → j = i) (hu : E[i].uses < 4611686018427387904) :
    Calls Tryd.prog 37 #[.pointer (some ⟨t, 0, none⟩), .string ⟨n.toArray⟩] w fun e w' => e = .returned (.tuple #[.int .i64 (E[i].id : Int), .int .i64 0]) ∧ TRet x t m (E.set i ⟨E[i].id, E[i].uses + 1, E[i].name⟩) w w' := by
  have HV := Lib.hid (by have k := rvalid_any n w hl; rw [hv] at k; exact k)
  have HF := Lib.hid (fun W => rfold_any n W hl)
  have HM := Lib.hid h
  have HZ := Lib.hid hz
  have HND := Lib.hid hnd
  obtain ⟨u, hu2⟩ : ∃ u, E[i].uses = u := ⟨_, rfl⟩
  rw [hu2] at hu
  have HU := Lib.hid hu2
  clear hv hz hnd h hu2
  go_enter Tryd.func37, Tryd.ntmps37
  go_wp2_with fail
  refine HV.out.mono ?_
  rintro e w1 ⟨rfl, b1⟩
  go_wp2_with fail
  refine (HF.out w1).mono ?_
  rintro e w2 ⟨rfl, b2⟩
  have HB := Lib.hid (b1.trans (b2.mono b1.size))
  have HM2 := Lib.hid (HM.out.below HB.out)
  clear b1 b2 HV HF
  go_wp2_with fail
  refine (mtfind_any x t m E (Nm.fold n) w2 HM2.out (by omega)).mono ?_
  rintro e w' ⟨⟨j, hj, rfl, hn⟩ | ⟨rfl, hn⟩, rfl⟩
  · obtain rfl := HND.out j hj hn
    clear hn hj
    obtain ⟨ao, cap, hbx, c0, c1, hcap, hrk, hrow⟩ := HM2.out.box
    have htw2 := hbx.lt
    have HRK := Lib.hid hrk
    have HBX := Lib.hid hbx
    have HROW := Lib.hid hrow
    clear hrk hbx hrow
    have c1n : (w2.alloc (.cells #[] 118)).cell? ⟨t, 1, none⟩ = some (.slice ao E.length cap) := ((HBX.out.alloc _).cell rfl)
    go_wp2_with (first
      | (at_builtin; refine wpList_litRK encE_len (by omega) en_under infoEn rfl (by omega) rfl _ _ rfl w.heap.size w2.heap.size rfl (own_litE w2 HB.out.size) _ E rfl (HRK.out.below ((Below.refl _ _).alloc (Nat.le_refl _) _)) (by omega) (by have := HB.out.size; simp; omega) ?_; intro v4 w4 ho4 hb4; have HO4 := Lib.hid ho4; have HB4 := Lib.hid hb4; obtain ⟨a4, c4, rfl, hfm⟩ := ownK_form ho4; clear ho4 hb4; refine Hid.out ?_))
    refine Lib.hid ?_
    obtain ⟨g, rfl⟩ := hfm (fun e => by rw [e] at hi; simp at hi)
    have hB4 : Below w.heap.size w w4 := HB.out.trans ((((Below.refl _ _).alloc (Nat.le_refl _) _).trans (HB4.out.mono (by simp))).mono HB.out.size)
    obtain ⟨v0, hb0, _⟩ := HM.out.ex
    have htw := hb0.lt
    have hb4 := hb0.kept (hB4.block t htw)
    have ct4 := hb4.cell (i := 1) rfl
    have ft4 := hb4.frozen 1
    have hge := (ownBlock_in HO4.out g rfl).1
    have hne : g ≠ t := by omega
    have hne2 : t ≠ g := by omega
    have d0 := ownK_cell encE_len HO4.out hi (i := 0) (by omega)
    have d2 := ownK_cell encE_len HO4.out hi (i := 2) (by omega)
    have fg : ∀ i, w4.frozen? ⟨g, i, none⟩ = false := fun i => ownK_loose HO4.out i
    have HP := Lib.hid (HM.out.put hB4 HO4.out)
    rw [Nat.zero_add] at d0 d2
    rw [Nat.add_zero] at d0
    simp only [encE, List.getElem?_cons_zero, List.getElem?_cons_succ, HU.out] at d0 d2
    have hw1 : (u : Int) + 1 = ((u + 1 : Nat) : Int) := by norm_cast
    have HW1 := Lib.hid hw1
    have HB40 := Lib.hid hb4
    clear hb0 hb4 hw1 HB4
    go_wp2
    go_ret2
    have hfin := HP.out.1.uses ((HB40.out.set 1 _).cell (i := 1) rfl) HP.out.2 htw hi (u + 1)
    rw [Nat.zero_add] at hfin
    refine ⟨rfl, ?_⟩
    rw [HU.out, HW1.out]
    exact hfin.1
  · exact absurd HZ.out (hn _ (List.getElem_mem hi))
end Go.Proofs.YtdbaocphglijbaaDoor

/- The document's own table over its arena: one view, by names. -/
set_option maxRecDepth 100000
namespace Go.Proofs.YtdbaocphglijbaaDoor
open Go Go.RowKit Go.Shelf
attribute [local go_sem] Oper.semAt_some
/-- What is read is not in a block that has no such cells: a change there is passed over. -/
theorem RK.past {α : Type} {enc : α → List Value} {k f : Nat} (hk : ∀ a, (enc a).length = k) (hf : f < k) {x : Nat → Prop} {v : Value} {l : List α} {w w' : World} (h : RK enc x v l w) {t : Nat} {cs : List Value} {T : TypeId} (hB : Blk w t cs T) (hT : Trn (fun j => j = t) w w') (hno : ∀ a ∈ l, ∀ u, (enc a)[f]? = some u → u ∉ cs) : RK enc x v l w' := by
  obtain ⟨ao, cap, e, hc, hfm⟩ := h.form
  refine ⟨ao, cap, e, hc, fun j u hu => ?_⟩
  obtain ⟨b, off, rfl, hx, c⟩ := hfm j u hu
  refine ⟨b, off, rfl, hx, ?_⟩
  have hbt : b ≠ t := fun e2 => by
    subst e2
    have hj := (List.getElem?_eq_some_iff.1 hu).1
    rw [flat_len enc k hk] at hj
    have hi : j / k < l.length := Nat.div_lt_of_lt_mul (by rw [Nat.mul_comm]; exact hj)
    have h1 := flat_get enc k hk l (j / k) f hi hf
    have hfl : f < (enc l[j / k]).length := by rw [hk]; exact hf
    obtain ⟨b', off', e', _, c'⟩ := hfm (j / k * k + f) _ (h1.trans (List.getElem?_eq_getElem hfl))
    cases e'
    refine hno _ (List.getElem_mem hi) _ (List.getElem?_eq_getElem hfl) ?_
    have h2 : w.cell? ⟨b, off + (j / k * k + f), none⟩ = cs[off + (j / k * k + f)]? := by
      show (match w.heap[b]? with | some (.cells c _ _) => c[off + (j / k * k + f)]? | _ => none) = _
      rw [show w.heap[b]? = _ from hB]
      simp
    rw [h2] at c'
    exact List.mem_of_getElem? c'
  rw [cell_same (hT.block b (by have := cell_lt c; exact this) hbt)]
  exact c
theorem MN.past {x : Nat → Prop} {t m B : Nat} {E : List Ent} {w w' : World} {v0 : Value} (h : MN x t m E w) (hB : Blk w m [.int .i64 (B : Int), v0] 33) (hv : ∀ s, v0 ≠ .string s) (hT : Trn (fun j => j = m) w w') : MN x t m E w' := by
  obtain ⟨v, h1, h2⟩ := h.ex
  refine ⟨⟨v, h1.trn hT (h1.ne hB (by decide)), h2.past encE_len (f := 1) (by omega) hB hT fun a _ u hu hm => ?_⟩, h.mine⟩
  simp only [encE, List.getElem?_cons_succ, List.getElem?_cons_zero, Option.some.injEq] at hu
  subst hu
  rcases List.mem_cons.1 hm with h | h
  · cases h
  · rw [List.mem_singleton] at h
    exact hv _ h.symm
theorem MA.past {x : Nat → Prop} {t m B : Nat} {P : List Rp} {w w' : World} {v0 v1 : Value} (h : MA x m B P w) (hB : Blk w t [v0, v1] 70) (hv0 : ∀ k z, v0 ≠ .int k z) (hv1 : ∀ k z, v1 ≠ .int k z) (hT : Trn (fun j => j = t) w w') : MA x m B P w' := by
  obtain ⟨v, h1, h2⟩ := h.ex
  have hno : ∀ (k : IntKind) (z : Int), Value.int k z ∉ [v0, v1] := fun k z hm => by
    rcases List.mem_cons.1 hm with h | h
    · exact hv0 _ _ h.symm
    · rw [List.mem_singleton] at h; exact hv1 _ _ h.symm
  refine ⟨⟨v, h1.trn hT (h1.ne hB (by decide)), h2.past encRw_len (f := 0) (by omega) hB hT fun a _ u hu hm => ?_⟩, h.mine, fun p hp => ⟨(h.each p hp).1, (h.each p hp).2.past encC_len (f := 0) (by omega) hB hT fun a _ u hu hm => ?_⟩⟩
  · simp only [encRw, List.getElem?_cons_zero, Option.some.injEq] at hu
    subst hu
    exact hno _ _ hm
  · simp only [encC, encB, List.getElem?_cons_zero, Option.some.injEq] at hu
    subst hu
    exact hno _ _ hm
theorem MA.mono {x y : Nat → Prop} {m B : Nat} {P : List Rp} {W : World} (h : MA x m B P W) (hxy : ∀ b, x b → y b) : MA y m B P W := by
  obtain ⟨v, h1, h2⟩ := h.ex
  exact ⟨⟨v, h1, h2.mono hxy⟩, hxy _ h.mine, fun p hp => ⟨(h.each p hp).1, (h.each p hp).2.mono hxy⟩⟩
/-- The document's own table, by its names. -/
structure MT (x : Nat → Prop) (t m B : Nat) (E : List Ent) (P : List Rp) (w : World) : Prop where
  ma : MA x m B P w
  mn : MN x t m E w
  srt : (lsP P).Pairwise (fun a b => a.1 < b.1)
  pos : ∀ b ∈ lsP P, 1 ≤ b.1
  per : (lens (lsP P)).Perm (idl E)
  small : ∀ e ∈ E, e.name.length ≤ 300
  room : costE E ≤ B
theorem MT.below {x : Nat → Prop} {t m B : Nat} {E : List Ent} {P : List Rp} {w w' : World} (h : MT x t m B E P w) (hb : Below w.heap.size w w') : MT x t m B E P w' := ⟨h.ma.below hb, h.mn.below hb, h.srt, h.pos, h.per, h.small, h.room⟩
theorem MT.same {x : Nat → Prop} {t m B : Nat} {E : List Ent} {P : List Rp} {w w' : World} (h : MT x t m B E P w) (hk : ∀ b, x b → w'.heap[b]? = w.heap[b]?) : MT x t m B E P w' := ⟨h.ma.same hk, h.mn.same hk, h.srt, h.pos, h.per, h.small, h.room⟩
theorem MT.sum {x : Nat → Prop} {t m B : Nat} {E : List Ent} {P : List Rp} {w : World} (h : MT x t m B E P w) : sumC (lsP P) = costE E := by
  rw [sumC_lens, costE_idl]
  exact (h.per.map _).sum_nat
theorem MT.len {x : Nat → Prop} {t m B : Nat} {E : List Ent} {P : List Rp} {w : World} (h : MT x t m B E P w) : P.length = E.length := by
  have := h.per.length_eq
  simpa [lens, idl, lsP] using this
theorem MT.bytes {x : Nat → Prop} {t m B : Nat} {E : List Ent} {P : List Rp} {w : World} (h : MT x t m B E P w) : ∀ b ∈ lsP P, b.2.length ≤ 4096 := fun b hb => by
  have h1 : (b.1, b.2.length) ∈ lens (lsP P) := List.mem_map.2 ⟨b, hb, rfl⟩
  obtain ⟨e, he, h2⟩ := List.mem_map.1 (h.per.mem_iff.1 h1)
  have h3 := (Prod.mk.inj h2).2
  have := h.small e he
  omega
theorem costE_ge (E : List Ent) : 16 * E.length ≤ costE E := by
  induction E with
  | nil => exact Nat.zero_le _
  | cons e E ih =>
    rw [costE_cons, List.length_cons]
    have : 16 ≤ Ar.cost (e.name.length + 8) := by unfold Ar.cost; (repeat' split) <;> omega
    omega
theorem MT.few {x : Nat → Prop} {t m B : Nat} {E : List Ent} {P : List Rp} {w : World} (h : MT x t m B E P w) (hB : B ≤ 1048576) : E.length ≤ 65536 := by
  have h1 := costE_ge E
  have h2 := h.room
  omega
/-- The least handle, as the document's own Alloc finds it. -/
theorem least_of {L : List Bl} {E : List Ent} {k : Nat} (hs : L.Pairwise (fun a b => a.1 < b.1)) (hp : (lens L).Perm (idl E)) (hpos : ∀ b ∈ L, 1 ≤ b.1) (hk : k ≤ L.length) (h1 : ∀ i (h : i < L.length), i < k → L[i].1 = i + 1) (h2 : ∀ h : k < L.length, L[k].1 ≠ k + 1) : LeastE E (k + 1) ∧ ∀ b ∈ L.drop k, k + 1 < b.1 := by
  have hgt : ∀ i (h : i < L.length), i + 1 ≤ L[i].1 := by
    intro i
    induction i with
    | zero => exact fun h => hpos _ (List.getElem_mem h)
    | succ i ih =>
      intro h
      have := ih (by omega)
      have := List.pairwise_iff_getElem.1 hs i (i + 1) (by omega) h (by omega)
      omega
  have hdrop : ∀ b ∈ L.drop k, k + 1 < b.1 := fun b hb => by
    obtain ⟨j, hj, rfl⟩ := List.mem_iff_getElem.1 hb
    rw [List.getElem_drop]
    rw [List.length_drop] at hj
    have h3 : k < L.length := by omega
    have h4 := h2 h3
    have h5 := hgt k h3
    by_cases h0 : j = 0
    · subst h0
      simp only [Nat.add_zero]
      omega
    · have := List.pairwise_iff_getElem.1 hs k (k + j) h3 (by omega) (by omega)
      omega
  refine ⟨⟨by omega, fun e he hi => ?_, fun j j1 j2 => ?_⟩, hdrop⟩
  · have h3 : (e.id, e.name.length + 8) ∈ idl E := List.mem_map.2 ⟨e, he, rfl⟩
    obtain ⟨b, hb, h4⟩ := List.mem_map.1 (hp.mem_iff.2 h3)
    have h5 := (Prod.mk.inj h4).1
    rw [← List.take_append_drop k L] at hb
    rcases List.mem_append.1 hb with hb | hb
    · obtain ⟨j, hj, rfl⟩ := List.mem_iff_getElem.1 hb
      rw [List.length_take] at hj
      rw [List.getElem_take] at h5
      have := h1 j (by omega) (by omega)
      omega
    · have := hdrop b hb
      omega
  · have h3 := h1 (j - 1) (by omega) (by omega)
    have h4 : (L[j - 1].1, L[j - 1].2.length) ∈ lens L := List.mem_map.2 ⟨_, List.getElem_mem (by omega), rfl⟩
    obtain ⟨e, he, h5⟩ := List.mem_map.1 (hp.mem_iff.1 h4)
    exact ⟨e, he, by have := (Prod.mk.inj h5).1; omega⟩
/-- What an act of the document's own table leaves. -/
def MTR (x : Nat → Prop) (t m B : Nat) (E' : List Ent) (w w' : World) : Prop := (∃ P', MT (plus x w w') t m B E' P' w') ∧ Trn (fun k => k = t ∨ k = m) w w'
theorem plus_mono {x : Nat → Prop} {w w1 w2 w3 : World} (h1 : w.heap.size ≤ w1.heap.size) (h2 : w2.heap.size ≤ w3.heap.size) : ∀ b, plus x w1 w2 b → plus x w w3 b := fun b h => h.elim .inl fun h => .inr ⟨Nat.le_trans h1 h.1, Nat.lt_of_lt_of_le h.2 h2⟩
theorem MT.keep {x : Nat → Prop} {t m B : Nat} {E : List Ent} {P : List Rp} {w w' : World} (h : MT x t m B E P w) (hb : Below w.heap.size w w') : MTR x t m B E w w' :=
  ⟨⟨P, (h.below hb).ma.mono fun _ => .inl, (h.below hb).mn.mono fun _ => .inl, h.srt, h.pos, h.per, h.small, h.room⟩, Trn.of_below hb⟩
end Go.Proofs.YtdbaocphglijbaaDoor

/- The document's own table: Add of a new name. -/
set_option maxRecDepth 100000
namespace Go.Proofs.YtdbaocphglijbaaDoor
open Go Go.RowKit Go.Shelf
attribute [local go_sem] Oper.semAt_some
theorem lsP_take (P : List Rp) (k : Nat) (r : Rw) (b : Bl) : lsP (P.take k ++ (r, b) :: P.drop k) = (lsP P).take k ++ b :: (lsP P).drop k := by unfold lsP; rw [List.map_append, List.map_cons, List.map_take, List.map_drop]
theorem perm_add {L : List Bl} {E : List Ent} {k i : Nat} {l : List UInt8} (h : (lens L).Perm (idl E)) (hl : i = l.length + 8) : (lens (L.take k ++ (k + 1, Ar.zeros i) :: L.drop k)).Perm (idl (E ++ [⟨k + 1, 1, l⟩])) := by
  have h1 : lens (L.take k ++ (k + 1, Ar.zeros i) :: L.drop k) = lens (L.take k) ++ (k + 1, i) :: lens (L.drop k) := by
    unfold lens
    rw [List.map_append, List.map_cons]
    simp [Ar.zeros]
  have h2 : lens L = lens (L.take k) ++ lens (L.drop k) := by unfold lens; rw [← List.map_append, List.take_append_drop]
  have h3 : idl (E ++ [⟨k + 1, 1, l⟩]) = idl E ++ [(k + 1, i)] := by unfold idl; rw [List.map_append, hl]; rfl
  rw [h1, h3]
  rw [h2] at h
  exact (List.perm_middle.trans (List.Perm.cons _ h)).trans (List.perm_append_singleton _ _).symm
set_option maxHeartbeats 16000000 in
theorem mtadd_new (x : Nat → Prop) (t m B : Nat) (E : List Ent) (P : List Rp) (n l : List UInt8) (w : World) (h : MT x t m B E P w) (hB : B ≤ 1048576) (hv : Nm.valid n = true) (hz : Nm.fold n = l) (hl : n.length ≤ 300) (hn : ∀ e ∈ E, e.name ≠ l) :
    Calls Tryd.prog 37 #[.pointer (some ⟨t, 0, none⟩), .string ⟨n.toArray⟩] w fun e w' =>
      (B < costE E + Ar.cost (l.length + 8) ∧ e = .returned (.tuple #[.int .i64 0, .int .i64 4]) ∧ MTR x t m B E w w') ∨
      (costE E + Ar.cost (l.length + 8) ≤ B ∧ ∃ i : Nat, e = .returned (.tuple #[.int .i64 (i : Int), .int .i64 0]) ∧ LeastE E i ∧ MTR x t m B (E ++ [⟨i, 1, l⟩]) w w') := by
  have hll : l.length ≤ 300 := by rw [← hz, fold_len n]; exact hl
  have HV := Lib.hid (by have k := rvalid_any n w (by omega); rw [hv] at k; exact k)
  have HF := Lib.hid (fun W => (by have k := rfold_any n W (by omega); rw [hz] at k; exact k))
  have HM := Lib.hid h
  have HN := Lib.hid hn
  have hE := h.few hB
  clear hv hz hn h
  go_enter Tryd.func37, Tryd.ntmps37
  go_wp2_with fail
  refine HV.out.mono ?_
  rintro e w1 ⟨rfl, b1⟩
  go_wp2_with fail
  refine (HF.out w1).mono ?_
  rintro e w2 ⟨rfl, b2⟩
  have HB := Lib.hid (b1.trans (b2.mono b1.size))
  have HM2 := Lib.hid (HM.out.below HB.out)
  clear b1 b2 HV HF
  go_wp2_with fail
  refine (mtfind_any x t m E l w2 HM2.out.mn (by omega)).mono ?_
  rintro e w' ⟨⟨j, hj, rfl, hnn⟩ | ⟨rfl, hnn⟩, rfl⟩
  · exact absurd hnn (HN.out _ (List.getElem_mem hj))
  clear hnn
  obtain ⟨ao, cap, hbx, c0, c1, hcap, hrk, hrow⟩ := HM2.out.mn.box
  have HBX := Lib.hid hbx
  have hal := malloc_any x m B P ((l.length : Int) + 8) w2 HM2.out.ma (by omega) hB (by rw [HM2.out.sum]; exact HM2.out.room) (by rw [HM2.out.len]; omega) HM2.out.bytes
  have HAL := Lib.hid hal
  clear hal hrow hrk hbx
  have hci : Ar.costI ((l.length : Int) + 8) = Ar.cost (l.length + 8) := by
    have := costI_of l.length (by omega)
    rw [← this]; rfl
  have hcp : Ar.cost (l.length + 8) ≠ 0 := by unfold Ar.cost; (repeat' split) <;> omega
  have HCI := Lib.hid (And.intro hci hcp)
  clear hci hcp
  go_wp2_with fail
  refine HAL.out.mono ?_
  clear HAL
  rintro e w3 (⟨hc0, _, _⟩ | ⟨_, hlt, rfl, hb3⟩ | ⟨_, hle, k, r, hk, hk1, hk2, rfl, hm3⟩)
  · exact absurd (HCI.out.1.symm.trans hc0) HCI.out.2
  · have hfull : B < costE E + Ar.cost (l.length + 8) := by rw [HCI.out.1, HM2.out.sum] at hlt; have := HM2.out.room; omega
    have HFU := Lib.hid hfull
    have HB3 := Lib.hid hb3
    clear hlt hb3 hfull
    go_wp2
    go_ret2
    exact .inl ⟨HFU.out, rfl, HM.out.keep (HB.out.trans (HB3.out.mono HB.out.size))⟩
  · have hroom : costE E + Ar.cost (l.length + 8) ≤ B := by rw [HCI.out.1, HM2.out.sum] at hle; have := HM2.out.room; omega
    have HFU := Lib.hid hroom
    have hle2 : (lsP P).length = P.length := by simp [lsP]
    have hleast := least_of (k := k) HM2.out.srt HM2.out.per HM2.out.pos (by rw [hle2]; exact hk) (fun i hi hik => by have := hk1 i (by rw [← hle2]; exact hi) hik; simpa [lsP] using this) (fun hh => by have := hk2 (by rw [← hle2]; exact hh); simpa [lsP] using this)
    have HLE := Lib.hid hleast
    have HM3 := Lib.hid hm3
    have HK := Lib.hid hk1
    clear hle hroom hk1 hk2 hleast hm3 hle2
    have htw := HBX.out.lt
    obtain ⟨v3, hv3, _⟩ := HM2.out.ma.ex
    have hmt : t ≠ m := HBX.out.ne hv3 (by decide)
    have hbx3 := HBX.out.trn HM3.out.2 hmt
    have HBX3 := Lib.hid hbx3
    obtain ⟨vv, hvv, hvr⟩ := HM2.out.ma.ex
    have hvs : ∀ s, vv ≠ .string s := by obtain ⟨ao', c', e', _⟩ := hvr.form; intro s h; rw [e'] at h; cases h
    have hmn3 : MN x t m E w3 := HM2.out.mn.past hvv hvs HM3.out.2
    have HMN3 := Lib.hid hmn3
    obtain ⟨ao3, cap3, hb33, _, _, _, hrk3, _⟩ := hmn3.box
    have HRK3 := Lib.hid hrk3
    have HB33 := Lib.hid hb33
    have c13 : (w3.alloc (.cells #[] 118)).cell? ⟨t, 1, none⟩ = some (.slice ao3 E.length cap3) := (HB33.out.alloc _).cell rfl
    have ht3 : t < w3.heap.size := HB33.out.lt
    clear hmn3 hrk3 hb33 hbx3 hv3 hvv hvr hvs c0 c1
    go_wp2_with (first
      | (at_builtin; refine wpList_litRK encE_len (by omega) en_under infoEn rfl (by omega) rfl _ _ rfl w3.heap.size w3.heap.size rfl (own_litE w3 (Nat.le_refl _)) _ E rfl (HRK3.out.below ((Below.refl _ _).alloc (Nat.le_refl _) _)) (by omega) (by simp) ?_; intro v4 w4 ho4 hb4; have HO4 := Lib.hid ho4; have HB4 := Lib.hid (show Below w3.heap.size w3 w4 from ((Below.refl _ _).alloc (Nat.le_refl _) _).trans (hb4.mono (by simp))); clear ho4 hb4; refine Hid.out ?_))
    refine Lib.hid ?_
    have hr1 : RK encE (fun _ => True) (.slice (some ⟨w4.heap.size, 0, none⟩) 1 1) [⟨k + 1, 1, l⟩] (w4.alloc (.cells #[.int .i64 ((k : Int) + 1), .string ⟨l.toArray⟩, .int .i64 1] 118)) := RK.one (enc := encE) ⟨k + 1, 1, l⟩ 118 w4
    have HR1 := Lib.hid hr1
    clear hr1
    go_wp2_with (first
      | (at_builtin; refine wpList_apRK encE_len (by omega) encE_one en_under infoEn rfl (by omega) rfl _ _ rfl w3.heap.size v4 E rfl (ownK_alloc HO4.out _) _ [⟨k + 1, 1, l⟩] rfl HR1.out (by rw [List.length_singleton]; omega) (by have := HB4.out.size; simp; omega) ?_; intro v5 w5 ho5 hb5; have HO5 := Lib.hid ho5; have HB5 := Lib.hid (HB4.out.trans (((Below.refl w3.heap.size w4).alloc HB4.out.size _).trans hb5)); clear ho5 hb5; refine Hid.out ?_))
    refine Lib.hid ?_
    obtain ⟨a5, n5, c5, e5⟩ : ∃ a n c, v5 = .slice a n c := by obtain ⟨a5, c5, e5, _⟩ := ownK_form HO5.out; exact ⟨_, _, _, e5⟩
    subst e5
    have hb5 := HB33.out.kept (HB5.out.block t ht3)
    have ct5 := hb5.cell (i := 1) rfl
    have ft5 := hb5.frozen 1
    have HF5 := Lib.hid hb5
    clear hb5 HO4
    go_wp2
    go_ret2
    have hput := (HMN3.out.put HB5.out HO5.out).1
    have hma := (HM3.out.1.below HB5.out).past HF5.out (fun _ _ h => by cases h) (fun _ _ h => by cases h) (Trn.set1 HF5.out 1 (.slice a5 n5 c5))
    have hs5 : (w5.setCell ⟨t, 1, none⟩ (.slice a5 n5 c5)).heap.size = w5.heap.size := by simp [World.setCell]
    have hz1 := HB.out.size
    have hz2 := HM3.out.2.size
    have hz3 := HB5.out.size
    refine .inr ⟨HFU.out, k + 1, rfl, HLE.out.1, ⟨_, ⟨hma.mono (plus_mono hz1 (by omega)), hput.1.mono (plus_mono (by omega) (Nat.le_refl _)), ?_, ?_, ?_, ?_, ?_⟩⟩, ?_⟩
    · rw [lsP_take]
      have hs := HM2.out.srt
      rw [← List.take_append_drop k (lsP P), List.pairwise_append] at hs
      obtain ⟨p1, p2, p3⟩ := hs
      rw [List.pairwise_append, List.pairwise_cons]
      have htk : ∀ b ∈ (lsP P).take k, b.1 < k + 1 := fun b hb => by
        obtain ⟨j, hj, rfl⟩ := List.mem_iff_getElem.1 hb
        rw [List.length_take] at hj
        rw [List.getElem_take]
        have hjl : j < P.length := by have : (lsP P).length = P.length := by simp [lsP]
                                      omega
        have := HK.out j hjl (by omega)
        simp only [lsP, List.getElem_map]
        omega
      refine ⟨p1, ⟨fun b hb => HLE.out.2 b hb, p2⟩, fun b hb c hc => ?_⟩
      rcases List.mem_cons.1 hc with rfl | hc
      · exact htk b hb
      · exact p3 b hb c hc
    · rw [lsP_take]
      intro b hb
      rcases List.mem_append.1 hb with hb | hb
      · exact HM2.out.pos b (List.mem_of_mem_take hb)
      · rcases List.mem_cons.1 hb with rfl | hb
        · show 1 ≤ k + 1; omega
        · exact HM2.out.pos b (List.mem_of_mem_drop hb)
    · rw [lsP_take]
      exact perm_add HM2.out.per (by show (((l.length : Int) + 8).toNat) = _; omega)
    · intro e he
      rcases List.mem_append.1 he with he | he
      · exact HM2.out.small e he
      · rw [List.mem_singleton] at he; subst he; exact hll
    · rw [costE_app, costE_cons]
      have := HFU.out
      show costE E + (Ar.cost (l.length + 8) + 0) ≤ B
      omega
    · have t1 : Trn (fun j => j = t ∨ j = m) w w3 := (Trn.of_below HB.out).trans (HM3.out.2.mono fun j _ e => .inl (.inr e))
      exact t1.trans (hput.2.mono fun j _ e => .inl (.inl e))
end Go.Proofs.YtdbaocphglijbaaDoor

/- The document's own table: Drop, of none, and of one use of many. -/
set_option maxRecDepth 100000
namespace Go.Proofs.YtdbaocphglijbaaDoor
open Go Go.RowKit Go.Shelf
attribute [local go_sem] Oper.semAt_some
theorem own_same {α : Type} {enc : α → List Value} {k : Nat} {e : TypeId} {base : Nat} {v : Value} {l : List α} {W W' : World} (h : OwnK enc k e base v l W) (hk : ∀ g, v.ownBlock = some g → W'.heap[g]? = W.heap[g]?) : OwnK enc k e base v l W' := by
  refine ⟨h.1, ?_⟩
  rcases h.2 with h2 | ⟨g, cap, cur, rfl, h3, h4, h5⟩
  · exact .inl h2
  · exact .inr ⟨g, cap, cur, rfl, h3, (hk g rfl).trans h4, h5⟩
set_option maxHeartbeats 4000000 in
theorem mtdrop_none (x : Nat → Prop) (t m : Nat) (E : List Ent) (z : Int) (w : World) (h : MN x t m E w) (hE : E.length ≤ 1000000) (hz : ∀ y ∈ E, (y.id : Int) ≠ z) :
    Calls Tryd.prog 39 #[.pointer (some ⟨t, 0, none⟩), .int .i64 z] w fun e w' => e = .returned (.int .i64 5) ∧ w = w' := by
  have HA := Lib.hid (mtAt_any x t m E z w h hE)
  have HZ := Lib.hid hz
  clear h hz
  go_enter Tryd.func39, Tryd.ntmps39
  go_wp2_with fail
  refine HA.out.mono ?_
  rintro e w' ⟨⟨j, hj, rfl, hn⟩ | ⟨rfl, hn⟩, rfl⟩
  · exact absurd hn (HZ.out _ (List.getElem_mem hj))
  · clear hn
    go_wp2
    go_ret
    exact ⟨rfl, rfl⟩
/-- The rows are copied, and one name has one use less: up to region 6. -/
structure DrSt (x : Nat → Prop) (t m : Nat) (E : List Ent) (g c : Nat) (w w5 : World) : Prop where
  tr : TRet x t m E w w5
  own : OwnK encE 3 118 w.heap.size (.slice (some ⟨g, 0, none⟩) E.length c) E w5
  cell : w5.cell? ⟨t, 1, none⟩ = some (.slice (some ⟨g, 0, none⟩) E.length c)
  cell0 : w5.cell? ⟨t, 0, none⟩ = some (.pointer (some ⟨m, 0, none⟩))
set_option maxHeartbeats 8000000 in
theorem mtdrop_less (x : Nat → Prop) (t m : Nat) (E : List Ent) (z : Int) (i u : Nat) (hi : i < E.length) (w : World) (h : MN x t m E w) (hE : E.length ≤ 900000) (hz : (E[i].id : Int) = z) (hnd : ∀ j (hj : j < E.length), (E[j].id : Int) = z → j = i) (hu : E[i].uses = u + 1) (hu1 : 1 ≤ u) (hu2 : u < 4611686018427387904) :
    Calls Tryd.prog 39 #[.pointer (some ⟨t, 0, none⟩), .int .i64 z] w fun e w' => e = .returned (.int .i64 0) ∧ TRet x t m (E.set i ⟨E[i].id, u, E[i].name⟩) w w' := by
  have HA := Lib.hid (mtAt_any x t m E z w h (by omega))
  have HM := Lib.hid h
  have HND := Lib.hid hnd
  have HZ := Lib.hid hz
  have HU := Lib.hid hu
  clear h hz hnd hu
  go_enter Tryd.func39, Tryd.ntmps39
  go_wp2_with fail
  refine HA.out.mono ?_
  rintro e w' ⟨⟨j, hj, rfl, hn⟩ | ⟨rfl, hn⟩, rfl⟩
  · obtain rfl := HND.out j hj hn
    clear hn hj
    obtain ⟨ao, cap, hbx, c0, c1, hcap, hrk, hrow⟩ := HM.out.box
    have htw := hbx.lt
    have HRK := Lib.hid hrk
    have HBX := Lib.hid hbx
    clear hrk hbx hrow
    have c1n : (w.alloc (.cells #[] 118)).cell? ⟨t, 1, none⟩ = some (.slice ao E.length cap) := ((HBX.out.alloc _).cell rfl)
    go_wp2_with (first
      | (at_builtin; refine wpList_litRK encE_len (by omega) en_under infoEn rfl (by omega) rfl _ _ rfl w.heap.size w.heap.size rfl (own_litE w (Nat.le_refl _)) _ E rfl (HRK.out.below ((Below.refl _ _).alloc (Nat.le_refl _) _)) (by omega) (by simp) ?_; intro v4 w4 ho4 hb4; have HO4 := Lib.hid ho4; have HB4 := Lib.hid hb4; obtain ⟨a4, c4, rfl, hfm⟩ := ownK_form ho4; clear ho4 hb4; refine Hid.out ?_))
    refine Lib.hid ?_
    obtain ⟨g, rfl⟩ := hfm (fun e => by rw [e] at hi; simp at hi)
    have hB4 : Below w.heap.size w w4 := ((Below.refl _ _).alloc (Nat.le_refl _) _).trans (HB4.out.mono (by simp))
    have hb4 := HBX.out.kept (hB4.block t htw)
    have ct4 := hb4.cell (i := 1) rfl
    have ft4 := hb4.frozen 1
    have hge := (ownBlock_in HO4.out g rfl).1
    have hne : g ≠ t := by omega
    have hne2 : t ≠ g := by omega
    have d2 := ownK_cell encE_len HO4.out hi (i := 2) (by omega)
    have fg : ∀ i, w4.frozen? ⟨g, i, none⟩ = false := fun i => ownK_loose HO4.out i
    have HP := Lib.hid (HM.out.put hB4 HO4.out)
    rw [Nat.zero_add] at d2
    simp only [encE, List.getElem?_cons_zero, List.getElem?_cons_succ, HU.out] at d2
    rw [show ((u + 1 : Nat) : Int) = (u : Int) + 1 by norm_cast] at d2
    have hw1 : IntKind.i64.wrap ((u : Int) + 1 - 1) = (u : Int) := by rw [IntKind.wrap_i64]; omega
    have hw2 : (u : Int) + 1 - 1 = (u : Int) := by omega
    have hu0 : ((u : Int) == 0) = false := by rw [beq_eq_false_iff_ne]; omega
    have HB40 := Lib.hid hb4
    clear hb4 HB4
    go_wp2
    go_ret
    have hfin := HP.out.1.uses ((HB40.out.set 1 _).cell (i := 1) rfl) HP.out.2 htw hi u
    rw [Nat.zero_add] at hfin
    exact ⟨rfl, hfin.1⟩
  · exact absurd HZ.out (hn _ (List.getElem_mem hi))
end Go.Proofs.YtdbaocphglijbaaDoor

/- The document's own table: Drop of a last use. -/
set_option maxRecDepth 100000
namespace Go.Proofs.YtdbaocphglijbaaDoor
open Go Go.RowKit Go.Shelf
attribute [local go_sem] Oper.semAt_some
theorem en_elem : Tryd.prog.elem 68 = 118 := by kernel_rfl
theorem en_size (W : World) : (sizeOf 118).run Tryd.prog W = .ok 3 W := by
  obtain ⟨i, hi, _, h1, _⟩ := info_parts infoEn
  simp [sizeOf, typeInfo, hi, h1]
theorem en_under2 : Tryd.prog.underlying 68 = some (.slice (Tryd.prog.elem 68)) := by kernel_rfl
theorem slice_take3 (W : World) (g n c i : Nat) (h : i ≤ n) (hc : n ≤ c) :
    (Instr.slice 68 (.slice (some ⟨g, 0, none⟩) n c) none (some (.int .i64 (i : Int))) none).run Tryd.prog W = .ok (.slice (some ⟨g, 0, none⟩) i c) W := by
  rw [run_slice_h (w := W) 68 (some ⟨g, 0, none⟩) n c en_under2 .i64 (i : Int) (by omega) (by omega), en_elem, en_size W]
  simp [sliced, Addr.add]
theorem slice_drop3 (W : World) (g n c i : Nat) (h : i < n) (hc : n ≤ c) :
    (Instr.slice 68 (.slice (some ⟨g, 0, none⟩) n c) (some (.int .i64 ((i : Int) + 1))) none none).run Tryd.prog W = .ok (.slice (some (if c = i + 1 then ⟨g, 0, none⟩ else ⟨g, (i + 1) * 3, none⟩)) (n - (i + 1)) (c - (i + 1))) W := by
  have h0 := run_slice_l (P := Tryd.prog) (w := W) 68 (some ⟨g, 0, none⟩) n c en_under2 .i64 ((i + 1 : Nat) : Int) (by omega) (by omega)
  rw [show ((i + 1 : Nat) : Int) = (i : Int) + 1 by norm_cast] at h0
  rw [h0, en_elem, en_size W]
  have e : ((i : Int) + 1).toNat = i + 1 := by omega
  simp only [Result.andThen_ok, sliced, e]
  congr 2
  split <;> simp_all [Addr.add]
/-- An element leaves its row. -/
theorem own_del {base g n c : Nat} {E : List Ent} {W : World} (h : OwnK encE 3 118 base (.slice (some ⟨g, 0, none⟩) n c) E W) {i : Nat} (hi : i < E.length) :
    (∀ j u, ((E.drop (i + 1)).flatMap encE)[j]? = some u → W.cell? (((if c = i + 1 then ⟨g, 0, none⟩ else ⟨g, (i + 1) * 3, none⟩) : Addr).add j) = some u) ∧
    (∀ j, j < ((E.drop (i + 1)).flatMap encE).length → (W.cell? ⟨g, 0 + i * 3 + j, none⟩).isSome = true ∧ W.frozen? ⟨g, 0 + i * 3 + j, none⟩ = false) ∧ i + (n - (i + 1)) ≤ c ∧ n = E.length ∧ n ≤ c ∧
    OwnK encE 3 118 base (.slice (some ⟨g, 0, none⟩) (i + (n - (i + 1))) c) (E.take i ++ E.drop (i + 1)) (W.setCells g (0 + i * 3) ((E.drop (i + 1)).flatMap encE)) ∧ Trn (fun k => k = g) W (W.setCells g (0 + i * 3) ((E.drop (i + 1)).flatMap encE)) := by
  have hcl := fun j u => World.ownsRow.cells h (g := g) rfl j u
  have hfr := fun j => ownK_loose h j
  have hl := h.1
  rcases h.2 with ⟨e1, _⟩ | ⟨g', cap, cur, e1, hb, hg, hn, hc, hs, ht⟩
  · cases e1
  · injection e1 with e1 e2 e3
    injection e1 with e1
    injection e1 with e1
    subst e1 e2 e3
    have hblk : Blk W g cur.toList 118 := by show W.heap[g]? = some (.cells cur.toList.toArray 118 (0, 0)); rw [hg]
    have hlen : cur.toList.length = c * 3 := by rw [Array.length_toList]; exact hs
    have hdl : ((E.drop (i + 1)).flatMap encE).length = (E.length - (i + 1)) * 3 := by rw [flat_len encE 3 encE_len, List.length_drop]
    have hset := Blk.setCells ((E.drop (i + 1)).flatMap encE) (0 + i * 3) W cur.toList hblk (by rw [hlen, hdl]; omega)
    refine ⟨fun j u hu => ?_, fun j hj => ⟨?_, hfr _⟩, by omega, rfl, hn, ⟨?_, .inr ⟨g, c, _, ?_, hb, hset.1, ?_, hc, ?_, ?_⟩⟩, hset.2⟩
    · have hj := (List.getElem?_eq_some_iff.1 hu).1
      rw [hdl] at hj
      have hne : ¬ c = i + 1 := by omega
      rw [if_neg hne]
      rw [flat_drop encE_len] at hu
      have h9 := hcl _ u hu
      have e1 : (⟨g, 0, none⟩ : Addr).add ((i + 1) * 3 + j) = ⟨g, 0 + ((i + 1) * 3 + j), none⟩ := by unfold Addr.add; split <;> simp_all
      have e2 : (⟨g, (i + 1) * 3, none⟩ : Addr).add j = ⟨g, (i + 1) * 3 + j, none⟩ := by unfold Addr.add; split <;> simp_all
      rw [e1, Nat.zero_add] at h9
      rw [e2]
      exact h9
    · rw [hdl] at hj
      rw [hblk.cell (i := 0 + i * 3 + j) (v := cur.toList[0 + i * 3 + j]'(by rw [hlen]; omega)) (List.getElem?_eq_getElem _)]
      rfl
    · rw [flat_len encE 3 encE_len]
    · rw [List.length_append, List.length_take, List.length_drop]
      congr 1
      omega
    · rw [List.length_append, List.length_take, List.length_drop]; omega
    · rw [List.size_toArray, List.length_append, List.length_append, List.length_take, List.length_drop, hlen, hdl]; omega
    · have hfl : (E.take i ++ E.drop (i + 1)).length * 3 = i * 3 + (E.length - (i + 1)) * 3 := by
        rw [List.length_append, List.length_take, List.length_drop, Nat.add_mul]
        congr 2
        omega
      have htk : cur.toList.take (0 + i * 3) = (E.take i).flatMap encE := by
        have h3 : E.flatMap encE = (E.take i).flatMap encE ++ (E.drop i).flatMap encE := by rw [← List.flatMap_append, List.take_append_drop]
        have h4 : ((E.take i).flatMap encE).length = i * 3 := by rw [flat_len encE 3 encE_len, List.length_take, Nat.min_eq_left (by omega)]
        have h5 := congrArg (List.take (i * 3)) ht
        rw [List.take_take, Nat.min_eq_left (by omega), h3, List.take_left' h4] at h5
        rw [Nat.zero_add]
        exact h5
      rw [List.toList_toArray, hfl, htk, List.flatMap_append]
      refine List.take_left' ?_
      rw [List.length_append, hdl, flat_len encE 3 encE_len, List.length_take, Nat.min_eq_left (by omega)]
theorem MT.ids {x : Nat → Prop} {t m B : Nat} {E : List Ent} {P : List Rp} {w : World} (h : MT x t m B E P w) : (E.map Ent.id).Nodup := by
  have h1 : (E.map Ent.id) = (idl E).map Prod.fst := by unfold idl; rw [List.map_map]; rfl
  rw [h1]
  refine (h.per.map Prod.fst).nodup_iff.1 ?_
  unfold lens
  rw [List.map_map]
  have hs := h.srt
  unfold List.Nodup
  rw [List.pairwise_map]
  exact hs.imp fun hab => by simp only [Function.comp]; omega
end Go.Proofs.YtdbaocphglijbaaDoor

/- The document's own table: Drop of a last use, walked. -/
set_option maxRecDepth 100000
namespace Go.Proofs.YtdbaocphglijbaaDoor
open Go Go.RowKit Go.Shelf
attribute [local go_sem] Oper.semAt_some
theorem set_take_drop {E : List Ent} {i : Nat} (y : Ent) : (E.set i y).take i ++ (E.set i y).drop (i + 1) = E.take i ++ E.drop (i + 1) := by
  rw [List.take_set_of_le (Nat.le_refl _), List.drop_set_of_lt (by omega)]
/-- The block's row goes with the name. -/
theorem perm_del {L1 L2 : List Bl} {E : List Ent} {i : Nat} {b : Bl} (hi : i < E.length) (h : (lens (L1 ++ b :: L2)).Perm (idl E)) (hnd : (E.map Ent.id).Nodup) (hb : b.1 = E[i].id) : (lens (L1 ++ L2)).Perm (idl (E.take i ++ E.drop (i + 1))) := by
  have hm : (b.1, b.2.length) ∈ idl E := h.mem_iff.1 (List.mem_map.2 ⟨b, by simp, rfl⟩)
  obtain ⟨e, he, hx⟩ := List.mem_map.1 hm
  obtain ⟨x1, x2⟩ := Prod.mk.inj hx
  obtain ⟨j, hj, rfl⟩ := List.mem_iff_getElem.1 he
  have hji : j = i := by
    have h1 : (E.map Ent.id)[j]'(by simpa using hj) = (E.map Ent.id)[i]'(by simpa using hi) := by simp only [List.getElem_map]; omega
    exact (List.getElem_inj hnd).1 h1
  subst hji
  have hs : E = E.take j ++ E[j] :: E.drop (j + 1) := by rw [← List.drop_eq_getElem_cons hi, List.take_append_drop]
  have h2 : idl E = idl (E.take j) ++ (E[j].id, E[j].name.length + 8) :: idl (E.drop (j + 1)) := by
    have := congrArg idl hs
    rw [this]
    unfold idl
    rw [List.map_append, List.map_cons]
  have h3 : lens (L1 ++ b :: L2) = lens L1 ++ (E[j].id, E[j].name.length + 8) :: lens L2 := by
    unfold lens
    rw [List.map_append, List.map_cons, ← x1, ← x2]
  rw [h2, h3] at h
  have h4 := ((List.perm_middle.symm.trans h).trans List.perm_middle).cons_inv
  unfold lens idl at h4 ⊢
  rw [List.map_append, List.map_append]
  exact h4
set_option maxHeartbeats 16000000 in
theorem mtdrop_last (x : Nat → Prop) (t m B : Nat) (E : List Ent) (P : List Rp) (z : Int) (i : Nat) (hi : i < E.length) (w : World) (h : MT x t m B E P w) (hx : ∀ b, x b → b < w.heap.size) (hB : B ≤ 1048576) (hz : (E[i].id : Int) = z) (hu : E[i].uses = 1) :
    Calls Tryd.prog 39 #[.pointer (some ⟨t, 0, none⟩), .int .i64 z] w fun e w' => e = .returned (.int .i64 0) ∧ MTR x t m B (E.take i ++ E.drop (i + 1)) w w' := by
  have hE := h.few hB
  have HA := Lib.hid (mtAt_any x t m E z w h.mn (by omega))
  have HM := Lib.hid h
  have HX := Lib.hid hx
  have HND : Hid (∀ j (hj : j < E.length), (E[j].id : Int) = z → j = i) := Lib.hid fun j hj e => by
    have h1 : (E.map Ent.id)[j]'(by simpa using hj) = (E.map Ent.id)[i]'(by simpa using hi) := by simp only [List.getElem_map]; omega
    exact (List.getElem_inj h.ids).1 h1
  have HZ := Lib.hid hz
  have HU := Lib.hid hu
  clear h hz hu hx
  go_enter Tryd.func39, Tryd.ntmps39
  go_wp2_with fail
  refine HA.out.mono ?_
  rintro e w' ⟨⟨j, hj, rfl, hn⟩ | ⟨rfl, hn⟩, rfl⟩
  · obtain rfl := HND.out j hj hn
    clear hn hj
    obtain ⟨ao, cap, hbx, c0, c1, hcap, hrk, hrow⟩ := HM.out.mn.box
    have htw := hbx.lt
    have HRK := Lib.hid hrk
    have HBX := Lib.hid hbx
    clear hrk hbx hrow
    have c1n : (w.alloc (.cells #[] 118)).cell? ⟨t, 1, none⟩ = some (.slice ao E.length cap) := ((HBX.out.alloc _).cell rfl)
    go_wp2_with (first
      | (at_builtin; refine wpList_litRK encE_len (by omega) en_under infoEn rfl (by omega) rfl _ _ rfl w.heap.size w.heap.size rfl (own_litE w (Nat.le_refl _)) _ E rfl (HRK.out.below ((Below.refl _ _).alloc (Nat.le_refl _) _)) (by omega) (by simp) ?_; intro v4 w4 ho4 hb4; have HO4 := Lib.hid ho4; have HB4 := Lib.hid hb4; obtain ⟨a4, c4, rfl, hfm⟩ := ownK_form ho4; clear ho4 hb4; refine Hid.out ?_))
    refine Lib.hid ?_
    obtain ⟨g, rfl⟩ := hfm (fun e => by rw [e] at hi; simp at hi)
    have hB4 : Below w.heap.size w w4 := ((Below.refl _ _).alloc (Nat.le_refl _) _).trans (HB4.out.mono (by simp))
    have hb4 := HBX.out.kept (hB4.block t htw)
    have ct4 := hb4.cell (i := 1) rfl
    have cz4 := hb4.cell (i := 0) rfl
    have ft4 := hb4.frozen 1
    have hge := (ownBlock_in HO4.out g rfl).1
    have hne : g ≠ t := by omega
    have hne2 : t ≠ g := by omega
    have d2 := ownK_cell encE_len HO4.out hi (i := 2) (by omega)
    have fg : ∀ i, w4.frozen? ⟨g, i, none⟩ = false := fun i => ownK_loose HO4.out i
    have HP := Lib.hid (HM.out.mn.put hB4 HO4.out)
    rw [Nat.zero_add] at d2
    simp only [encE, List.getElem?_cons_zero, List.getElem?_cons_succ, HU.out] at d2
    have HB40 := Lib.hid hb4
    have hfin := HP.out.1.uses ((HB40.out.set 1 _).cell (i := 1) rfl) HP.out.2 htw hi 0
    rw [Nat.zero_add] at hfin
    have HFIN := Lib.hid hfin
    clear hb4 HB4 hfin
    go_wp2_with fail
    generalize hW5 : (w4.setCell ⟨t, 1, none⟩ (.slice (some ⟨g, 0, none⟩) E.length c4)).setCell ⟨g, j * 3 + 2, none⟩ (.int .i64 0) = W5
    obtain ⟨E1, hE1⟩ : ∃ E1, E.set j ⟨E[j].id, 0, E[j].name⟩ = E1 := ⟨_, rfl⟩
    have HF5 : Hid (TRet x t m E1 w W5 ∧ OwnK encE 3 118 w.heap.size (.slice (some ⟨g, 0, none⟩) E.length c4) E1 W5) := Lib.hid (by
      have z := HFIN.out
      rw [hE1] at z
      rw [show ((0 : Nat) : Int) = 0 from rfl, hW5] at z
      exact z)
    have hl1 : E1.length = E.length := by rw [← hE1, List.length_set]
    have hTD : E1.take j ++ E1.drop (j + 1) = E.take j ++ E.drop (j + 1) := by rw [← hE1]; exact set_take_drop _
    have HTD := Lib.hid hTD
    have HL1 := Lib.hid hl1
    have h5t : Blk W5 t [.pointer (some ⟨m, 0, none⟩), .slice (some ⟨g, 0, none⟩) E.length c4] 70 := by
      rw [← hW5]
      exact ((HB40.out.set 1 _).other (by omega) _ _)
    have H5T := Lib.hid h5t
    have hma5 := HM.out.ma.past HBX.out (fun _ _ h => by cases h) (fun _ _ h => by cases h) HF5.out.1.2
    obtain ⟨vm, hvm, _⟩ := hma5.ex
    have hmw : m < w.heap.size := HX.out m HM.out.ma.mine
    have hmt : t ≠ m := h5t.ne hvm (by decide)
    have hfree := mfree_any x m B P z W5 hma5 (by rw [HM.out.len]; omega)
    have HFREE := Lib.hid hfree
    clear hfree hvm hma5 h5t hTD hl1 hE1 hW5 HFIN HP HB40 HO4 ct4 cz4 ft4 d2 fg c0 c1 c1n HA
    refine HFREE.out.mono ?_
    rintro e w6 (⟨rfl, hno, _⟩ | ⟨rfl, P1, p, P2, hP, hpz, hm6⟩)
    · exfalso
      have h1 : (E[j].id, E[j].name.length + 8) ∈ idl E := List.mem_map.2 ⟨_, List.getElem_mem hi, rfl⟩
      obtain ⟨b, hb, h2⟩ := List.mem_map.1 (HM.out.per.mem_iff.2 h1)
      obtain ⟨q, hq, rfl⟩ := List.mem_map.1 hb
      have h3 : q.2.1 = E[j].id := (Prod.mk.inj h2).1
      exact hno q hq (by rw [h3]; exact HZ.out)
    · have HP6 := Lib.hid (And.intro hP hpz)
      have HM6 := Lib.hid hm6
      have h6t := H5T.out.trn hm6.2 hmt
      have H6T := Lib.hid h6t
      have hgm : g ≠ m := by omega
      have hgW5 : g < W5.heap.size := (ownBlock_in HF5.out.2 g rfl).2
      have hown6 : OwnK encE 3 118 w.heap.size (.slice (some ⟨g, 0, none⟩) E.length c4) E1 w6.drew := own_same HF5.out.2 fun b hb => by
        have hbg : g = b := Option.some.inj hb
        subst hbg
        exact hm6.2.block g hgW5 hgm
      obtain ⟨i0, hi0, hz0, hz1, hz2⟩ := info_parts infoEn
      obtain ⟨hnw, hsp, hroom, hn, hnc, hown7, htr7⟩ := own_del hown6 (i := j) (by rw [HL1.out]; exact hi)
      obtain ⟨AD, hAD⟩ : ∃ AD : Addr, (if c4 = j + 1 then (⟨g, 0, none⟩ : Addr) else ⟨g, (j + 1) * 3, none⟩) = AD := ⟨_, rfl⟩
      rw [hAD] at hnw
      have hts := fun W => slice_take3 W g E.length c4 j (by omega) hnc
      have hds := fun W => (by have z := slice_drop3 W g E.length c4 j hi hnc; rw [hAD] at z; exact z)
      have hnl : ((E1.drop (j + 1)).flatMap encE).length = (E.length - (j + 1)) * 3 := by rw [flat_len encE 3 encE_len, List.length_drop, HL1.out]
      have HOWN7 := Lib.hid hown7
      have HTR7 := Lib.hid htr7
      obtain ⟨news, hnews⟩ : ∃ news, (E1.drop (j + 1)).flatMap encE = news := ⟨_, rfl⟩
      have s2 : Hid (∀ u ∈ news, u.oneCell' = true) := Lib.hid fun u hu => by
        rw [← hnews] at hu
        obtain ⟨a, _, ha⟩ := List.mem_flatMap.1 hu
        exact encE_one a u ha
      rw [hnews] at hnw hsp hnl HOWN7 HTR7
      have s1 := Lib.hid hnl
      have sn : Hid (∀ j u, news[j]? = some u → w6.drew.cell? (AD.add j) = some u) := Lib.hid hnw
      have s3 : Hid (∀ q, q < news.length → (w6.drew.cell? ⟨g, 0 + j * 3 + q, none⟩).isSome = true ∧ w6.drew.frozen? ⟨g, 0 + j * 3 + q, none⟩ = false) := Lib.hid hsp
      have hwr : IntKind.i64.wrap ((j : Int) + 1) = (j : Int) + 1 := by rw [IntKind.wrap_i64]; omega
      have c16 := h6t.cell (i := 1) rfl
      have h7t : Blk (w6.drew.setCells g (0 + j * 3) news) t [.pointer (some ⟨m, 0, none⟩), .slice (some ⟨g, 0, none⟩) E.length c4] 70 := by
        have := HTR7.out.block t h6t.lt hne2
        exact this.trans h6t
      have H7T := Lib.hid h7t
      have k7 := h7t.cell (i := 1) rfl
      have f7 := h7t.frozen 1
      have h7u := h7t
      rw [Nat.zero_add] at h7u
      have k7u := h7u.cell (i := 1) rfl
      have f7u := h7u.frozen 1
      have hend : MTR x t m B (E.take j ++ E.drop (j + 1)) w ((w6.drew.setCells g (j * 3) news).setCell ⟨t, 1, none⟩ (.slice (some ⟨g, 0, none⟩) (j + (E.length - (j + 1))) c4)) := by
        have hown7u := HOWN7.out
        rw [Nat.zero_add, HTD.out] at hown7u
        have htr7u := HTR7.out
        rw [Nat.zero_add] at htr7u
        have hz5 := HF5.out.1.2.size
        have hz6 := HM6.out.2.size
        have hz7 := htr7u.size
        have hz6d : w6.drew.heap.size = w6.heap.size := rfl
        have hzW : ((w6.drew.setCells g (j * 3) news).setCell ⟨t, 1, none⟩ (.slice (some ⟨g, 0, none⟩) (j + (E.length - (j + 1))) c4)).heap.size = (w6.drew.setCells g (j * 3) news).heap.size := by simp [World.setCell]
        have hownW := own_same (W' := (w6.drew.setCells g (j * 3) news).setCell ⟨t, 1, none⟩ (.slice (some ⟨g, 0, none⟩) (j + (E.length - (j + 1))) c4)) hown7u (fun b hb => by
          have hbg : g = b := Option.some.inj hb
          subst hbg
          exact Below.heap_setCell _ ⟨t, 1, none⟩ _ g hne)
        have hma7 : MA (plus x W5 w6) m B (P1 ++ P2) (w6.drew.setCells g (j * 3) news) := (HM6.out.1.same (W' := w6.drew) (fun _ _ => rfl)).same fun b hb => htr7u.block b (by
          rcases hb with hb | hb
          · have := HX.out b hb; omega
          · omega) (fun e => by
          rcases hb with hb | hb
          · have := HX.out b hb; omega
          · omega)
        have hmaW := hma7.past h7u (fun _ _ h => by cases h) (fun _ _ h => by cases h) (Trn.set1 h7u 1 (.slice (some ⟨g, 0, none⟩) (j + (E.length - (j + 1))) c4))
        have hsp : E = E.take j ++ E[j] :: E.drop (j + 1) := by rw [← List.drop_eq_getElem_cons hi, List.take_append_drop]
        have hlP : lsP P = lsP P1 ++ p.2 :: lsP P2 := by rw [HP6.out.1]; unfold lsP; rw [List.map_append, List.map_cons]
        have hl2 : lsP (P1 ++ P2) = lsP P1 ++ lsP P2 := by unfold lsP; rw [List.map_append]
        refine ⟨⟨P1 ++ P2, ⟨hmaW.mono (plus_mono hz5 (by omega)), ⟨⟨_, h7u.set 1 _, RK.own hownW fun b hb => .inr (ownBlock_in hownW b hb)⟩, .inl HM.out.mn.mine⟩, ?_, ?_, ?_, ?_, ?_⟩⟩, ?_⟩
        · rw [hl2]
          have := HM.out.srt
          rw [hlP] at this
          exact this.sublist (by simp)
        · intro b hb
          rw [hl2] at hb
          refine HM.out.pos b ?_
          rw [hlP]
          rcases List.mem_append.1 hb with h | h <;> simp [h]
        · rw [hl2]
          have hper := HM.out.per
          rw [hlP] at hper
          exact perm_del hi hper HM.out.ids (by have h1 := HP6.out.2; have h2 := HZ.out; omega)
        · intro e he
          refine HM.out.small e ?_
          rcases List.mem_append.1 he with h | h
          · exact List.mem_of_mem_take h
          · exact List.mem_of_mem_drop h
        · have h1 := HM.out.room
          have h2 := congrArg costE hsp
          rw [costE_app, costE_cons] at h2
          rw [costE_app]
          omega
        · have t1 : Trn (fun k => k = t ∨ k = m) w W5 := HF5.out.1.2.mono fun k _ e => .inl e
          have t2 : Trn (fun k => k = t ∨ k = m) w w6.drew := (t1.trans (HM6.out.2.mono fun k _ e => .inl (.inr e))).trans (Trn.drw w6)
          have t3 : Trn (fun k => k = t ∨ k = m) w (w6.drew.setCells g (j * 3) news) := t2.trans (htr7u.mono fun k _ e => by
            refine .inr ⟨by omega, ?_⟩
            rw [hz6d]
            omega)
          exact t3.trans (Trn.set h7u (.inl (.inl rfl)) _ _)
      have HEND := Lib.hid hend
      clear hnw hsp hown6 hown7 htr7 hend hAD hnews hnl h6t h7t h7u hm6 hP hpz hz0 hz2 hn
      go_wp2_with fail
      go_region_law (refine step_append_room rfl (.tmp 52) (.tmp 59) 68 rfl 118 i0 3 en_under hi0 hz1 g 0 j c4 (by simp [Act.eval, Act.put]) AD (E.length - (j + 1)) (c4 - (j + 1)) news (by simp [Act.eval, Act.put]) s1.out sn.out s2.out (by omega) s3.out ?_)
      all_goals go_wp2
      all_goals go_ret
      all_goals exact ⟨rfl, HEND.out⟩
  · exact absurd HZ.out (hn _ (List.getElem_mem hi))
end Go.Proofs.YtdbaocphglijbaaDoor

/- The document's own table: Find, CostName; a table in memory beside what a law owns. -/
set_option maxRecDepth 100000
namespace Go.Proofs.YtdbaocphglijbaaDoor
open Go Go.RowKit Go.Shelf
attribute [local go_sem] Oper.semAt_some
set_option maxHeartbeats 4000000 in
theorem mtFind_yes (x : Nat → Prop) (t m : Nat) (E : List Ent) (n : List UInt8) (i : Nat) (hi : i < E.length) (w : World) (h : MN x t m E w) (hE : E.length ≤ 900000) (hv : Nm.valid n = true) (hl : n.length ≤ 100000) (hz : E[i].name = Nm.fold n) (hnd : ∀ j (hj : j < E.length), E[j].name = Nm.fold n → j = i) :
    Calls Tryd.prog 42 #[.pointer (some ⟨t, 0, none⟩), .string ⟨n.toArray⟩] w fun e w' => e = .returned (.tuple #[.int .i64 (E[i].id : Int), .bool true]) ∧ Below w.heap.size w w' := by
  have HV := Lib.hid (fun W => (by have k := rvalid_any n W hl; rw [hv] at k; exact k))
  have HF := Lib.hid (fun W => rfold_any n W hl)
  have HM := Lib.hid h
  have HZ := Lib.hid hz
  have HND := Lib.hid hnd
  clear hv hz hnd h
  go_enter Tryd.func42, Tryd.ntmps42
  go_wp2_with fail
  refine (HF.out w).mono ?_
  rintro e w1 ⟨rfl, b1⟩
  have HB := Lib.hid b1
  have HM1 := Lib.hid (HM.out.below b1)
  clear b1
  go_wp2_with fail
  refine (mtfind_any x t m E (Nm.fold n) w1 HM1.out (by omega)).mono ?_
  rintro e w' ⟨⟨j, hj, rfl, hn⟩ | ⟨rfl, hn⟩, rfl⟩
  · obtain rfl := HND.out j hj hn
    clear hn hj
    go_wp2_with fail
    refine (HV.out w1).mono ?_
    rintro e w2 ⟨rfl, b2⟩
    have HM2 := Lib.hid (HM1.out.below b2)
    have HB2 := Lib.hid (HB.out.trans (b2.mono HB.out.size))
    clear b2
    obtain ⟨ao, cap, _, c0, c1, hcap, _, hrow⟩ := HM2.out.box
    obtain ⟨b, off, rfl, _, d0, _⟩ := hrow j hi
    clear hrow
    go_wp2
    go_ret2
    exact ⟨rfl, HB2.out⟩
  · exact absurd HZ.out (hn _ (List.getElem_mem hi))
set_option maxHeartbeats 4000000 in
theorem mtFind_no (x : Nat → Prop) (t m : Nat) (E : List Ent) (n : List UInt8) (w : World) (h : MN x t m E w) (hE : E.length ≤ 900000) (hl : n.length ≤ 100000) (hz : ∀ y ∈ E, y.name ≠ Nm.fold n) :
    Calls Tryd.prog 42 #[.pointer (some ⟨t, 0, none⟩), .string ⟨n.toArray⟩] w fun e w' => e = .returned (.tuple #[.int .i64 0, .bool false]) ∧ Below w.heap.size w w' := by
  have HF := Lib.hid (fun W => rfold_any n W hl)
  have HM := Lib.hid h
  have HZ := Lib.hid hz
  clear hz h
  go_enter Tryd.func42, Tryd.ntmps42
  go_wp2_with fail
  refine (HF.out w).mono ?_
  rintro e w1 ⟨rfl, b1⟩
  have HB := Lib.hid b1
  have HM1 := Lib.hid (HM.out.below b1)
  clear b1
  go_wp2_with fail
  refine (mtfind_any x t m E (Nm.fold n) w1 HM1.out (by omega)).mono ?_
  rintro e w' ⟨⟨j, hj, rfl, hn⟩ | ⟨rfl, hn⟩, rfl⟩
  · exact absurd hn (HZ.out _ (List.getElem_mem hj))
  · clear hn
    go_wp2
    go_ret2
    exact ⟨rfl, HB.out⟩
set_option maxHeartbeats 4000000 in
theorem mtCost_yes (x : Nat → Prop) (t m : Nat) (E : List Ent) (n : List UInt8) (i : Nat) (hi : i < E.length) (w : World) (h : MN x t m E w) (hE : E.length ≤ 900000) (hv : Nm.valid n = true) (hl : n.length ≤ 100000) (hz : E[i].name = Nm.fold n) (hnd : ∀ j (hj : j < E.length), E[j].name = Nm.fold n → j = i) :
    Calls Tryd.prog 44 #[.pointer (some ⟨t, 0, none⟩), .string ⟨n.toArray⟩] w fun e w' => e = .returned (.int .i64 0) ∧ Below w.heap.size w w' := by
  have HF := Lib.hid (mtFind_yes x t m E n i hi w h hE hv hl hz hnd)
  clear h hz hnd hv
  go_enter Tryd.func44, Tryd.ntmps44
  go_wp2_with fail
  refine HF.out.mono ?_
  rintro e w1 ⟨rfl, b1⟩
  have HB := Lib.hid b1
  clear b1
  go_wp2
  go_ret
  exact ⟨rfl, HB.out⟩
set_option maxHeartbeats 4000000 in
theorem mtCost_bad (x : Nat → Prop) (t m : Nat) (E : List Ent) (n : List UInt8) (w : World) (h : MN x t m E w) (hE : E.length ≤ 900000) (hv : Nm.valid n = false) (hl : n.length ≤ 100000) (hz : ∀ y ∈ E, y.name ≠ Nm.fold n) :
    Calls Tryd.prog 44 #[.pointer (some ⟨t, 0, none⟩), .string ⟨n.toArray⟩] w fun e w' => e = .returned (.int .i64 0) ∧ Below w.heap.size w w' := by
  have HF := Lib.hid (mtFind_no x t m E n w h hE hl hz)
  have HV := Lib.hid (fun W => (by have k := rvalid_any n W hl; rw [hv] at k; exact k))
  clear h hz hv
  go_enter Tryd.func44, Tryd.ntmps44
  go_wp2_with fail
  refine HF.out.mono ?_
  rintro e w1 ⟨rfl, b1⟩
  have HB := Lib.hid b1
  clear b1
  go_wp2_with fail
  refine (HV.out w1).mono ?_
  rintro e w2 ⟨rfl, b2⟩
  have HB2 := Lib.hid (HB.out.trans (b2.mono HB.out.size))
  clear b2
  go_wp2
  go_ret
  exact ⟨rfl, HB2.out⟩
set_option maxHeartbeats 4000000 in
theorem mtCost_no (x : Nat → Prop) (t m : Nat) (E : List Ent) (n : List UInt8) (cc : Nat) (w : World) (h : MN x t m E w) (hE : E.length ≤ 900000) (hv : Nm.valid n = true) (hl : n.length ≤ 1500) (hz : ∀ y ∈ E, y.name ≠ Nm.fold n) (hcc : Ar.cost (n.length + 8) = cc) :
    Calls Tryd.prog 44 #[.pointer (some ⟨t, 0, none⟩), .string ⟨n.toArray⟩] w fun e w' => e = .returned (.int .i64 (cc : Int)) ∧ Below w.heap.size w w' := by
  have HF := Lib.hid (mtFind_no x t m E n w h hE (by omega) hz)
  have HV := Lib.hid (fun W => (by have k := rvalid_any n W (by omega); rw [hv] at k; exact k))
  have HC := Lib.hid (fun W => (by have k := rcost_any ((n.length : Int) + 8) W (by omega); rw [show ((n.length : Int) + 8) = ((n.length + 8 : Nat) : Int) by norm_cast, costI_of _ hl, hcc] at k; exact k : Calls Tryd.prog 57 #[.int .i64 ((n.length + 8 : Nat) : Int)] W fun e w' => e = .returned (.int .i64 (cc : Int)) ∧ W = w'))
  have HC2 := Lib.hid (fun W => (HC.out W : Calls Tryd.prog 57 #[.int .i64 ((n.length : Int) + 8)] W fun e w' => e = .returned (.int .i64 (cc : Int)) ∧ W = w'))
  clear h hz hv hcc HC
  go_enter Tryd.func44, Tryd.ntmps44
  go_wp2_with fail
  refine HF.out.mono ?_
  rintro e w1 ⟨rfl, b1⟩
  have HB := Lib.hid b1
  clear b1
  go_wp2_with fail
  refine (HV.out w1).mono ?_
  rintro e w2 ⟨rfl, b2⟩
  have HB2 := Lib.hid (HB.out.trans (b2.mono HB.out.size))
  clear b2
  go_wp2_with fail
  refine (HC2.out w2).mono ?_
  rintro e w' ⟨rfl, rfl⟩
  go_wp2
  go_ret
  exact ⟨rfl, HB2.out⟩
/-- A table of the code's, when what the law owns beside it is changed. -/
theorem TV.turn {x S : Nat → Prop} {t : TB} {B : Nat} {E : List Ent} {n0 : Nat} {w w' : World} (h : TV x t B E n0 w) (hT : Trn S w w') (hS : ∀ k, S k → x k ∧ k ≠ t.T ∧ k ≠ t.F) : TV (plus x w w') t B E n0 w' := by
  obtain ⟨nn, C, F, L, h⟩ := h
  have hlow := h.hx.low
  have hx := h.hx.turn (y := plus x w w') (fun k hk hn => hT.block k hk fun e => hn (hS k e).1) (hT.below (fun k e => h.hx.xlow k (hS k e).1) hlow) fun k hk => by
    rcases hk with hk | hk
    · exact ⟨h.hx.xlow k hk, Nat.lt_of_lt_of_le (h.hx.xlt k hk) hT.size, .inl hk⟩
    · exact ⟨Nat.le_trans hlow hk.1, hk.2, .inr (.inl hk.1)⟩
  exact ⟨nn, C, F, L, hx, ⟨h.tb.box.kept (hT.block _ h.tb.box.lt fun e => (hS _ e).2.1 rfl), h.tb.row.kept (hT.block _ h.tb.row.lt fun e => (hS _ e).2.2 rfl), .inl h.tb.xT, .inl h.tb.xF⟩, h.ti, h.mem, h.per⟩
theorem tvb_name (x : Nat → Prop) (t : TB) (B : Nat) (E : List Ent) (y : Ent) (n0 : Nat) (z : Int) (w : World) (h : TV x t B E n0 w) (hy : y ∈ E) (hz : z = (y.id : Int)) :
    Calls Tryd.prog 71 #[.pointer (some ⟨t.T, 0, none⟩), .int .i64 z] w fun e w' => e = .returned (.tuple #[.string ⟨y.name.toArray⟩, .bool true]) ∧ Below w.heap.size w w' := by
  obtain ⟨nn, C, F, L, h⟩ := h
  obtain ⟨c, hc, hy⟩ := (h.mem y).1 hy
  exact (name_yes x t B nn _ C F L n0 c y z w h.hx h.tb h.ti hc hy hz).mono fun e w' ⟨he, _, hb⟩ => ⟨he, hb⟩
theorem tvb_uses (x : Nat → Prop) (t : TB) (B : Nat) (E : List Ent) (y : Ent) (n0 : Nat) (z : Int) (w : World) (h : TV x t B E n0 w) (hy : y ∈ E) (hz : z = (y.id : Int)) :
    Calls Tryd.prog 47 #[.pointer (some ⟨t.T, 0, none⟩), .int .i64 z] w fun e w' => e = .returned (.int .i64 (y.uses : Int)) ∧ Below w.heap.size w w' := by
  obtain ⟨nn, C, F, L, h⟩ := h
  obtain ⟨c, hc, hy⟩ := (h.mem y).1 hy
  exact (uses_yes x t B nn _ C F L n0 c y z w h.hx h.tb h.ti hc hy hz).mono fun e w' ⟨he, _, hb⟩ => ⟨he, hb⟩
theorem tvb_find (x : Nat → Prop) (t : TB) (B : Nat) (E : List Ent) (y : Ent) (n0 : Nat) (n : List UInt8) (w : World) (h : TV x t B E n0 w) (hy : y ∈ E) (hz : Nm.fold n = y.name) (hl : n.length ≤ 100000) :
    Calls Tryd.prog 41 #[.pointer (some ⟨t.T, 0, none⟩), .string ⟨n.toArray⟩] w fun e w' => e = .returned (.tuple #[.int .i64 (y.id : Int), .bool true]) ∧ Below w.heap.size w w' := by
  obtain ⟨nn, C, F, L, h⟩ := h
  obtain ⟨c, hc, hy⟩ := (h.mem y).1 hy
  exact (tfind_yes x t B nn _ C F L n0 c y n w h.hx h.tb h.ti hc hy hz hl).mono fun e w' ⟨he, _, hb⟩ => ⟨he, hb⟩
theorem tvb_nofind (x : Nat → Prop) (t : TB) (B : Nat) (E : List Ent) (n0 : Nat) (n : List UInt8) (w : World) (h : TV x t B E n0 w) (hl : n.length ≤ 100000) (hfl : (Nm.fold n).length ≤ 1000000) (hn : ∀ e ∈ E, e.name ≠ Nm.fold n) :
    Calls Tryd.prog 41 #[.pointer (some ⟨t.T, 0, none⟩), .string ⟨n.toArray⟩] w fun e w' => e = .returned (.tuple #[.int .i64 0, .bool false]) ∧ Below w.heap.size w w' := by
  obtain ⟨nn, C, F, L, h⟩ := h
  exact (tfind_no x t B nn _ C F L n0 n w h.hx h.tb h.ti hl hfl (h.no hn)).mono fun e w' ⟨he, _, hb⟩ => ⟨he, hb⟩
theorem tvb_cost_yes (x : Nat → Prop) (t : TB) (B : Nat) (E : List Ent) (y : Ent) (n0 : Nat) (n : List UInt8) (w : World) (h : TV x t B E n0 w) (hy : y ∈ E) (hv : Nm.valid n = true) (hz : Nm.fold n = y.name) (hl : n.length ≤ 100000) :
    Calls Tryd.prog 43 #[.pointer (some ⟨t.T, 0, none⟩), .string ⟨n.toArray⟩] w fun e w' => e = .returned (.int .i64 0) ∧ Below w.heap.size w w' := by
  obtain ⟨nn, C, F, L, h⟩ := h
  obtain ⟨c, hc, hy⟩ := (h.mem y).1 hy
  exact (icost_yes x t B nn _ C F L n0 c y n w h.hx h.tb h.ti hc hy hv hz hl).mono fun e w' ⟨he, _, hb⟩ => ⟨he, hb⟩
theorem tvb_cost_no (x : Nat → Prop) (t : TB) (B : Nat) (E : List Ent) (n0 cc : Nat) (n : List UInt8) (w : World) (h : TV x t B E n0 w) (hv : Nm.valid n = true) (hl : n.length ≤ 1500) (hn : ∀ e ∈ E, e.name ≠ Nm.fold n) (hcc : Ar.cost (n.length + 8) = cc) :
    Calls Tryd.prog 43 #[.pointer (some ⟨t.T, 0, none⟩), .string ⟨n.toArray⟩] w fun e w' => e = .returned (.int .i64 (cc : Int)) ∧ Below w.heap.size w w' := by
  obtain ⟨nn, C, F, L, h⟩ := h
  have h1 := icost_no x t B nn _ C F L n0 n w h.hx h.tb h.ti hv (by omega) (by rw [fold_len]; omega) (h.no hn)
  rw [costI_of _ hl, hcc] at h1
  exact h1.mono fun e w' ⟨he, _, hb⟩ => ⟨he, hb⟩
end Go.Proofs.YtdbaocphglijbaaDoor
