/- 26 texts put together: Shm, Appk, Ow, Rk, Mda, Mdb, Mal, Rle, QuietRound, SlotsIn, Tail, SlotsT, Mfr, Rul, Mvl, Mam, Mtb, Mtc, Mrd, Mwt, Mww, Harn8, Shw, Aal, Aar, Aaf. -/
import Derived.RangeFuncBox
import Derived.Deep.AppendSrc
import Derived.Deep.Upon
import Derived.BigQuiet
import Derived.Deep.RegionHeld3
import Derived.BigRegion
import Derived.Sort.BigQuietIn
import Derived.Below
import Derived.RangeFuncCalls
import Derived.StillTail
import Derived.IntWalk
import Derived.Maps.AppendAt
import Derived.Deep.CutBlock
import Derived.Test.YtdbaocphglijbaaDoorJB15
import Derived.Test.YtdbaocphglijbaaDoorJB14
import Derived.Test.YtdbaocphglijbaaDoorJB19
import Derived.Test.YtdbaocphglijbaaDoorJB17
import Derived.Test.YtdbaocphglijbaaDoorJB20
import Derived.Test.YtdbaocphglijbaaDoorJB6
import Derived.Test.YtdbaocphglijbaaDoorJB7
import Derived.Test.YtdbaocphglijbaaDoorJB18
import Derived.Test.YtdbaocphglijbaaDoorJB26
import Derived.Test.YtdbaocphglijbaaDoorJB12
import Derived.Test.YtdbaocphglijbaaDoorJB22
import Derived.Test.YtdbaocphglijbaaDoorJB16
/- What Handles tells of an arena, by its view. -/
set_option maxRecDepth 100000
namespace Go.Proofs.YtdbaocphglijbaaDoor
open Go.RowKit Go.Shelf
theorem srt_ext : ∀ {X Y : List (Nat × Nat)}, X.Pairwise (fun x y => x.1 < y.1) → Y.Pairwise (fun x y => x.1 < y.1) → (∀ p, p ∈ X ↔ p ∈ Y) → X = Y
  | [], [], _, _, _ => rfl
  | [], y :: Y, _, _, h => absurd ((h y).2 (by simp)) (by simp)
  | x :: X, [], _, _, h => absurd ((h x).1 (by simp)) (by simp)
  | x :: X, y :: Y, h1, h2, h => by
    rw [List.pairwise_cons] at h1 h2
    have e : x = y := by
      rcases List.mem_cons.1 ((h x).1 (by simp)) with e | k1
      · exact e
      · rcases List.mem_cons.1 ((h y).2 (by simp)) with e | k2
        · exact e.symm
        · have := h2.1 x k1
          have := h1.1 y k2
          omega
    subst e
    rw [srt_ext h1.2 h2.2 fun p => ⟨fun hp => ?_, fun hp => ?_⟩]
    · rcases List.mem_cons.1 ((h p).1 (List.mem_cons_of_mem _ hp)) with e | k
      · subst e; have := h1.1 p hp; omega
      · exact k
    · rcases List.mem_cons.1 ((h p).2 (List.mem_cons_of_mem _ hp)) with e | k
      · subst e; have := h2.1 p hp; omega
      · exact k
theorem told_view {S : Ar.St} {pcs : List Ar.Pc} {L : List Bl} (I : Ar.Inv S pcs) (hv : Vw L (Ar.blocks pcs)) : Ar.told S = L.map (fun b => (b.1, b.2.length)) := by
  refine srt_ext (Ar.told_lt S (toHN S) (fun _ => rfl) S.pl.length) (by rw [List.pairwise_map]; exact hv.srt) fun p => ?_
  obtain ⟨h, n⟩ := p
  have h1 := I.told (h := h) (n := n)
  refine Iff.trans h1 ?_
  rw [List.mem_map]
  constructor
  · rintro ⟨q, hq, e1, e2⟩
    refine ⟨prB q, hv.perm.mem_iff.2 (List.mem_map.2 ⟨q, hq, rfl⟩), ?_⟩
    show (q.owner, (q.data.take q.size).length) = (h, n)
    rw [(blk_len (hv.ok q hq)).1, e1, e2]
  · rintro ⟨b, hb, e⟩
    obtain ⟨q, hq, rfl⟩ := List.mem_map.1 (hv.perm.mem_iff.1 hb)
    have e2 : (q.owner, (q.data.take q.size).length) = (h, n) := e
    rw [(blk_len (hv.ok q hq)).1] at e2
    cases e2
    exact ⟨q, hq, rfl, rfl⟩
end Go.Proofs.YtdbaocphglijbaaDoor

/- append onto a slice of structs that the call owns (any element). -/
set_option maxRecDepth 100000
namespace Go.Proofs.YtdbaocphglijbaaDoor
open Go Go.RowKit

theorem flat_get {α : Type} (enc : α → List Value) (k : Nat) (hk : ∀ x, (enc x).length = k) : ∀ (l : List α) (j i : Nat) (hj : j < l.length), i < k → (l.flatMap enc)[j * k + i]? = (enc l[j])[i]?
  | [], j, i, hj, _ => by simp at hj
  | x :: l, 0, i, _, hi => by
    rw [List.flatMap_cons, List.getElem?_append_left (by rw [hk]; omega), Nat.zero_mul, Nat.zero_add]
    rfl
  | x :: l, j + 1, i, hj, hi => by
    have e : (j + 1) * k + i = k + (j * k + i) := by rw [Nat.add_mul]; omega
    rw [List.flatMap_cons, List.getElem?_append_right (by rw [hk]; omega), hk, e, Nat.add_sub_cancel_left]
    exact flat_get enc k hk l j i (by simpa using hj) hi
theorem flat_len {α : Type} (enc : α → List Value) (k : Nat) (hk : ∀ x, (enc x).length = k) (l : List α) : (l.flatMap enc).length = l.length * k := by
  induction l with
  | nil => simp
  | cons x l ih => rw [List.flatMap_cons, List.length_append, hk, ih, List.length_cons, Nat.add_mul]; omega

/-- A slice of elements of k cells that the call owns, from block base on. -/
def OwnK {α : Type} (enc : α → List Value) (k : Nat) (e : TypeId) (base : Nat) (v : Value) (l : List α) (W : World) : Prop := W.ownsRow base e k v l.length (l.flatMap enc)
theorem ownK_nil {α : Type} (enc : α → List Value) (k : Nat) (e : TypeId) (base : Nat) (W : World) : OwnK enc k e base (.slice none 0 0) [] W := World.ownsRow_nil W base e k
theorem ownK_grown {α : Type} {enc : α → List Value} {k : Nat} {e : TypeId} {base : Nat} {v : Value} {l : List α} {W W' : World} {row : Option Nat} (h : OwnK enc k e base v l W) (hg : W.grownBy W' row) (hr : ∀ g, v.ownBlock = some g → row ≠ some g) : OwnK enc k e base v l W' :=
  World.ownsRow.kept h hg (by
    cases hv : v.ownBlock with
    | none => exact .inl rfl
    | some g => exact .inr (fun e => hr g hv e.symm))
theorem ownK_below {α : Type} {enc : α → List Value} {k : Nat} {e : TypeId} {base : Nat} {v : Value} {l : List α} {W W' : World} (h : OwnK enc k e base v l W) (hb : Below W.heap.size W W') : OwnK enc k e base v l W' :=
  ownK_grown (row := none) h ⟨hb.os, hb.tape, hb.output, hb.size, fun k hk _ => hb.block k hk⟩ (fun _ _ e => by cases e)
theorem ownK_alloc {α : Type} {enc : α → List Value} {k : Nat} {e : TypeId} {base : Nat} {v : Value} {l : List α} {W : World} (h : OwnK enc k e base v l W) (o : Obj) : OwnK enc k e base v l (W.alloc o) := World.ownsRow.alloc h o
/-- What lies in a row of the type e, and what lies in a box of another. -/
theorem ownK_box {α : Type} {enc : α → List Value} {k : Nat} {e : TypeId} {base : Nat} {v : Value} {l : List α} {W : World} (h : OwnK enc k e base v l W) {B : Nat} {t : TypeId} {u : Value} (hb : Boxed W B t u) (hte : t ≠ e) : v.ownBlock ≠ some B := by
  rcases h.2 with ⟨rfl, _⟩ | ⟨g, cap, cur, rfl, _, hh, _⟩
  · simp [Value.ownBlock]
  · intro e1
    simp only [Value.ownBlock, Option.some.injEq] at e1
    subst e1
    have hx : W.heap[g]? = some (.cells #[u] t (0, 0)) := hb
    rw [hh] at hx
    injection hx with hx
    injection hx with _ h2
    exact hte h2.symm
theorem ownK_form {α : Type} {enc : α → List Value} {k : Nat} {e : TypeId} {base : Nat} {v : Value} {l : List α} {W : World} (h : OwnK enc k e base v l W) : ∃ ao cap, v = .slice ao l.length cap ∧ (l ≠ [] → ∃ g, ao = some ⟨g, 0, none⟩) := by
  rcases h.2 with ⟨rfl, hn⟩ | ⟨g, cap, cur, rfl, _⟩
  · exact ⟨none, 0, by rw [List.length_eq_zero_iff.1 hn]; rfl, fun hl => absurd (List.length_eq_zero_iff.1 hn) hl⟩
  · exact ⟨some ⟨g, 0, none⟩, cap, rfl, fun _ => ⟨g, rfl⟩⟩
theorem ownK_cell {α : Type} {enc : α → List Value} {k : Nat} (hk : ∀ x, (enc x).length = k) {e : TypeId} {base g cap n : Nat} {l : List α} {W : World} (h : OwnK enc k e base (.slice (some ⟨g, 0, none⟩) n cap) l W) {j i : Nat} (hj : j < l.length) (hi : i < k) :
    W.cell? ⟨g, 0 + j * k + i, none⟩ = (enc l[j])[i]? := by
  have hx := flat_get enc k hk l j i hj hi
  obtain ⟨u, hu⟩ : ∃ u, (enc l[j])[i]? = some u := ⟨_, List.getElem?_eq_getElem (by rw [hk l[j]]; exact hi)⟩
  have := World.ownsRow.cells h (g := g) rfl (j * k + i) u (by rw [hx, hu])
  have e1 : (⟨g, 0, none⟩ : Addr).add (j * k + i) = ⟨g, 0 + (j * k + i), none⟩ := by unfold Addr.add; split <;> simp_all
  rw [e1] at this
  rw [hu, ← this, Nat.add_assoc]

theorem run_apk {α : Type} {P : Program} (enc : α → List Value) (k : Nat) (hk : ∀ x, (enc x).length = k) (h0 : 0 < k) (henc : ∀ x, ∀ u ∈ enc x, u.oneCell' = true) (w : World) (base : Nat) (t ty e : TypeId) (z : Value) (bytes : Nat) (h1 : P.underlying t = some (.slice e))
    (h2 : (P.info? e).map (fun i => (i.zero, i.size, i.bytes)) = some (some z, k, bytes)) (hz : z.cells.size = k) (v : Value) (l : List α) (hown : OwnK enc k e base v l w) (ad : Addr) (m c : Nat) (news : List α) (hm : news.length = m)
    (hc : ∀ j u, (news.flatMap enc)[j]? = some u → w.cell? (ad.add j) = some u) (b1 : l.length + m ≤ 1000000) (b2 : bytes ≤ 1000) (hb : base ≤ w.heap.size) :
    ∃ v' w', (Builtin.append_ #[t, t] ty #[v, .slice (some ad) m c]).run P w = .ok v' w' ∧ OwnK enc k e base v' (l ++ news) w' ∧ w.grownBy w' v.ownBlock ∧ (v'.ownBlock = v.ownBlock ∨ v'.ownBlock = some w.heap.size) := by
  obtain ⟨i, hi, hz0, hz1, hz2⟩ := info_parts h2
  have hlim : (l.length + m) * bytes ≤ 140737488355328 := Nat.le_trans (Nat.mul_le_mul b1 b2) (by decide)
  have hmax : l.length + m ≤ maxLen := Nat.le_trans b1 (by unfold maxLen; decide)
  have h1c : ∀ u ∈ news.flatMap enc, u.oneCell' = true := fun u hu => by obtain ⟨x, _, hx⟩ := List.mem_flatMap.1 hu; exact henc x u hx
  obtain ⟨v', w', hr, ho, hg, _, hat⟩ := run_append_own_at (P := P) w base t ty e i z k bytes h1 hi hz0 hz1 hz2 hz h0 v l.length (l.flatMap enc) hown ad m c (news.flatMap enc) (by rw [flat_len enc k hk, hm]) hc h1c hmax hlim hb
  exact ⟨v', w', hr, by unfold OwnK; rw [List.flatMap_append, List.length_append, hm]; exact ho, hg, hat⟩

/-- At the operation. -/
theorem wpListIn_apk {α : Type} {P : Program} {F : Fence} {n : Nat} (w : World) {ops : Array Oper} {rest : List Oper} {o : Oper} {a : Act} {Q : Exit → Act → World → Prop} (hg : o.guard = none) (s x : Operand) (t : TypeId)
    (hop : o.op = Op.call { callee := Callee.builtin Builtin.append, args := #[s, x], argTypes := #[t, t] })
    (enc : α → List Value) (k : Nat) (hk : ∀ x, (enc x).length = k) (h0 : 0 < k) (henc : ∀ x, ∀ u ∈ enc x, u.oneCell' = true) (base : Nat) (e : TypeId) (z : Value) (bytes : Nat) (h1 : P.underlying t = some (.slice e))
    (h2 : (P.info? e).map (fun i => (i.zero, i.size, i.bytes)) = some (some z, k, bytes)) (hz : z.cells.size = k) (v : Value) (l : List α) (hs : a.eval s = v) (hown : OwnK enc k e base v l w) (ad : Addr) (m c : Nat) (news : List α) (hx : a.eval x = .slice (some ad) m c) (hm : news.length = m)
    (hc : ∀ j u, (news.flatMap enc)[j]? = some u → w.cell? (ad.add j) = some u) (b1 : l.length + m ≤ 1000000) (b2 : bytes ≤ 1000) (hb : base ≤ w.heap.size)
    (hK : ∀ v' w', OwnK enc k e base v' (l ++ news) w' → w.grownBy w' v.ownBlock → (v'.ownBlock = v.ownBlock ∨ v'.ownBlock = some w.heap.size) → wpListIn F n P ops Q rest (a.put o.dst v') w') :
    wpListIn F n P ops Q (o :: rest) a w := by
  refine wpListIn_plain hg fun K hK' => ?_
  obtain ⟨v', w', hrun, r1, r2, r3⟩ := run_apk (P := P) enc k hk h0 henc w base t o.type e z bytes h1 h2 hz v l hown ad m c news hm hc b1 b2 hb
  unfold Oper.wpIn
  refine ⟨?_, ?_⟩
  · simp [Oper.about, hop, resolve, Target.leads, Sem.run_pure]
  · rw [Oper.semAt_plain F _ _ (by rw [hop]; intro c hc'; cases hc')]
    simp [execOp, hop, resolve, invoke, builtin, hs, hx, hrun, Result.andThen]
    exact hK' _ _ (hK v' w' r1 r2 r3)
theorem below_ownK {α : Type} {enc : α → List Value} {k : Nat} {e : TypeId} {base : Nat} {v : Value} {l : List α} {w w' : World} (h : OwnK enc k e base v l w) (hg : w.grownBy w' v.ownBlock) (hb : base ≤ w.heap.size) : Below base w w' :=
  (Below.refl base w).grown hg hb (fun k e => (World.ownsRow.lt h k e).1)

theorem flat_at {α : Type} (enc : α → List Value) (k : Nat) (hk : ∀ x, (enc x).length = k) (h0 : 0 < k) (l : List α) (j : Nat) (u : Value) (h : (l.flatMap enc)[j]? = some u) : ∃ (hj : j / k < l.length), (enc l[j / k])[j % k]? = some u := by
  have hlt : j < l.length * k := by
    rw [← flat_len enc k hk l]
    exact (List.getElem?_eq_some_iff.1 h).1
  have hj : j / k < l.length := Nat.div_lt_of_lt_mul (by rw [Nat.mul_comm]; exact hlt)
  refine ⟨hj, ?_⟩
  have e := flat_get enc k hk l (j / k) (j % k) hj (Nat.mod_lt _ h0)
  rw [Nat.mul_comm, Nat.div_add_mod] at e
  rw [← e]; exact h
end Go.Proofs.YtdbaocphglijbaaDoor

/- Rows of a law's own beside its arena: what they hold, through the arena's calls, stores and appends. -/
set_option maxRecDepth 100000
namespace Go.Proofs.YtdbaocphglijbaaDoor
open Go.RowKit Go.Shelf
/-- A block that can be none of an arena's. -/
def Foreign (w : World) (k : Nat) : Prop := ∃ c e z, w.heap[k]? = some (.cells c e z) ∧ e ≠ 95 ∧ e ≠ 5 ∧ e ≠ 21 ∧ e ≠ 126 ∧ e ≠ 142
theorem Foreign.not {w : World} {k : Nat} {l : List Value} {t : TypeId} (h : Foreign w k) (hb : Blk w k l t) (ht : t = 95 ∨ t = 5 ∨ t = 21 ∨ t = 126 ∨ t = 142) : False := by
  obtain ⟨c, e, z, h1, h2, h3, h4, h5, h6⟩ := h
  have := (show w.heap[k]? = _ from hb).symm.trans h1
  injection this with this
  injection this with _ this
  subst this
  rcases ht with ht | ht | ht | ht | ht <;> contradiction
theorem HX.turn {x y : Nat → Prop} {A B : Nat} {L : List Bl} {n0 : Nat} {w w' : World} (h : HX x A B L n0 w) (hk : ∀ k, k < w.heap.size → ¬ x k → w'.heap[k]? = w.heap[k]?) (hb : Below n0 w w')
    (hy : ∀ k, y k → n0 ≤ k ∧ k < w'.heap.size ∧ (x k ∨ w.heap.size ≤ k ∨ Foreign w' k)) : HX y A B L n0 w' := by
  obtain ⟨bs, ⟨L', S, pcs, a, I, e, m⟩, hv⟩ := h.ex
  have hs := hb.size
  have one : ∀ (K : Nat) (l : List Value) (t : TypeId), (t = 95 ∨ t = 5 ∨ t = 21 ∨ t = 126 ∨ t = 142) → Blk w K l t → fx x n0 w K → Blk w' K l t ∧ fx y n0 w' K := fun K l t ht hbk hf => by
    have hB := hbk.kept (hk K hf.2.1 hf.2.2)
    refine ⟨hB, hf.1, Nat.lt_of_lt_of_le hf.2.1 hs, fun e => ?_⟩
    rcases (hy K e).2.2 with h1 | h1 | h1
    · exact hf.2.2 h1
    · have := hf.2.1; omega
    · exact h1.not hB ht
  obtain ⟨b1, f1⟩ := one _ _ _ (.inl rfl) a.box a.fA
  obtain ⟨b2, f2⟩ := one _ _ _ (.inr (.inl rfl)) a.mem a.fM
  obtain ⟨b3, f3⟩ := one _ _ _ (.inr (.inr (.inl rfl))) a.pl a.fP
  obtain ⟨b4, f4⟩ := one _ _ _ (.inr (.inr (.inr (.inl rfl)))) a.us a.fU
  obtain ⟨b5, f5⟩ := one _ _ _ (.inr (.inr (.inr (.inr rfl)))) a.nd a.fN
  exact ⟨⟨bs, ⟨L', S, pcs, ⟨b1, b2, b3, b4, b5, a.cap, a.cm, f1, f2, f3, f4, f5, fun k e => e.2.1⟩, I, e, m⟩, hv⟩, Nat.le_trans h.low hs, fun k e => (hy k e).2.1, fun k e => (hy k e).1, h.tab.below h.tlt hb, h.tlt⟩
/-- A row of the law's own. -/
structure RowIn (x : Nat → Prop) (n0 : Nat) (e : TypeId) (v : Value) (cs : List Value) (w : World) : Prop where
  own : w.ownsRow n0 e 1 v cs.length cs
  isIn : ∀ k, v.ownBlock = some k → x k
theorem ownsRow_same {w w' : World} {n0 : Nat} {e : TypeId} {v : Value} {n : Nat} {cs : List Value} (h : w.ownsRow n0 e 1 v n cs) (hk : ∀ k, v.ownBlock = some k → w'.heap[k]? = w.heap[k]?) : w'.ownsRow n0 e 1 v n cs := by
  refine ⟨h.1, ?_⟩
  rcases h.2 with h2 | ⟨g, cap, cur, rfl, h3, h4, h5⟩
  · exact .inl h2
  · exact .inr ⟨g, cap, cur, rfl, h3, (hk g rfl).trans h4, h5⟩
theorem RowIn.lx {x : Nat → Prop} {A B : Nat} {L : List Bl} {n0 : Nat} {e : TypeId} {v : Value} {cs : List Value} {w w' : World} (h : RowIn x n0 e v cs w) (k : LX x A B L n0 w w') : RowIn x n0 e v cs w' :=
  ⟨ownsRow_same h.own fun j hj => k.own j (h.isIn j hj), h.isIn⟩
theorem RowIn.below {x : Nat → Prop} {n0 : Nat} {e : TypeId} {v : Value} {cs : List Value} {w w' : World} (h : RowIn x n0 e v cs w) (hb : Below w.heap.size w w') : RowIn x n0 e v cs w' :=
  ⟨ownsRow_same h.own fun j hj => hb.block j (h.own.lt j hj).2, h.isIn⟩
theorem RowIn.same {x : Nat → Prop} {n0 : Nat} {e : TypeId} {v : Value} {cs : List Value} {w w' : World} (h : RowIn x n0 e v cs w) (hk : ∀ k, v.ownBlock = some k → w'.heap[k]? = w.heap[k]?) : RowIn x n0 e v cs w' := ⟨ownsRow_same h.own hk, h.isIn⟩
theorem RowIn.more {x y : Nat → Prop} {n0 : Nat} {e : TypeId} {v : Value} {cs : List Value} {w : World} (h : RowIn x n0 e v cs w) (hy : ∀ k, x k → y k) : RowIn y n0 e v cs w := ⟨h.own, fun k hk => hy k (h.isIn k hk)⟩
theorem RowIn.nil (x : Nat → Prop) (n0 : Nat) (e : TypeId) (w : World) : RowIn x n0 e (.slice none 0 0) [] w := ⟨World.ownsRow_nil w n0 e 1, fun k hk => by cases hk⟩
theorem RowIn.form {x : Nat → Prop} {n0 : Nat} {e : TypeId} {v : Value} {cs : List Value} {w : World} (h : RowIn x n0 e v cs w) : ∃ ao c, v = .slice ao cs.length c ∧ cs.length ≤ c := by
  rcases h.own.2 with ⟨rfl, hn⟩ | ⟨g, cap, cur, rfl, _, _, h5, _⟩
  · exact ⟨none, 0, by rw [hn], by omega⟩
  · exact ⟨_, cap, rfl, h5⟩
theorem RowIn.at_ {x : Nat → Prop} {n0 : Nat} {e : TypeId} {ao : Option Addr} {n c : Nat} {cs : List Value} {w : World} (h : RowIn x n0 e (.slice ao n c) cs w) {i : Nat} {u : Value} (hu : cs[i]? = some u) : ∃ g, ao = some ⟨g, 0, none⟩ ∧ w.cell? ⟨g, i, none⟩ = some u ∧ w.frozen? ⟨g, i, none⟩ = false ∧ n0 ≤ g ∧ x g := by
  have hlt : i < cs.length := (List.getElem?_eq_some_iff.1 hu).1
  have ho := h.own
  rcases ho.2 with ⟨e1, hn⟩ | ⟨g, cap, cur, e1, h3, _⟩
  · omega
  · cases e1
    refine ⟨g, rfl, ?_, World.ownsRow.frozenAt ho i, h3, h.isIn g rfl⟩
    have := World.ownsRow.cellAt ho i (by omega)
    rw [this, hu]
theorem ownBlock_slice (g n c : Nat) : (Value.slice (some ⟨g, 0, none⟩) n c).ownBlock = some g := rfl
/-- A store into a row. -/
theorem RowIn.put {x : Nat → Prop} {n0 : Nat} {e : TypeId} {g n c : Nat} {cs : List Value} {w : World} (h : RowIn x n0 e (.slice (some ⟨g, 0, none⟩) n c) cs w) (i : Nat) (u : Value) : RowIn x n0 e (.slice (some ⟨g, 0, none⟩) n c) (cs.set i u) (w.setCell ⟨g, i, none⟩ u) := by
  refine ⟨?_, h.isIn⟩
  have hn : n = cs.length := by
    rcases h.own.2 with ⟨e1, _⟩ | ⟨g', cap, cur, e1, _⟩
    · cases e1
    · cases e1; rfl
  have ho := h.own
  rw [← hn] at ho
  have := World.ownsRow.stored ho i u
  rw [List.length_set, ← hn]
  exact this.1
theorem RowIn.other {x : Nat → Prop} {n0 : Nat} {e : TypeId} {v : Value} {cs : List Value} {w : World} (h : RowIn x n0 e v cs w) {g : Nat} (hg : v.ownBlock ≠ some g) (i : Nat) (u : Value) : RowIn x n0 e v cs (w.setCell ⟨g, i, none⟩ u) :=
  h.same fun k hk => Below.heap_setCell w ⟨g, i, none⟩ u k (fun e => hg (by rw [hk]; exact congrArg some e))
/-- Rows of unlike types are not one. -/
theorem rows_apart {x y : Nat → Prop} {n0 n1 : Nat} {e e' : TypeId} {v v' : Value} {cs cs' : List Value} {w : World} (h : RowIn x n0 e v cs w) (h' : RowIn y n1 e' v' cs' w) (he : e ≠ e') {g : Nat} (hg : v'.ownBlock = some g) : v.ownBlock ≠ some g := fun e0 => by
  rcases h.own.2 with ⟨rfl, _⟩ | ⟨a, cap, cur, rfl, _, h4, _⟩
  · cases e0
  · rcases h'.own.2 with ⟨rfl, _⟩ | ⟨b, cap', cur', rfl, _, h4', _⟩
    · cases hg
    · cases e0
      cases hg
      rw [h4] at h4'
      injection h4' with h4'
      injection h4' with _ h4'
      exact he h4'
theorem rowMono {w : World} {n0 n1 : Nat} {e : TypeId} {v : Value} {n : Nat} {cs : List Value} (h : w.ownsRow n1 e 1 v n cs) (hb : n0 ≤ n1) : w.ownsRow n0 e 1 v n cs := by
  refine ⟨h.1, ?_⟩
  rcases h.2 with h2 | ⟨g, cap, cur, rfl, h3, h4⟩
  · exact .inl h2
  · exact .inr ⟨g, cap, cur, rfl, Nat.le_trans hb h3, h4⟩
/-- A row that Read told, or that was made: it is the law's own from then on. -/
theorem HX.take {x : Nat → Prop} {A B : Nat} {L : List Bl} {n0 : Nat} {e : TypeId} {v : Value} {n : Nat} {cs : List Value} {w w' : World} (h : HX x A B L n0 w) (hb : Below w.heap.size w w') (hr : w'.ownsRow w.heap.size e 1 v n cs) (hn : n = cs.length) :
    HX (fun k => x k ∨ v.ownBlock = some k) A B L n0 w' ∧ RowIn (fun k => x k ∨ v.ownBlock = some k) n0 e v cs w' := by
  subst hn
  refine ⟨h.turn (fun k hk _ => hb.block k hk) (hb.mono h.low) fun k hk => ?_, rowMono hr h.low, fun k hk => .inr hk⟩
  rcases hk with hk | hk
  · exact ⟨h.xlow k hk, Nat.lt_of_lt_of_le (h.xlt k hk) hb.size, .inl hk⟩
  · have := hr.lt k hk
    exact ⟨Nat.le_trans h.low this.1, this.2, .inr (.inl this.1)⟩
/-- An append to a row of numbers. -/
theorem apd_int {x : Nat → Prop} {A B : Nat} {L : List Bl} {n0 : Nat} {v : Value} {l : List Nat} {w : World} (h : HX x A B L n0 w) (hr : RowIn x n0 3 v (l.map encI) w) (hl : l.length ≤ 900000) (k : Nat) :
    ∃ v' w', (Builtin.append_ #[54, 54] 54 #[v, .slice (some ⟨w.heap.size, 0, none⟩) 1 1]).run Tryd.prog (w.alloc (.cells #[encI k] 3)) = .ok v' w' ∧ HX (fun j => x j ∨ v'.ownBlock = some j) A B L n0 w' ∧ RowIn (fun j => x j ∨ v'.ownBlock = some j) n0 3 v' ((l ++ [k]).map encI) w' ∧ Below n0 w w' ∧ (∀ j, j < w.heap.size → v.ownBlock ≠ some j → w'.heap[j]? = w.heap[j]?) ∧ (∀ g, v'.ownBlock = some g → Foreign w' g) := by
  have hown : OwnE encI 3 n0 v l w := by unfold OwnE; have := hr.own; rwa [List.length_map] at this
  have hown2 : OwnE encI 3 n0 v l (w.alloc (.cells #[encI k] 3)) := ownE_alloc hown _
  have hlow : n0 ≤ (w.alloc (.cells #[encI k] 3)).heap.size := by rw [World.size_alloc]; exact Nat.le_succ_of_le h.low
  obtain ⟨v', w', hrun, ho, ha, _⟩ := run_apd (P := Tryd.prog) encI encI_one (w.alloc (.cells #[encI k] 3)) n0 54 54 3 (.int .i64 0) 8 Tryd.underlying54 infoInt rfl v l hown2 ⟨w.heap.size, 0, none⟩ 1 1 [k] rfl (fun j u hj => cells_new w [encI k] 3 j u hj) (by omega) (by omega) hlow
  have hb : Below n0 w w' := ((Below.refl n0 w).alloc h.low _).trans ha.below
  have hsm : ∀ j, j < w.heap.size → v.ownBlock ≠ some j → w'.heap[j]? = w.heap[j]? := fun j hj hne => by
    have e1 := Below.heap_alloc w (.cells #[encI k] 3) j hj
    obtain ⟨o, ho⟩ : ∃ o, w.heap[j]? = some o := ⟨w.heap[j], Array.getElem?_eq_getElem hj⟩
    rw [ho]
    exact ha.other j o (fun e => hne e.symm) (e1.trans ho)
  have ho' : w'.ownsRow n0 3 1 v' ((l ++ [k]).map encI).length ((l ++ [k]).map encI) := by rw [List.length_map]; exact ho
  have hfor : ∀ g, v'.ownBlock = some g → Foreign w' g := fun g hg => by
    rcases ho'.2 with ⟨rfl, _⟩ | ⟨g', cap, cur, rfl, _, h4, _⟩
    · cases hg
    · cases hg
      exact ⟨_, _, _, h4, by decide, by decide, by decide, by decide, by decide⟩
  refine ⟨v', w', hrun, h.turn (fun j hj hne => hsm j hj (fun e => hne (hr.isIn j e))) hb fun j hj => ?_, ⟨ho', fun j hj => .inr hj⟩, hb, hsm, hfor⟩
  rcases hj with hj | hj
  · exact ⟨h.xlow j hj, Nat.lt_of_lt_of_le (h.xlt j hj) hb.size, .inl hj⟩
  · have hlt := ho.lt j hj
    exact ⟨hlt.1, hlt.2, .inr (.inr (hfor j hj))⟩
theorem wpList_apdI {w : World} {ops : Array Oper} {rest : List Oper} {o : Oper} {a : Act} {Q : Exit → Act → World → Prop} (hg : o.guard = none) (s z : Operand)
    (hop : o.op = Op.call { callee := Callee.builtin Builtin.append, args := #[s, z], argTypes := #[54, 54] }) (hty : o.type = 54) {x : Nat → Prop} {A B : Nat} {L : List Bl} {n0 : Nat} {v : Value} {l : List Nat} (w0 : World) (hs : a.eval s = v)
    (h : HX x A B L n0 w0) (hr : RowIn x n0 3 v (l.map encI) w0) (hl : l.length ≤ 900000) (k : Nat) (u : Value) (hw : w = w0.alloc (.cells #[u] 3)) (hu : u = encI k) (hz : a.eval z = .slice (some ⟨w0.heap.size, 0, none⟩) 1 1)
    (hK : ∀ v' w', HX (fun j => x j ∨ v'.ownBlock = some j) A B L n0 w' → RowIn (fun j => x j ∨ v'.ownBlock = some j) n0 3 v' ((l ++ [k]).map encI) w' → Below n0 w0 w' → (∀ j, j < w0.heap.size → v.ownBlock ≠ some j → w'.heap[j]? = w0.heap[j]?) → (∀ g, v'.ownBlock = some g → Foreign w' g) → wpList Tryd.prog ops Q rest (a.put o.dst v') w') :
    wpList Tryd.prog ops Q (o :: rest) a w := by
  subst hw hu
  refine wpList_plain hg fun K hK' => ?_
  obtain ⟨v', w', hrun, r1, r2, r3, r4, r5⟩ := apd_int h hr hl k
  unfold Oper.wp
  simp [execOp, hop, hty, resolve, invoke, builtin, hs, hz, hrun, Result.andThen]
  exact hK' _ _ (hK v' w' r1 r2 r3 r4 r5)
end Go.Proofs.YtdbaocphglijbaaDoor

/- A slice of any elements that is read, in blocks that lie within x. -/
set_option maxRecDepth 100000
namespace Go.Proofs.YtdbaocphglijbaaDoor
open Go Go.RowKit Go.Shelf
structure RK {α : Type} (enc : α → List Value) (x : Nat → Prop) (v : Value) (l : List α) (W : World) : Prop where
  form : ∃ ao cap, v = .slice ao l.length cap ∧ l.length ≤ cap ∧ ∀ j u, (l.flatMap enc)[j]? = some u → ∃ b off, ao = some ⟨b, off, none⟩ ∧ x b ∧ W.cell? ⟨b, off + j, none⟩ = some u
theorem cell_same {W W' : World} {b : Nat} (h : W'.heap[b]? = W.heap[b]?) (i : Nat) : W'.cell? ⟨b, i, none⟩ = W.cell? ⟨b, i, none⟩ := by
  show (match W'.heap[b]? with | some (.cells c _ _) => c[i]? | _ => none) = (match W.heap[b]? with | some (.cells c _ _) => c[i]? | _ => none)
  rw [h]
section
variable {α : Type} {enc : α → List Value} {x y : Nat → Prop} {v : Value} {l : List α} {W W' : World}
theorem RK.same (h : RK enc x v l W) (hk : ∀ b, x b → W'.heap[b]? = W.heap[b]?) : RK enc x v l W' := by
  obtain ⟨ao, cap, e, hc, hf⟩ := h.form
  exact ⟨ao, cap, e, hc, fun j u hu => by
    obtain ⟨b, off, e, hx, c⟩ := hf j u hu
    exact ⟨b, off, e, hx, (cell_same (hk b hx) _).trans c⟩⟩
theorem RK.below (h : RK enc x v l W) (hb : Below W.heap.size W W') : RK enc x v l W' := by
  obtain ⟨ao, cap, e, hc, hf⟩ := h.form
  exact ⟨ao, cap, e, hc, fun j u hu => by
    obtain ⟨b, off, e, hx, c⟩ := hf j u hu
    exact ⟨b, off, e, hx, (hb.cell (cell_lt c)).trans c⟩⟩
theorem RK.mono (h : RK enc x v l W) (hxy : ∀ b, x b → y b) : RK enc y v l W := by
  obtain ⟨ao, cap, e, hc, hf⟩ := h.form
  exact ⟨ao, cap, e, hc, fun j u hu => by
    obtain ⟨b, off, e, hx, c⟩ := hf j u hu
    exact ⟨b, off, e, hxy b hx, c⟩⟩
theorem RK.nil (enc : α → List Value) (x : Nat → Prop) (W : World) : RK enc x (.slice none 0 0) [] W := ⟨none, 0, rfl, Nat.le_refl _, fun j u hu => by simp at hu⟩
theorem RK.own {k : Nat} {e : TypeId} {base : Nat} (h : OwnK enc k e base v l W) (hx : ∀ b, v.ownBlock = some b → x b) : RK enc x v l W := by
  rcases h.2 with ⟨rfl, hn⟩ | ⟨g, cap, cur, rfl, _, _, hle, _⟩
  · rw [List.length_eq_zero_iff] at hn
    subst hn
    exact RK.nil enc x W
  · refine ⟨some ⟨g, 0, none⟩, cap, rfl, hle, fun j u hu => ⟨g, 0, rfl, hx g rfl, ?_⟩⟩
    have := World.ownsRow.cells h (g := g) rfl j u hu
    have e : (⟨g, 0, none⟩ : Addr).add j = ⟨g, 0 + j, none⟩ := by unfold Addr.add; split <;> simp_all
    rwa [e] at this
/-- A field of an element. -/
theorem RK.at_ {k : Nat} (hk : ∀ a, (enc a).length = k) {ao : Option Addr} {n cap : Nat} (h : RK enc x (.slice ao n cap) l W) {i f : Nat} (hi : i < l.length) (hf : f < k) : ∃ b off, ao = some ⟨b, off, none⟩ ∧ x b ∧ W.cell? ⟨b, off + (i * k + f), none⟩ = (enc l[i])[f]? := by
  obtain ⟨ao', cap', e, hc, hfm⟩ := h.form
  cases e
  have h1 := flat_get enc k hk l i f hi hf
  obtain ⟨u, hu⟩ : ∃ u, (enc l[i])[f]? = some u := ⟨(enc l[i])[f]'(by rw [hk]; exact hf), List.getElem?_eq_getElem _⟩
  obtain ⟨b, off, e, hx, c⟩ := hfm (i * k + f) u (by rw [h1, hu])
  exact ⟨b, off, e, hx, by rw [c, hu]⟩
theorem RK.len {ao : Option Addr} {n cap : Nat} (h : RK enc x (.slice ao n cap) l W) : n = l.length ∧ l.length ≤ cap := by
  obtain ⟨ao', cap', e, hc, hfm⟩ := h.form
  cases e
  exact ⟨rfl, hc⟩
theorem flat_drop {k : Nat} (hk : ∀ a, (enc a).length = k) : ∀ (m : Nat) (l : List α) (j : Nat), ((l.drop m).flatMap enc)[j]? = (l.flatMap enc)[m * k + j]?
  | 0, l, j => by simp
  | m + 1, [], j => by simp
  | m + 1, a :: l, j => by
    rw [List.drop_succ_cons, flat_drop hk m l j, List.flatMap_cons, List.getElem?_append_right (by rw [hk, Nat.succ_mul]; omega), hk]
    congr 1
    rw [Nat.succ_mul]; omega
theorem flat_take {k : Nat} (hk : ∀ a, (enc a).length = k) : ∀ (m : Nat) (l : List α) (j : Nat) (u : Value), ((l.take m).flatMap enc)[j]? = some u → (l.flatMap enc)[j]? = some u
  | 0, l, j, u, h => by simp at h
  | m + 1, [], j, u, h => by simp at h
  | m + 1, a :: l, j, u, h => by
    rw [List.take_succ_cons, List.flatMap_cons] at h
    rw [List.flatMap_cons]
    by_cases hj : j < k
    · rw [List.getElem?_append_left (by rw [hk]; exact hj)] at h ⊢
      exact h
    · rw [List.getElem?_append_right (by rw [hk]; omega)] at h ⊢
      exact flat_take hk m l _ u h
/-- s[m:] and s[:m]. -/
theorem run_dropK {P : Program} {k : Nat} (hk : ∀ a, (enc a).length = k) {t e : TypeId} {z : Value} {bytes : Nat} (h1 : P.underlying t = some (.slice e)) (h2 : (P.info? e).map (fun i => (i.zero, i.size, i.bytes)) = some (some z, k, bytes)) {ao : Option Addr} {n cap : Nat} (h : RK enc x (.slice ao n cap) l W) {m : Nat} (hm : m ≤ l.length) :
    ∃ v, (∀ W' : World, (Instr.slice t (.slice ao n cap) (some (.int .i64 (m : Int))) none none).run P W' = .ok v W') ∧ RK enc x v (l.drop m) W := by
  obtain ⟨rfl, hcap⟩ := h.len
  have hs : ∀ W', (sizeOf e).run P W' = .ok k W' := fun W' => by
    obtain ⟨i, hi, _, h1, _⟩ := info_parts h2
    simp [sizeOf, typeInfo, hi, h1]
  have he : P.elem t = e := by simp [Program.elem, h1]
  subst he
  refine ⟨sliced ao m l.length cap k, fun W' => by rw [run_slice_l (w := W') t ao l.length cap h1 .i64 (m : Int) (by omega) (by omega), hs W']; rfl, ?_⟩
  obtain ⟨ao', cap', e', hc, hfm⟩ := h.form
  cases e'
  unfold sliced
  refine ⟨_, _, by rw [List.length_drop], by rw [List.length_drop]; omega, fun j u hu => ?_⟩
  rw [flat_drop hk] at hu
  obtain ⟨b, off, rfl, hx, c⟩ := hfm _ u hu
  have hne : ¬ cap = m := fun e => by
    have h3 : l.length = m := by omega
    have h4 := (List.getElem?_eq_some_iff.1 hu).1
    rw [flat_len enc k hk, h3] at h4
    omega
  exact ⟨b, off + m * k, by rw [if_neg hne]; simp [Addr.add], hx, by rw [Nat.add_assoc]; exact c⟩
theorem run_takeK {P : Program} {k : Nat} (hk : ∀ a, (enc a).length = k) {t e : TypeId} {z : Value} {bytes : Nat} (h1 : P.underlying t = some (.slice e)) (h2 : (P.info? e).map (fun i => (i.zero, i.size, i.bytes)) = some (some z, k, bytes)) {ao : Option Addr} {n cap : Nat} (h : RK enc x (.slice ao n cap) l W) {m : Nat} (hm : m ≤ l.length) :
    ∃ v, (∀ W' : World, (Instr.slice t (.slice ao n cap) none (some (.int .i64 (m : Int))) none).run P W' = .ok v W') ∧ RK enc x v (l.take m) W := by
  obtain ⟨rfl, hcap⟩ := h.len
  have hs : ∀ W', (sizeOf e).run P W' = .ok k W' := fun W' => by
    obtain ⟨i, hi, _, h1, _⟩ := info_parts h2
    simp [sizeOf, typeInfo, hi, h1]
  have he : P.elem t = e := by simp [Program.elem, h1]
  subst he
  refine ⟨sliced ao 0 m cap k, fun W' => by rw [run_slice_h (w := W') t ao l.length cap h1 .i64 (m : Int) (by omega) (by omega), hs W']; rfl, ?_⟩
  obtain ⟨ao', cap', e', hc, hfm⟩ := h.form
  cases e'
  unfold sliced
  refine ⟨_, _, by rw [List.length_take, Nat.min_eq_left hm]; rfl, by rw [List.length_take]; omega, fun j u hu => ?_⟩
  obtain ⟨b, off, rfl, hx, c⟩ := hfm _ u (flat_take hk m l j u hu)
  refine ⟨b, off, ?_, hx, c⟩
  split
  · rfl
  · simp [Addr.add]
/-- append(v, y...): v is the call's own, y is read. -/
theorem run_apRK {P : Program} {k : Nat} (hk : ∀ a, (enc a).length = k) (h0 : 0 < k) (henc : ∀ a, ∀ u ∈ enc a, u.oneCell' = true) (w : World) (base : Nat) (t ty e : TypeId) (z : Value) (bytes : Nat) (h1 : P.underlying t = some (.slice e))
    (h2 : (P.info? e).map (fun i => (i.zero, i.size, i.bytes)) = some (some z, k, bytes)) (hz : z.cells.size = k) (v : Value) (l : List α) (hown : OwnK enc k e base v l w) (yv : Value) (news : List α) (hy : RK enc x yv news w) (b1 : l.length + news.length ≤ 1000000) (b2 : bytes ≤ 1000) (hb : base ≤ w.heap.size) :
    ∃ v' w', (Builtin.append_ #[t, t] ty #[v, yv]).run P w = .ok v' w' ∧ OwnK enc k e base v' (l ++ news) w' ∧ w.grownBy w' v.ownBlock ∧ (v'.ownBlock = v.ownBlock ∨ v'.ownBlock = some w.heap.size) := by
  obtain ⟨ao, cap, rfl, hcap, hc⟩ := hy.form
  by_cases hn : news = []
  · subst hn
    obtain ⟨i, hi, hz0, hz1, hz2⟩ := info_parts h2
    have hform : ∃ ao n c, v = .slice ao n c ∧ n ≤ c := by
      rcases hown.2 with ⟨rfl, hn⟩ | ⟨g, cap', cur, rfl, _, _, hle, _⟩
      · exact ⟨none, 0, 0, rfl, Nat.le_refl _⟩
      · exact ⟨_, _, _, rfl, hle⟩
    obtain ⟨a2, n, c, rfl, hle⟩ := hform
    refine ⟨_, _, ?_, by rw [List.append_nil]; exact hown, ⟨rfl, rfl, rfl, Nat.le_refl _, fun _ _ _ => rfl⟩, .inl rfl⟩
    cases ao with
    | none => exact run_append_nothing (P := P) w t t ty e i h1 hi a2 n c hle _ (Src.ofNil w h1 cap)
    | some ad => exact run_append_nothing (P := P) w t t ty e i h1 hi a2 n c hle _ (Src.ofSlice _ h1 ad 0 cap [] (by simp) (fun j v hj => by simp at hj) (by simp))
  · have hpos : 0 < news.length := List.length_pos_iff.2 hn
    obtain ⟨b, off, rfl, _, _⟩ := hc 0 ((news.flatMap enc)[0]'(by rw [flat_len enc k hk]; exact Nat.mul_pos hpos h0)) (List.getElem?_eq_getElem _)
    refine run_apk (P := P) enc k hk h0 henc w base t ty e z bytes h1 h2 hz v l hown ⟨b, off, none⟩ news.length cap news rfl (fun j u hu => ?_) b1 b2 hb
    obtain ⟨b', off', e', _, c⟩ := hc j u hu
    cases e'
    have e2 : (⟨b, off, none⟩ : Addr).add j = ⟨b, off + j, none⟩ := by unfold Addr.add; split <;> simp_all
    rw [e2]; exact c
theorem step_apRK {P : Program} {k : Nat} (hk : ∀ a, (enc a).length = k) (h0 : 0 < k) (henc : ∀ a, ∀ u ∈ enc a, u.oneCell' = true) {w : World} {t e : TypeId} {z : Value} {bytes : Nat} (h1 : P.underlying t = some (.slice e))
    (h2 : (P.info? e).map (fun i => (i.zero, i.size, i.bytes)) = some (some z, k, bytes)) (hz : z.cells.size = k) (b2 : bytes ≤ 1000) {ops : Array Oper} {o : Oper} {a : Act} {K : Act → World → Prop} {Q : Exit → Act → World → Prop} {E : Prop}
    (hg : o.guard = none) (s y : Operand) (hop : o.op = Op.call { callee := Callee.builtin Builtin.append, args := #[s, y], argTypes := #[t, t] })
    (base : Nat) (v : Value) (l : List α) (hs : a.eval s = v) (hown : OwnK enc k e base v l w) (yv : Value) (news : List α) (hy : a.eval y = yv) (hr : RK enc x yv news w) (b1 : l.length + news.length ≤ 1000000) (hb : base ≤ w.heap.size)
    (hK : ∀ v' w', OwnK enc k e base v' (l ++ news) w' → w.grownBy w' v.ownBlock → (v'.ownBlock = v.ownBlock ∨ v'.ownBlock = some w.heap.size) → K (a.put o.dst v') w') :
    if Region.wanted o (yielded ops a.tmps) = true then Oper.wp P o a w K Q else E := by
  have hw : Region.wanted o (yielded ops a.tmps) = true := by simp [Region.wanted, hg]
  rw [if_pos hw]
  obtain ⟨v', w', hrun, r1, r2, r3⟩ := run_apRK (P := P) hk h0 henc w base t o.type e z bytes h1 h2 hz v l hown yv news hr b1 b2 hb
  unfold Oper.wp
  simp [execOp, hop, resolve, invoke, builtin, hs, hy, hrun, Result.andThen]
  exact hK v' w' r1 r2 r3
end
/-- A literal of one element. -/
theorem RK.one {α : Type} {enc : α → List Value} (a : α) (t : TypeId) (W : World) : RK enc (fun _ => True) (.slice (some ⟨W.heap.size, 0, none⟩) 1 1) [a] (W.alloc (.cells (enc a).toArray t)) :=
  ⟨some ⟨W.heap.size, 0, none⟩, 1, rfl, Nat.le_refl _, fun j u hu => ⟨W.heap.size, 0, rfl, trivial, by
    rw [List.flatMap_cons, List.flatMap_nil, List.append_nil] at hu
    rw [Nat.zero_add]
    exact (Blk.new W (enc a) t).cell hu⟩⟩
end Go.Proofs.YtdbaocphglijbaaDoor

/- The document's own arena, in memory: rows of (handle, bytes); Cost, Used, Left, at, MayArena. -/
set_option maxRecDepth 100000
namespace Go.Proofs.YtdbaocphglijbaaDoor
open Go Go.RowKit Go.Shelf
attribute [local go_sem] Oper.semAt_some
/-- A row: a handle, and a slice of bytes. -/
structure Rw where
  h : Nat
  ao : Option Addr
  n : Nat
  c : Nat
def Rw.v (r : Rw) : Value := .slice r.ao r.n r.c
def encRw (r : Rw) : List Value := [.int .i64 (r.h : Int), r.v]
theorem encRw_len (r : Rw) : (encRw r).length = 2 := rfl
theorem encRw_one (r : Rw) : ∀ u ∈ encRw r, u.oneCell' = true := fun u hu => by
  simp only [encRw, List.mem_cons, List.not_mem_nil, or_false] at hu
  rcases hu with rfl | rfl <;> rfl
theorem infoRw : (Tryd.prog.info? 52).map (fun i => (i.zero, i.size, i.bytes)) = some (some (.agg #[.int .i64 0, .slice none 0 0]), 2, 32) := by kernel_rfl
def encC (c : UInt8) : List Value := [encB c]
theorem encC_len (c : UInt8) : (encC c).length = 1 := rfl
theorem encC_one (c : UInt8) : ∀ u ∈ encC c, u.oneCell' = true := fun u hu => by
  simp only [encC, List.mem_cons, List.not_mem_nil, or_false] at hu
  rw [hu]; rfl
theorem flatC (l : List UInt8) : l.flatMap encC = l.map encB := by induction l with
  | nil => rfl
  | cons c l ih => rw [List.flatMap_cons, ih]; rfl
abbrev Rp := Rw × Bl
structure MA (x : Nat → Prop) (m B : Nat) (P : List Rp) (W : World) : Prop where
  ex : ∃ v, Blk W m [.int .i64 (B : Int), v] 33 ∧ RK encRw x v (P.map Prod.fst) W
  mine : x m
  each : ∀ p ∈ P, p.1.h = p.2.1 ∧ RK encC x p.1.v p.2.2 W
theorem MA.same {x : Nat → Prop} {m B : Nat} {P : List Rp} {W W' : World} (h : MA x m B P W) (hk : ∀ b, x b → W'.heap[b]? = W.heap[b]?) : MA x m B P W' := by
  obtain ⟨v, h1, h2⟩ := h.ex
  exact ⟨⟨v, h1.kept (hk m h.mine), h2.same hk⟩, h.mine, fun p hp => ⟨(h.each p hp).1, (h.each p hp).2.same hk⟩⟩
theorem MA.below {x : Nat → Prop} {m B : Nat} {P : List Rp} {W W' : World} (h : MA x m B P W) (hb : Below W.heap.size W W') : MA x m B P W' := by
  obtain ⟨v, h1, h2⟩ := h.ex
  exact ⟨⟨v, h1.kept (hb.block m h1.lt), h2.below hb⟩, h.mine, fun p hp => ⟨(h.each p hp).1, (h.each p hp).2.below hb⟩⟩
/-- What is read of it. -/
theorem MA.box {x : Nat → Prop} {m B : Nat} {P : List Rp} {W : World} (h : MA x m B P W) : ∃ ao cap, W.cell? ⟨m, 0, none⟩ = some (.int .i64 (B : Int)) ∧ W.cell? ⟨m, 1, none⟩ = some (.slice ao P.length cap) ∧ P.length ≤ cap ∧ RK encRw x (.slice ao P.length cap) (P.map Prod.fst) W ∧
    ∀ i (hi : i < P.length), ∃ b off, ao = some ⟨b, off, none⟩ ∧ x b ∧ W.cell? ⟨b, off + i * 2, none⟩ = some (.int .i64 (P[i].2.1 : Int)) ∧ W.cell? ⟨b, off + i * 2 + 1, none⟩ = some P[i].1.v := by
  obtain ⟨v, h1, h2⟩ := h.ex
  obtain ⟨ao, cap, rfl, hc, hf⟩ := h2.form
  rw [List.length_map] at hc h1
  have h3 : RK encRw x (.slice ao P.length cap) (P.map Prod.fst) W := by rw [List.length_map] at h2; exact h2
  refine ⟨ao, cap, h1.cell rfl, h1.cell rfl, hc, h3, fun i hi => ?_⟩
  obtain ⟨b, off, e, hx, c0⟩ := h3.at_ encRw_len (i := i) (f := 0) (by rw [List.length_map]; exact hi) (by omega)
  obtain ⟨b', off', e', _, c1⟩ := h3.at_ encRw_len (i := i) (f := 1) (by rw [List.length_map]; exact hi) (by omega)
  rw [e] at e'
  cases e'
  refine ⟨b, off, e, hx, ?_, ?_⟩
  · rw [Nat.add_zero] at c0
    rw [c0, List.getElem_map]
    show some (Value.int .i64 ((P[i].1.h : Nat) : Int)) = _
    rw [(h.each P[i] (List.getElem_mem hi)).1]
  · rw [Nat.add_assoc, c1, List.getElem_map]
    rfl
/-- c is the least power of two from 16 on that is at least as much, or a lesser one. -/
def DblOk (n c : Nat) : Prop := ∃ j, j ≤ 9 ∧ c = 16 * 2 ^ j ∧ (j = 0 ∨ 8 * 2 ^ j < n + 8)
theorem dbl_more {c n : Nat} (hn : n ≤ 4096) (h : DblOk n c) (hl : c < n + 8) : DblOk n (c * 2) := by
  obtain ⟨j, hj, hc, h⟩ := h
  have hj9 : j ≠ 9 := fun e => by subst e; simp only [Nat.reducePow] at hc; omega
  refine ⟨j + 1, by omega, by rw [Nat.pow_succ, hc, Nat.mul_assoc], .inr ?_⟩
  rw [Nat.pow_succ]
  clear h
  generalize 2 ^ j = p at hc ⊢
  omega
set_option maxHeartbeats 4000000 in
theorem dbl_end {c n : Nat} (hn : n ≤ 4096) (h : DblOk n c) (hl : ¬ c < n + 8) : c = Ar.cost n := by
  obtain ⟨j, hj, hc, h⟩ := h
  have h10 : j = 0 ∨ j = 1 ∨ j = 2 ∨ j = 3 ∨ j = 4 ∨ j = 5 ∨ j = 6 ∨ j = 7 ∨ j = 8 ∨ j = 9 := by omega
  unfold Ar.cost
  rcases h10 with rfl | rfl | rfl | rfl | rfl | rfl | rfl | rfl | rfl | rfl
  all_goals
    simp only [Nat.reducePow] at hc h
    (repeat' split) <;> omega
set_option maxHeartbeats 2000000 in
theorem rcost_any (n : Int) (w : World) (hn : -9223372036854775808 ≤ n ∧ n ≤ 9223372036854775807) :
    Calls Tryd.prog 57 #[.int .i64 n] w fun e w' => e = .returned (.int .i64 (Ar.costI n : Int)) ∧ w = w' := by
  by_cases h : 0 ≤ n ∧ n ≤ 4096
  · obtain ⟨k, rfl⟩ : ∃ k : Nat, n = (k : Int) := ⟨n.toNat, by omega⟩
    have hk : k ≤ 4096 := by omega
    have HE : Hid (Ar.costI (k : Int) = Ar.cost k) := Lib.hid (by unfold Ar.costI; rw [if_pos h, Int.toNat_natCast])
    clear h hn
    go_enter Tryd.func57, Tryd.ntmps57
    go_wp2
    go_loop [3] (fun c => ∃ c0 : Nat, c = .int .i64 (c0 : Int) ∧ c0 ≤ 8206 ∧ 1 ≤ c0 ∧ Hid (DblOk k c0)) (fun c => 8300 - (intOf c).toNat)
    case atStart => exact ⟨16, rfl, by omega, by omega, Lib.hid ⟨0, by omega, rfl, .inl rfl⟩⟩
    case round =>
      obtain ⟨c0, rfl, hc, hc1, HJ⟩ := hrel
      by_cases hlt : c0 < k + 8
      · have HS := Lib.hid (dbl_more hk HJ.out hlt)
        have hc2 : c0 * 2 ≤ 8206 := by omega
        clear HJ
        go_wp2
        go_round
        case rel => exact ⟨c0 * 2, by go_num, hc2, by omega, HS⟩
        case measure => simp [intOf]; omega
      · have HS := Lib.hid (dbl_end hk HJ.out hlt)
        clear HJ
        go_wp2
        go_ret
        exact ⟨by rw [HE.out, ← HS.out]; rfl, rfl⟩
  · have HE : Hid (Ar.costI n = 0) := Lib.hid (by unfold Ar.costI; rw [if_neg h])
    by_cases h0 : n < 0
    · clear h
      go_enter Tryd.func57, Tryd.ntmps57
      go_wp2
      go_ret
      exact ⟨by rw [HE.out]; rfl, rfl⟩
    · have h1 : 4096 < n := by omega
      clear h
      go_enter Tryd.func57, Tryd.ntmps57
      go_wp2
      go_ret
      exact ⟨by rw [HE.out]; rfl, rfl⟩
set_option maxHeartbeats 1000000 in
theorem mayArena_any (n : Int) (w : World) :
    Calls Tryd.prog 16 #[.int .i64 n] w fun e w' => e = .returned (.bool (decide (1024 ≤ n) && decide (n ≤ 1048576))) ∧ w = w' := by
  by_cases h : 1024 ≤ n
  · go_enter Tryd.func16, Tryd.ntmps16
    go_wp2
    go_ret
    exact ⟨by simp [h], rfl⟩
  · go_enter Tryd.func16, Tryd.ntmps16
    go_wp2
    go_ret
    refine ⟨?_, rfl⟩
    rw [decide_eq_false (show ¬ 1024 ≤ n by omega)]
    rfl
end Go.Proofs.YtdbaocphglijbaaDoor

/- The document's own arena: Used, Left, at. -/
set_option maxRecDepth 100000
namespace Go.Proofs.YtdbaocphglijbaaDoor
open Go Go.RowKit Go.Shelf
attribute [local go_sem] Oper.semAt_some
def lsP (P : List Rp) : List Bl := P.map Prod.snd
theorem sumC_take {L : List Bl} {k : Nat} (h : k < L.length) : sumC (L.take (k + 1)) = sumC (L.take k) + Ar.cost L[k].2.length := by
  rw [List.take_succ_eq_append_getElem h, sumC_app, sumC_cons, sumC_nil]; rfl
theorem sumC_take_le (L : List Bl) (k : Nat) : sumC (L.take k) ≤ sumC L := by
  have h := congrArg sumC (List.take_append_drop k L)
  rw [sumC_app] at h
  omega
theorem Rp.form {x : Nat → Prop} {r : Rw} {l : List UInt8} {w : World} (h : RK encC x r.v l w) : ∃ ao c, r.v = .slice ao l.length c := by
  obtain ⟨ao, cap, e, _⟩ := h.form
  exact ⟨ao, cap, e⟩
set_option maxHeartbeats 4000000 in
theorem mused_any (x : Nat → Prop) (m B : Nat) (P : List Rp) (w : World) (h : MA x m B P w) (hs : sumC (lsP P) ≤ 1048576) (hl : P.length ≤ 1000000) (he : ∀ b ∈ lsP P, b.2.length ≤ 4096) :
    Calls Tryd.prog 67 #[.pointer (some ⟨m, 0, none⟩)] w fun e w' => e = .returned (.int .i64 (sumC (lsP P) : Int)) ∧ w = w' := by
  obtain ⟨ao, cap, c0, c1, hcap, _, hrow⟩ := h.box
  have HR := Lib.hid hrow
  have HE := Lib.hid h.each
  have HL := Lib.hid he
  have HS := Lib.hid hs
  clear hrow he hs h
  go_enter Tryd.func67, Tryd.ntmps67
  go_wp2
  go_loop [3, 4] (fun n i => ∃ k nn : Nat, i = .int .i64 (k : Int) ∧ n = .int .i64 (nn : Int) ∧ k ≤ P.length ∧ nn ≤ 1048576 ∧ Hid (nn = sumC ((lsP P).take k))) (fun _ i => P.length + 1 - (intOf i).toNat)
  case atStart => exact ⟨0, 0, rfl, rfl, Nat.zero_le _, Nat.zero_le _, Lib.hid rfl⟩
  case round =>
    obtain ⟨k, nn, rfl, rfl, hk, hnn, HN⟩ := hrel
    by_cases hlt : k < P.length
    · obtain ⟨b, off, rfl, hx, d0, d1⟩ := HR.out k hlt
      have hm := HE.out P[k] (List.getElem_mem hlt)
      obtain ⟨ao2, c2, hv⟩ := Rp.form hm.2
      have hk2 : k < (lsP P).length := by simp [lsP]; exact hlt
      have hst := sumC_take hk2
      have hle := sumC_take_le (lsP P) (k + 1)
      have hge : (lsP P)[k].2 = P[k].2.2 := by simp [lsP]
      have hbl := HL.out (lsP P)[k] (List.getElem_mem hk2)
      rw [hge] at hst hbl
      obtain ⟨q, hq⟩ : ∃ q, P[k].2.2.length = q := ⟨_, rfl⟩
      rw [hv, hq] at d1
      rw [hq] at hst hbl
      have hc := rcost_any (q : Int) w (by omega)
      rw [show Ar.costI (q : Int) = Ar.cost q from Ar.costI_nat hbl] at hc
      obtain ⟨cc, hcc⟩ : ∃ cc, Ar.cost q = cc := ⟨_, rfl⟩
      rw [hcc] at hc hst
      have HC := Lib.hid hc
      have HN2 : Hid (nn + cc = sumC ((lsP P).take (k + 1))) := Lib.hid (by rw [hst, HN.out])
      have hb2 : nn + cc ≤ 1048576 := by have := HS.out; have := HN2.out; omega
      clear hc hst hle hge hbl hm hv hq hcc HN
      go_wp2_with (go_at_call 57; refine HC.out.mono ?_; rintro e w' ⟨rfl, rfl⟩)
      go_round
      case rel => exact ⟨k + 1, nn + cc, by go_num, by go_num, by omega, hb2, HN2⟩
      case measure => simp [intOf]; omega
    · obtain rfl : k = P.length := by omega
      have HN2 : Hid (nn = sumC (lsP P)) := Lib.hid (by rw [HN.out, List.take_of_length_le (by simp [lsP])])
      clear HN
      go_wp2
      go_ret
      exact ⟨by rw [← HN2.out]; rfl, rfl⟩
set_option maxHeartbeats 2000000 in
theorem mleft_any (x : Nat → Prop) (m B : Nat) (P : List Rp) (w : World) (h : MA x m B P w) (hB : B ≤ 1048576) (hs : sumC (lsP P) ≤ B) (hl : P.length ≤ 1000000) (he : ∀ b ∈ lsP P, b.2.length ≤ 4096) :
    Calls Tryd.prog 26 #[.pointer (some ⟨m, 0, none⟩)] w fun e w' => e = .returned (.int .i64 ((B - sumC (lsP P) : Nat) : Int)) ∧ ∃ n, w' = w.drewN n := by
  obtain ⟨ao, cap, c0, c1, hcap, _, hrow⟩ := h.box
  have HU := Lib.hid (fun n => mused_any x m B P (w.drewN n) (h.same fun _ _ => rfl) (by omega) hl he)
  obtain ⟨s, hs2⟩ : ∃ s, sumC (lsP P) = s := ⟨_, rfl⟩
  rw [hs2] at hs
  rw [hs2] at HU
  have hw : IntKind.i64.wrap ((B : Int) - (s : Int)) = ((B - s : Nat) : Int) := by rw [IntKind.wrap_i64]; omega
  rw [hs2]
  have HW := Lib.hid hw
  clear hrow he h hs2
  go_enter Tryd.func26, Tryd.ntmps26
  go_wp2
  go_quiet ((go_at_call 67; exact Calls.quiet_of_same ((HU.out _).mono fun _ _ h => ⟨h.1, h.2.symm⟩)))
  go_wp2
  go_ret
  exact ⟨by rw [← HW.out]; rfl, _, rfl⟩
def MatRet (P : List Rp) (z : Int) (w : World) (e : Ending) (w' : World) : Prop := ((∃ (i : Nat) (hi : i < P.length), e = .returned (.int .i64 (i : Int)) ∧ (P[i].2.1 : Int) = z) ∨ (e = .returned (.int .i64 (-1)) ∧ ∀ p ∈ P, (p.2.1 : Int) ≠ z)) ∧ w = w'
set_option maxHeartbeats 4000000 in
theorem mat_any (x : Nat → Prop) (m B : Nat) (P : List Rp) (z : Int) (w : World) (h : MA x m B P w) (hl : P.length ≤ 1000000) :
    Calls Tryd.prog 63 #[.pointer (some ⟨m, 0, none⟩), .int .i64 z] w (MatRet P z w) := by
  obtain ⟨ao, cap, c0, c1, hcap, _, hrow⟩ := h.box
  have HR := Lib.hid hrow
  clear hrow h
  go_enter Tryd.func63, Tryd.ntmps63
  go_wp2
  go_loop [5] (fun i => ∃ k : Nat, i = .int .i64 (k : Int) ∧ k ≤ P.length ∧ Hid (∀ i (h : i < P.length), i < k → (P[i].2.1 : Int) ≠ z)) (fun i => P.length + 1 - (intOf i).toNat)
  case atStart => exact ⟨0, rfl, Nat.zero_le _, Lib.hid fun i h h2 => by omega⟩
  case round =>
    obtain ⟨k, rfl, hk, HN⟩ := hrel
    by_cases hlt : k < P.length
    · obtain ⟨b, off, rfl, hx, d0, d1⟩ := HR.out k hlt
      obtain ⟨q, hq⟩ : ∃ q, P[k].2.1 = q := ⟨_, rfl⟩
      rw [hq] at d0
      by_cases hz : (q : Int) = z
      · have HQ : Hid ((P[k].2.1 : Int) = z) := Lib.hid (by rw [hq]; exact hz)
        have hb : ((q : Int) == z) = true := by rw [hz]; exact beq_self_eq_true z
        clear hq hz HN
        go_wp2
        go_ret
        exact ⟨.inl ⟨k, hlt, rfl, HQ.out⟩, rfl⟩
      · have HQ : Hid (∀ i (h : i < P.length), i < k + 1 → (P[i].2.1 : Int) ≠ z) := Lib.hid fun i h h2 => by
          by_cases e : i = k
          · subst e; rw [hq]; exact hz
          · exact HN.out i h (by omega)
        have hb : ((q : Int) == z) = false := by rw [beq_eq_false_iff_ne]; exact hz
        clear hq hz HN
        go_wp2
        go_round
        case rel => exact ⟨k + 1, by go_num, by omega, HQ⟩
        case measure => simp [intOf]; omega
    · obtain rfl : k = P.length := by omega
      go_wp2
      go_ret
      exact ⟨.inr ⟨rfl, fun p hp => by obtain ⟨i, hi, rfl⟩ := List.mem_iff_getElem.1 hp; exact HN.out i hi hi⟩, rfl⟩
end Go.Proofs.YtdbaocphglijbaaDoor

/- The document's own arena: Free (a row goes). -/
set_option maxRecDepth 100000
namespace Go.Proofs.YtdbaocphglijbaaDoor
open Go Go.RowKit Go.Shelf
attribute [local go_sem] Oper.semAt_some
/-- The blocks that a call has made, beside x. -/
def plus (x : Nat → Prop) (w w' : World) : Nat → Prop := fun k => x k ∨ (w.heap.size ≤ k ∧ k < w'.heap.size)
/-- What an act of the document's own arena leaves: other rows, nothing else changed but its own box. -/
def MRet (x : Nat → Prop) (m B : Nat) (P' : List Rp) (w w' : World) : Prop := MA (plus x w w') m B P' w' ∧ Trn (fun k => k = m) w w'
theorem ownBlock_in {α : Type} {enc : α → List Value} {k : Nat} {e : TypeId} {base : Nat} {v : Value} {l : List α} {W : World} (h : OwnK enc k e base v l W) : ∀ b, v.ownBlock = some b → base ≤ b ∧ b < W.heap.size := fun b hb => World.ownsRow.lt h b hb
/-- New rows are laid into the box. -/
theorem MA.put {x : Nat → Prop} {m B : Nat} {P P' : List Rp} {w w1 : World} {v : Value} (h : MA x m B P w) (hb : Below w.heap.size w w1) (hv : OwnK encRw 2 52 w.heap.size v (P'.map Prod.fst) w1) (he : ∀ p ∈ P', p.1.h = p.2.1 ∧ RK encC (plus x w w1) p.1.v p.2.2 w1) :
    MRet x m B P' w (w1.setCell ⟨m, 1, none⟩ v) := by
  obtain ⟨v0, h1, h2⟩ := h.ex
  have hs : (w1.setCell ⟨m, 1, none⟩ v).heap.size = w1.heap.size := by simp [World.setCell]
  have hm1 : Blk w1 m [.int .i64 (B : Int), v0] 33 := h1.kept (hb.block m h1.lt)
  have hT : Trn (fun k => k = m) w (w1.setCell ⟨m, 1, none⟩ v) := (Trn.of_below hb).trans (Trn.set hm1 (.inl rfl) 1 v)
  refine ⟨⟨⟨v, hm1.set 1 v, ?_⟩, .inl h.mine, fun p hp => ⟨(he p hp).1, ?_⟩⟩, hT⟩
  · have hr : RK encRw (fun k => w.heap.size ≤ k ∧ k < w1.heap.size) v (P'.map Prod.fst) w1 := RK.own hv (ownBlock_in hv)
    refine (hr.same (W' := w1.setCell ⟨m, 1, none⟩ v) fun b hb2 => Below.heap_setCell w1 ⟨m, 1, none⟩ v b (fun e => by
      have h3 : b = m := e
      have := h1.lt
      have := hb2.1
      omega)).mono fun b hb2 => .inr ⟨hb2.1, by rw [hs]; exact hb2.2⟩
  · obtain ⟨ao, cap, e, hc, hf⟩ := (he p hp).2.form
    refine ⟨ao, cap, e, hc, fun j u hu => ?_⟩
    obtain ⟨b, off, e, hx, c⟩ := hf j u hu
    refine ⟨b, off, e, by unfold plus at hx ⊢; rw [hs]; exact hx, ?_⟩
    have hbm : b ≠ m := fun e2 => by
      subst e2
      have hu2 : ∃ c, u = encB c := by
        rw [flatC] at hu
        obtain ⟨c, _, hc⟩ := List.mem_map.1 (List.mem_of_getElem? hu)
        exact ⟨c, hc.symm⟩
      obtain ⟨c', rfl⟩ := hu2
      have h3 : w1.cell? ⟨b, off + j, none⟩ = [Value.int .i64 (B : Int), v0].toArray[off + j]? := by
        show (match w1.heap[b]? with | some (.cells c _ _) => c[off + j]? | _ => none) = _
        rw [show w1.heap[b]? = _ from hm1]
      rw [c] at h3
      exact absurd (hm1.symm.trans hm1) (fun _ => by
        match hq : off + j, h3 with
        | 0, h3 => simp [encB] at h3
        | 1, h3 =>
          simp only [List.getElem?_toArray, List.getElem?_cons_succ, List.getElem?_cons_zero, Option.some.injEq] at h3
          obtain ⟨ao', cap', e', _⟩ := h2.form
          rw [e'] at h3
          cases h3
        | n + 2, h3 => simp at h3)
    rw [cell_same (Below.heap_setCell w1 ⟨m, 1, none⟩ v b hbm)]
    exact c
theorem each_mid {P1 P2 : List Rp} {p : Rp} {F : Rp → Prop} (h : ∀ q ∈ P1 ++ p :: P2, F q) : ∀ q ∈ P1 ++ P2, F q := fun q hq => h q (by rcases List.mem_append.1 hq with h | h <;> simp [h])
end Go.Proofs.YtdbaocphglijbaaDoor

/- append in a region that draws its order: rows of the region's own are kept (a relation for the law of slots). -/
set_option maxRecDepth 100000
namespace Go.Proofs.YtdbaocphglijbaaDoor
open Go Go.RowKit Go.Shelf
theorem eval_tmp (a : Act) (k : Nat) : a.eval (.tmp k) = a.tmps[k]?.getD undef := by simp [Act.eval]
/-- Each predicate stands when the world goes on by le. -/
def StableBy (le : World → World → Prop) : List (Value → World → Prop) → Prop
  | [] => True
  | p :: l => (∀ v x y, le x y → p v x → p v y) ∧ StableBy le l
theorem slotPhi_by {le : World → World → Prop} : ∀ {l : List (Value → World → Prop)}, StableBy le l → ∀ j v x y, le x y → slotPhi l j v x → slotPhi l j v y
  | [], _, _, _, _, _, _, _ => trivial
  | _p :: _l, h, 0, v, x, y, hxy, hp => h.1 v x y hxy hp
  | _p :: l, h, j + 1, v, x, y, hxy, hp => slotPhi_by (l := l) h.2 j v x y hxy hp
def rowsKept {α : Type} (enc : α → List Value) (k : Nat) (e : TypeId) (base : Nat) (L : List α) (W W' : World) : Prop := ∀ v j, OwnK enc k e base v (L.take j) W → OwnK enc k e base v (L.take j) W'
def leRow {α : Type} (enc : α → List Value) (k : Nat) (e : TypeId) (base : Nat) (L : List α) (W W' : World) : Prop := Below base W W' ∧ rowsKept enc k e base L W W'
section
variable {α : Type} {enc : α → List Value} {k : Nat} {e : TypeId} {base : Nat} {L : List α}
theorem leRow_refl (W : World) : leRow enc k e base L W W := ⟨Below.refl _ W, fun _ _ h => h⟩
theorem leRow_trans {x y z : World} (h : leRow enc k e base L x y) (g : leRow enc k e base L y z) : leRow enc k e base L x z := ⟨h.1.trans g.1, fun v j o => g.2 v j (h.2 v j o)⟩
theorem leRow_of {x y : World} (h : slotLe x y) (hb : base ≤ x.heap.size) : leRow enc k e base L x y := ⟨h.mono hb, fun _ _ o => ownK_below o h⟩
/-- Cells that are written as the long list says keep all its beginnings. -/
theorem kept_take {F cur new : List Value} {a q : Nat} (h1 : ∀ i, i < a → new[i]? = F[i]?) (h2 : ∀ i, a ≤ i → new[i]? = cur[i]?) (hc : cur.take q = F.take q) : new.take q = F.take q := by
  apply List.ext_getElem?
  intro i
  rw [List.getElem?_take, List.getElem?_take]
  split
  · rename_i hi
    by_cases ha : i < a
    · exact h1 i ha
    · have h3 := congrArg (fun l => l[i]?) hc
      simp only [List.getElem?_take, if_pos hi] at h3
      rw [h2 i (by omega), h3]
  · rfl
theorem flat_prefix {l L : List α} (h : l <+: L) : ∃ R, L.flatMap enc = l.flatMap enc ++ R := by
  obtain ⟨t, rfl⟩ := h
  exact ⟨t.flatMap enc, List.flatMap_append⟩
theorem run_apKeep {P : Program} (hk : ∀ a, (enc a).length = k) (h0 : 0 < k) (henc : ∀ a, ∀ u ∈ enc a, u.oneCell' = true) {x : Nat → Prop} (w : World) (t ty : TypeId) (z : Value) (bytes : Nat) (h1 : P.underlying t = some (.slice e))
    (h2 : (P.info? e).map (fun i => (i.zero, i.size, i.bytes)) = some (some z, k, bytes)) (hz : z.cells.size = k) (v : Value) (l : List α) (hown : OwnK enc k e base v l w) (yv : Value) (news : List α) (hy : RK enc x yv news w) (b1 : l.length + news.length ≤ 1000000) (b2 : bytes ≤ 1000) (hb : base ≤ w.heap.size) (hL : (l ++ news) <+: L) :
    ∃ v' w', (Builtin.append_ #[t, t] ty #[v, yv]).run P w = .ok v' w' ∧ OwnK enc k e base v' (l ++ news) w' ∧ leRow enc k e base L w w' ∧ ∀ a', (l = [] → ∀ b, news = [b] → b = a') → ∀ g, Blk w g (enc a') e → Blk w' g (enc a') e := by
  obtain ⟨v', w', hrun, ho, hg, hat⟩ := run_apRK (P := P) hk h0 henc w base t ty e z bytes h1 h2 hz v l hown yv news hy b1 b2 hb
  suffices hh : rowsKept enc k e base L w w' ∧ ∀ a', (l = [] → ∀ b, news = [b] → b = a') → ∀ g, Blk w g (enc a') e → Blk w' g (enc a') e from ⟨v', w', hrun, ho, ⟨below_ownK hown hg hb, hh.1⟩, hh.2⟩
  obtain ⟨i, hi, hz0, hz1, hz2⟩ := info_parts h2
  have hown2 := hown
  rcases hown2.2 with ⟨rfl, hn⟩ | ⟨g, cap, cur, rfl, hbg, hg0, hnc, hcm, hcs, htake⟩
  · exact ⟨fun v0 j o => ownK_grown (row := none) o hg (fun _ _ e => by cases e), fun a' _ g hB => hB.kept (hg.block g hB.lt (fun e => by cases e))⟩
  obtain ⟨ao, cap', rfl, hcap', hc⟩ := hy.form
  by_cases hn : news = []
  · subst hn
    have hr : (Builtin.append_ #[t, t] ty #[.slice (some ⟨g, 0, none⟩) l.length cap, .slice ao ([] : List α).length cap']).run P w = .ok (.slice (some ⟨g, 0, none⟩) l.length cap) w := by
      cases ao with
      | none => exact run_append_nothing (P := P) w t t ty e i h1 hi _ l.length cap hnc _ (Src.ofNil w h1 cap')
      | some ad => exact run_append_nothing (P := P) w t t ty e i h1 hi _ l.length cap hnc _ (Src.ofSlice _ h1 ad 0 cap' [] (by simp) (fun j v hj => by simp at hj) (by simp))
    rw [hr] at hrun
    cases hrun
    exact ⟨fun _ _ o => o, fun _ _ _ hB => hB⟩
  have hpos : 0 < news.length := List.length_pos_iff.2 hn
  have hfl : (news.flatMap enc).length = news.length * k := flat_len enc k hk news
  have hll : (l.flatMap enc).length = l.length * k := flat_len enc k hk l
  obtain ⟨b, off, rfl, _, _⟩ := hc 0 ((news.flatMap enc)[0]'(by rw [hfl]; exact Nat.mul_pos hpos h0)) (List.getElem?_eq_getElem _)
  have hnew : ∀ j u, (news.flatMap enc)[j]? = some u → w.cell? ((⟨b, off, none⟩ : Addr).add j) = some u := fun j u hu => by
    obtain ⟨b', off', e', _, c⟩ := hc j u hu
    cases e'
    have e2 : (⟨b, off, none⟩ : Addr).add j = ⟨b, off + j, none⟩ := by unfold Addr.add; split <;> simp_all
    rw [e2]; exact c
  have hblk : Blk w g cur.toList e := by show w.heap[g]? = some (.cells cur.toList.toArray e (0, 0)); rw [hg0]
  have hlen : cur.toList.length = cap * k := by rw [Array.length_toList]; exact hcs
  have hmax : l.length + news.length ≤ maxLen := Nat.le_trans b1 (by unfold maxLen; decide)
  by_cases hroom : l.length + news.length ≤ cap
  · have hmk : (l.length + news.length) * k ≤ cap * k := Nat.mul_le_mul_right k hroom
    rw [Nat.add_mul] at hmk
    have hcell : ∀ j, j < (news.flatMap enc).length → (w.cell? ⟨g, 0 + l.length * i.size + j, none⟩).isSome = true := fun j hj => by
      rw [hblk.cell (i := 0 + l.length * i.size + j) (v := cur.toList[0 + l.length * i.size + j]'(by rw [hlen, hz1]; omega)) (List.getElem?_eq_getElem _)]
      rfl
    have hr := run_append_room_cells (P := P) w t ty e i h1 hi g 0 l.length cap ⟨b, off, none⟩ news.length cap' (news.flatMap enc) (by rw [hfl, hz1]) hnew (fun u hu => by obtain ⟨a, _, ha⟩ := List.mem_flatMap.1 hu; exact henc a u ha) hroom hcell (fun j _ => hblk.frozen _)
    rw [hr] at hrun
    cases hrun
    rw [Nat.zero_add, hz1]
    obtain ⟨hB, hT⟩ := Blk.setCells (news.flatMap enc) (l.length * k) w cur.toList hblk (by rw [hlen, hfl]; omega)
    refine ⟨fun v0 j o => ?_, fun a' ha' g' hB' => ?_⟩
    case refine_2 =>
      by_cases hgg : g' = g
      · subst hgg
        have h5 := hB'.cells hblk
        have h6 : k = cap * k := by rw [← hlen, ← h5, hk]
        have h7 : cap = 1 := by
          rcases Nat.lt_or_ge cap 1 with h | h
          · obtain rfl : cap = 0 := by omega
            omega
          · rcases Nat.lt_or_ge 1 cap with h | h
            · have := Nat.mul_le_mul_right k h
              omega
            · omega
        have h8 : l = [] := List.length_eq_zero_iff.1 (by omega)
        obtain ⟨b', hb'⟩ := List.length_eq_one_iff.1 (show news.length = 1 by omega)
        obtain rfl := ha' h8 b' hb'
        subst h8 hb'
        rw [← h5] at hB
        simp only [List.length_nil, Nat.zero_mul, List.take_zero, List.nil_append, Nat.zero_add, List.flatMap_cons, List.flatMap_nil, List.append_nil, List.drop_length] at hB ⊢
        exact hB
      · exact hB'.kept (hT.block g' hB'.lt hgg)
    rcases o.2 with ⟨rfl, hn0⟩ | ⟨g0, cap0, cur0, rfl, hbg0, hg00, hnc0, hcm0, hcs0, ht0⟩
    · exact ⟨o.1, .inl ⟨rfl, hn0⟩⟩
    · by_cases hgg : g0 = g
      · subst hgg
        rw [hg0] at hg00
        injection hg00 with hg00
        injection hg00 with hcc _
        subst hcc
        refine ⟨o.1, .inr ⟨g0, cap0, _, rfl, hbg0, hB, hnc0, hcm0, ?_, ?_⟩⟩
        · have h9 : cap * k = cap0 * k := hcs.symm.trans hcs0
          rw [List.size_toArray, List.length_append, List.length_append, List.length_take, List.length_drop, hlen, hfl]
          omega
        · obtain ⟨R, hR⟩ := flat_prefix (enc := enc) hL
          have hF : (L.take j).flatMap enc = (L.flatMap enc).take ((L.take j).length * k) := by
            have h3 : L.flatMap enc = (L.take j).flatMap enc ++ (L.drop j).flatMap enc := by rw [← List.flatMap_append, List.take_append_drop]
            rw [h3, List.take_left' (flat_len enc k hk _)]
          rw [hF] at ht0
          rw [hF]
          have htk : cur.toList.take (l.length * k) = l.flatMap enc := htake
          have hnl : (cur.toList.take (l.length * k) ++ news.flatMap enc) = (l ++ news).flatMap enc := by rw [htk, List.flatMap_append]
          have hnll : ((l ++ news).flatMap enc).length = l.length * k + news.length * k := by rw [List.flatMap_append, List.length_append, hll, hfl]
          simp only [List.toList_toArray]
          refine kept_take (a := l.length * k + news.length * k) (fun i hi2 => ?_) (fun i hi2 => ?_) ht0
          · rw [hnl, List.getElem?_append_left (by rw [hnll]; exact hi2), hR, List.getElem?_append_left (by rw [hnll]; exact hi2)]
          · rw [hnl, List.getElem?_append_right (by rw [hnll]; exact hi2), List.getElem?_drop, hnll, hfl]
            congr 1
            omega
      · refine ⟨o.1, .inr ⟨g0, cap0, cur0, rfl, hbg0, ?_, hnc0, hcm0, hcs0, ht0⟩⟩
        exact (hT.block g0 (Array.getElem?_eq_some_iff.1 hg00).1 hgg).trans hg00
  · have hlim : (l.length + news.length) * bytes ≤ 140737488355328 := Nat.le_trans (Nat.mul_le_mul b1 b2) (by decide)
    have hr := run_append_grow (P := P) w t ty e i z h1 hi hz0 ⟨g, 0, none⟩ l.length cap (l.flatMap enc) (by rw [hll, hz1]) (fun j u hj => World.ownsRow.cells hown (g := g) rfl j u hj) ⟨b, off, none⟩ news.length cap' (news.flatMap enc) (by rw [hfl, hz1]) hnew (by omega) (by simp only [maxLen] at hmax; omega) (growslice_fits (by omega) (by rw [hz2]; exact hlim))
    rw [hr] at hrun
    cases hrun
    have hbb : Below w.heap.size w (w.drew.alloc (.cells ((l.flatMap enc).toArray ++ (news.flatMap enc).toArray ++ Builtin.zeroCells z.cells (grownCap w (l.length + news.length) cap e - (l.length + news.length))) e)) := ((Below.refl _ w).drew).alloc (Nat.le_refl _) _
    exact ⟨fun _ _ o => ownK_below o hbb, fun _ _ g' hB => hB.kept (hbb.block g' hB.lt)⟩
/-- At the operation. -/
theorem wp_apKeep {P : Program} (hk : ∀ a, (enc a).length = k) (h0 : 0 < k) (henc : ∀ a, ∀ u ∈ enc a, u.oneCell' = true) {x : Nat → Prop} {w : World} {t : TypeId} {z : Value} {bytes : Nat} (h1 : P.underlying t = some (.slice e))
    (h2 : (P.info? e).map (fun i => (i.zero, i.size, i.bytes)) = some (some z, k, bytes)) (hz : z.cells.size = k) (b2 : bytes ≤ 1000) {o : Oper} {a : Act} {K : Act → World → Prop} {Q : Exit → Act → World → Prop}
    (s y : Operand) (hop : o.op = Op.call { callee := Callee.builtin Builtin.append, args := #[s, y], argTypes := #[t, t] })
    (v : Value) (l : List α) (hs : a.eval s = v) (hown : OwnK enc k e base v l w) (yv : Value) (news : List α) (hy : a.eval y = yv) (hr : RK enc x yv news w) (b1 : l.length + news.length ≤ 1000000) (hb : base ≤ w.heap.size) (hL : (l ++ news) <+: L)
    (hK : ∀ v' w', OwnK enc k e base v' (l ++ news) w' → leRow enc k e base L w w' → (∀ a', (l = [] → ∀ b, news = [b] → b = a') → ∀ g, Blk w g (enc a') e → Blk w' g (enc a') e) → K (a.put o.dst v') w') : Oper.wp P o a w K Q := by
  obtain ⟨v', w', hrun, r1, r2, r3⟩ := run_apKeep (P := P) (base := base) (L := L) hk h0 henc w t o.type z bytes h1 h2 hz v l hown yv news hr b1 b2 hb hL
  unfold Oper.wp
  simp [execOp, hop, resolve, invoke, builtin, hs, hy, hrun, Result.andThen]
  exact hK v' w' r1 r2 r3
/-- append([]T{}, y...): what was there is left alone. -/
theorem run_litRK {P : Program} (hk : ∀ a, (enc a).length = k) (h0 : 0 < k) {x : Nat → Prop} (w : World) (t ty : TypeId) (z : Value) (bytes : Nat) (h1 : P.underlying t = some (.slice e))
    (h2 : (P.info? e).map (fun i => (i.zero, i.size, i.bytes)) = some (some z, k, bytes)) (hz : z.cells.size = k) (g : Nat) (hown : OwnK enc k e base (.slice (some ⟨g, 0, none⟩) 0 0) [] w) (yv : Value) (news : List α) (hy : RK enc x yv news w) (b1 : news.length ≤ 1000000) (b2 : bytes ≤ 1000) (hb : base ≤ w.heap.size) :
    ∃ v' w', (Builtin.append_ #[t, t] ty #[.slice (some ⟨g, 0, none⟩) 0 0, yv]).run P w = .ok v' w' ∧ OwnK enc k e base v' news w' ∧ Below w.heap.size w w' := by
  obtain ⟨ao, cap, rfl, hcap, hc⟩ := hy.form
  obtain ⟨i, hi, hz0, hz1, hz2⟩ := info_parts h2
  by_cases hn : news = []
  · subst hn
    refine ⟨_, _, ?_, hown, Below.refl _ w⟩
    cases ao with
    | none => exact run_append_nothing (P := P) w t t ty e i h1 hi _ 0 0 (Nat.le_refl _) _ (Src.ofNil w h1 cap)
    | some ad => exact run_append_nothing (P := P) w t t ty e i h1 hi _ 0 0 (Nat.le_refl _) _ (Src.ofSlice _ h1 ad 0 cap [] (by simp) (fun j v hj => by simp at hj) (by simp))
  · have hpos : 0 < news.length := List.length_pos_iff.2 hn
    have hfl : (news.flatMap enc).length = news.length * k := flat_len enc k hk news
    obtain ⟨b, off, rfl, _, _⟩ := hc 0 ((news.flatMap enc)[0]'(by rw [hfl]; exact Nat.mul_pos hpos h0)) (List.getElem?_eq_getElem _)
    have hnew : ∀ j u, (news.flatMap enc)[j]? = some u → w.cell? ((⟨b, off, none⟩ : Addr).add j) = some u := fun j u hu => by
      obtain ⟨b', off', e', _, c⟩ := hc j u hu
      cases e'
      have e2 : (⟨b, off, none⟩ : Addr).add j = ⟨b, off + j, none⟩ := by unfold Addr.add; split <;> simp_all
      rw [e2]; exact c
    have hlim : news.length * bytes ≤ 140737488355328 := Nat.le_trans (Nat.mul_le_mul b1 b2) (by decide)
    have hmax : news.length ≤ maxLen := Nat.le_trans b1 (by unfold maxLen; decide)
    have hr := run_append_grow (P := P) w t ty e i z h1 hi hz0 ⟨g, 0, none⟩ 0 0 [] (by simp) (fun j v hj => by simp at hj) ⟨b, off, none⟩ news.length cap (news.flatMap enc) (by rw [hfl, hz1]) hnew (by omega) (by simp only [maxLen] at hmax; omega) (growslice_fits (by omega) (by rw [hz2]; simpa using hlim))
    simp only [Nat.zero_add] at hr
    have hge := grownCap_ge w news.length 0 e
    have hcm := grownCap_le_maxLen w news.length 0 e hmax
    refine ⟨_, _, hr, ⟨hfl, .inr ⟨w.heap.size, _, _, rfl, hb, heap_alloc_new w.drew _, hge, hcm, ?_, ?_⟩⟩, (Below.refl _ w).drew.alloc (Nat.le_refl _) _⟩
    · simp only [Array.size_append, List.size_toArray, List.length_nil, size_zeroCells, hz, hfl, Nat.zero_add, ← Nat.add_mul]
      congr 1
      omega
    · simp only [Array.toList_append, List.nil_append]
      rw [← hfl]
      exact List.take_left
theorem wp_litRK {P : Program} (hk : ∀ a, (enc a).length = k) (h0 : 0 < k) {x : Nat → Prop} {w : World} {t : TypeId} {z : Value} {bytes : Nat} (h1 : P.underlying t = some (.slice e))
    (h2 : (P.info? e).map (fun i => (i.zero, i.size, i.bytes)) = some (some z, k, bytes)) (hz : z.cells.size = k) (b2 : bytes ≤ 1000) {o : Oper} {a : Act} {K : Act → World → Prop} {Q : Exit → Act → World → Prop}
    (s y : Operand) (hop : o.op = Op.call { callee := Callee.builtin Builtin.append, args := #[s, y], argTypes := #[t, t] })
    (hs : ∃ g, a.eval s = .slice (some ⟨g, 0, none⟩) 0 0 ∧ OwnK enc k e base (.slice (some ⟨g, 0, none⟩) 0 0) [] w) (yv : Value) (news : List α) (hy : a.eval y = yv) (hr : RK enc x yv news w) (b1 : news.length ≤ 1000000) (hb : base ≤ w.heap.size)
    (hK : ∀ v' w', OwnK enc k e base v' news w' → Below w.heap.size w w' → K (a.put o.dst v') w') : Oper.wp P o a w K Q := by
  obtain ⟨g, hs, hown⟩ := hs
  obtain ⟨v', w', hrun, r1, r2⟩ := run_litRK (P := P) (base := base) hk h0 w t o.type z bytes h1 h2 hz g hown yv news hr b1 b2 hb
  unfold Oper.wp
  simp [execOp, hop, resolve, invoke, builtin, hs, hy, hrun, Result.andThen]
  exact hK v' w' r1 r2
/-- Rows of the long list are kept, and a literal of one element too. -/
def leRow1 (enc : α → List Value) (k : Nat) (e : TypeId) (base : Nat) (L : List α) (r : α) (W W' : World) : Prop := leRow enc k e base L W W' ∧ ∀ g, Blk W g (enc r) e → Blk W' g (enc r) e
theorem leRow1_refl {r : α} (W : World) : leRow1 enc k e base L r W W := ⟨leRow_refl W, fun _ h => h⟩
theorem leRow1_trans {r : α} {x y z : World} (h : leRow1 enc k e base L r x y) (g : leRow1 enc k e base L r y z) : leRow1 enc k e base L r x z := ⟨leRow_trans h.1 g.1, fun i o => g.2 i (h.2 i o)⟩
theorem leRow1_of {r : α} {x y : World} (h : slotLe x y) (hb : base ≤ x.heap.size) : leRow1 enc k e base L r x y := ⟨leRow_of h hb, fun g o => o.kept (h.block g o.lt)⟩
theorem RK.blk {r : α} {W : World} {g : Nat} (h : Blk W g (enc r) e) : RK enc (fun _ => True) (.slice (some ⟨g, 0, none⟩) 1 1) [r] W :=
  ⟨some ⟨g, 0, none⟩, 1, rfl, Nat.le_refl _, fun j u hu => ⟨g, 0, rfl, trivial, by
    rw [List.flatMap_cons, List.flatMap_nil, List.append_nil] at hu
    rw [Nat.zero_add]
    exact h.cell hu⟩⟩
end
end Go.Proofs.YtdbaocphglijbaaDoor

/- A region that draws its order, in a round of a loop over a function, whose operations only read: one walk in the order of the text serves every order. -/
namespace Go.Proofs.YtdbaocphglijbaaDoor
open Go
section
variable {F : Fence} {n : Nat} {P : Program} {ops : Array Oper} {md : Region.Mode} {C : World → Prop}

/-- No operation of the list is a defer statement. -/
def noDefer (ops : Array Oper) : Bool := ops.all fun o => match o.op with | .defer _ => false | _ => true

theorem noDefer_spec (h : noDefer ops = true) {i : Nat} {o : Oper} (hi : ops[i]? = some o) : ∀ c, o.op ≠ .defer c := by
  intro c hc
  unfold noDefer at h
  rw [Array.all_eq_true'] at h
  have := h o (Array.mem_of_getElem? hi)
  rw [hc] at this
  cases this

theorem wpIn_of_quiet_r {o : Oper} {a : Act} {K : Act → Prop} {K' : Act → World → Prop} {Q' : Exit → Act → World → Prop} {w : World} (hnd : ∀ c, o.op ≠ .defer c) (hw : C w) (h : ∀ a w', C w' → K a → K' a w')
    (ha : o.askedIn F P a C) (hh : o.quietIn F n P a C K) : o.wpIn F n P a w K' Q' := by
  obtain ⟨v, h1, h2⟩ := hh
  have h3 := h1 w hw
  unfold Oper.quietAtIn at h3
  unfold Oper.wpIn
  refine ⟨ha w hw, ?_⟩
  rw [Oper.semAt_eq _ _ _ hnd]
  generalize (execOp a.eval o).run P w = r at *
  cases r with
  | ok x w' =>
    cases x <;> simp only [Oper.quietUponIn] at h3 <;> simp only [Oper.uponIn]
    case value u =>
      obtain ⟨e1, e2⟩ := h3
      rw [e1, e2]
      exact h _ _ hw h2
    case skip =>
      obtain ⟨e1, e2⟩ := h3
      rw [e1, ← e2]
      exact h _ _ hw h2
    case enter f args =>
      obtain ⟨e1, hd, hc⟩ := h3
      rw [e1]
      exact ⟨hd, hc.mono fun e w'' ⟨he, hw''⟩ => by subst he; exact h _ _ hw'' h2⟩
  | halt x w' => simp only [Oper.quietUponIn] at h3

theorem wpOpIn_of_qOpIn_r {i : Nat} {a : Act} {K : Act → Prop} {K' : Act → World → Prop} {Q' : Exit → Act → World → Prop} {w : World} (hnd : noDefer ops = true) (hC : C w) (h : ∀ a w', C w' → K a → K' a w')
    (hh : qOpIn F n P ops C i K a) : wpOpIn F n P ops Q' i K' a w := by
  unfold qOpIn at hh
  unfold wpOpIn
  split
  · rename_i ho; simp only [ho] at hh; exact h _ _ hC hh
  · rename_i o ho
    simp only [ho] at hh
    obtain ⟨ha, hh⟩ := hh
    split
    · rename_i hw; simp only [hw, if_true] at hh; exact wpIn_of_quiet_r (noDefer_spec hnd ho) hC h ha hh
    · rename_i hw; simp only [hw] at hh; exact ⟨ha w hC, h _ _ hC hh⟩

theorem wpAnyIn_of_quiet_r {Q : Act → Prop} {Q' : Exit → Act → World → Prop} (hnd : noDefer ops = true) (hQ : ∀ a w, C w → Q a → Q' .normal a w) : ∀ (fuel : Nat) (listed : Array Bool) (a : Act) (w : World), C w →
    wpAnyQIn F n P md ops C Q fuel listed a → wpAnyIn F n P md ops Q' fuel listed a w
  | 0, _, _, _, hw, h => ⟨h.1, hQ _ _ hw h.2⟩
  | fuel + 1, _, _, _, hw, h => ⟨fun h0 => hQ _ _ hw (h.1 h0), fun i hi => wpOpIn_of_qOpIn_r hnd hw (fun a' w' hw' => wpAnyIn_of_quiet_r hnd hQ fuel _ a' w' hw') (h.2 i hi)⟩

theorem wpIn_region_quiet_r {id : Nat} {Q : Exit → Act → World → Prop} {a : Act} {w : World} (hnd : noDefer ops = true) (hm : P.follows .mixedOrders = true) (hB : Region.lexB .any ops = true) (hC : C { w with drawn := w.drawn + 1 })
    (h : wpQuietIn F n P ops C (fun a' => ∀ w', C w' → Q .normal a' w') ops.toList a) : (Code.region id ops true).wpIn F n P Q a w := by
  simp only [Region.lexB, Bool.and_eq_true] at hB
  refine wpIn_region_any hm (wpAnyIn_of_quiet_r (Q := fun a' => ∀ w', C w' → Q .normal a' w') hnd (fun _ w' hw' h => h w' hw') _ _ _ _ hC ?_)
  have := wpAnyQIn_lex (F := F) (n := n) (C := C) (md := .any) hB.1 ops.toList 0 (Array.replicate ops.size false) a (by simp) (by simpa using hB.2) h
  simpa using this

/-- At the class: some draws. -/
theorem wpIn_region_quiet_rlit {id : Nat} {Q : Exit → Act → World → Prop} {a : Act} {w : World} {l : List Oper} (hnd : noDefer l.toArray = true) (hm : P.follows .mixedOrders = true) (hB : Region.lexB .any l.toArray = true)
    (h : wpQuietIn F n P l.toArray (fun w' => ∃ n, w' = w.drewN n) (fun a' => ∀ w', (∃ n, w' = w.drewN n) → Q .normal a' w') l a) : (Code.region id l.toArray true).wpIn F n P Q a w :=
  wpIn_region_quiet_r (C := fun w' => ∃ n, w' = w.drewN n) hnd hm hB ⟨1, rfl⟩ (by simpa using h)
/-- At whatever class. -/
theorem wpIn_region_class {id : Nat} {Q : Exit → Act → World → Prop} {a : Act} {w : World} {l : List Oper} (C : World → Prop) (hnd : noDefer l.toArray = true) (hm : P.follows .mixedOrders = true) (hB : Region.lexB .any l.toArray = true) (hC : C w.drew)
    (h : wpQuietIn F n P l.toArray C (fun a' => ∀ w', C w' → Q .normal a' w') l a) : (Code.region id l.toArray true).wpIn F n P Q a w :=
  wpIn_region_quiet_r (C := C) hnd hm hB hC (by simpa using h)
end

/-- A world that has grown out of W: what lay in W lies as it lay. -/
structure Grew (W : World) : Type where
  w : World
  below : RowKit.Below W.heap.size W w

instance Grew.some_world (W : World) : Nonempty (Grew W) := ⟨⟨W, RowKit.Below.refl _ W⟩⟩
theorem Grew.cell {W : World} {a : Addr} {v : Value} (h : W.cell? a = some v) (i : Grew W) : i.w.cell? a = some v := by
  have hl : a.block < W.heap.size := by
    rcases Nat.lt_or_ge a.block W.heap.size with h' | h'
    · exact h'
    · simp [World.cell?, Array.getElem?_eq_none h'] at h
  exact (i.below.cell hl).trans h
theorem Grew.calls {F : Fence} {n : Nat} {P : Program} {f : FuncId} {args : Array Value} {W : World} (i : Grew W) (v : Value) (h : CallsIn F n P f args i.w fun e w' => e = .returned v ∧ RowKit.Below i.w.heap.size i.w w') :
    CallsIn F n P f args i.w fun e w'' => e = .returned v ∧ ∃ j : Grew W, w'' = j.w :=
  h.mono fun _ _ ⟨he, hb⟩ => ⟨he, ⟨_, i.below.trans (hb.mono i.below.size)⟩, rfl⟩
theorem wpIn_region_grew {F : Fence} {n : Nat} {P : Program} {id : Nat} {Q : Exit → Act → World → Prop} {a : Act} {W : World} {l : List Oper} (hnd : noDefer l.toArray = true) (hm : P.follows .mixedOrders = true) (hB : Region.lexB .any l.toArray = true)
    (h : wpQuietIn F n P l.toArray (fun w' => ∃ i : Grew W, w' = i.w) (fun a' => ∀ w', (∃ i : Grew W, w' = i.w) → Q .normal a' w') l a) : (Code.region id l.toArray true).wpIn F n P Q a W :=
  wpIn_region_class (fun w' => ∃ i : Grew W, w' = i.w) hnd hm hB ⟨⟨W.drew, (RowKit.Below.refl _ W).drew⟩, rfl⟩ h
end Go.Proofs.YtdbaocphglijbaaDoor

/- The law of slots in a round of a range over a function. -/
namespace Go.Proofs.YtdbaocphglijbaaDoor
open Go

theorem rowsIn_wide {l n : Nat} {P : Program} {row : String} {args : Array Value} {w : World} {R : Value → World → Prop} (h : Rows P row args w R) : RowsIn (Fence.wide.inRound l) n P row args w R := by
  intro c cs _
  obtain ⟨v, w', r, s⟩ := h c cs
  exact ⟨v, w', r, (stepsIn_wide (P := P)).2 s⟩
theorem wpIn_of_wp {l n : Nat} {P : Program} {o : Oper} {a : Act} {w : World} {K : Act → World → Prop} {Q : Exit → Act → World → Prop} (hd : ∀ c, o.op ≠ .defer c) (h : o.wp P a w K Q) : o.wpIn (Fence.wide.inRound l) n P a w K Q := by
  refine ⟨fun _ _ => trivial, ?_⟩
  rw [Oper.semAt_eq _ _ _ hd]
  unfold Oper.wp at h
  generalize (execOp a.eval o).run P w = res at h
  cases res with
  | ok x w' =>
    cases x with
    | value v => exact h
    | skip => exact h
    | defer d => exact h
    | enter f args => exact ⟨fun e => by simp [Fence.wide] at e, CallsIn.inRound l (callsIn_wide.2 h)⟩
    | row row args => exact ⟨fun e => by simp [Fence.wide] at e, rowsIn_wide h⟩
    | _ => first | exact h.elim | exact h
  | halt x w' =>
    cases x with
    | panic v => exact h
    | _ => first | exact h.elim | exact h

theorem countP_lt {l : List Nat} {p q : Nat → Bool} {i : Nat} (hi : i ∈ l) (hpq : ∀ j ∈ l, p j = true → q j = true) (hq : q i = true) (hp : p i = false) : l.countP p < l.countP q := by
  induction l with
  | nil => cases hi
  | cons x l ih =>
    rw [List.countP_cons, List.countP_cons]
    rcases List.mem_cons.1 hi with rfl | hi
    · have := List.countP_mono_left (p := p) (q := q) (l := l) (fun j hj => hpq j (List.mem_cons_of_mem _ hj))
      rw [hq, hp]
      simp
      omega
    · have h1 := ih hi (fun j hj => hpq j (List.mem_cons_of_mem _ hj))
      have h2 := hpq x (List.mem_cons_self ..)
      cases hpx : p x <;> cases hqx : q x <;> simp_all <;> omega

section
variable {P : Program} {ops : Array Oper} {Q : Exit → Act → World → Prop} {le : World → World → Prop} {φ : Nat → Value → World → Prop} {a0 : Act} {w0 : World}
theorem wpAnyIn_of_steps {r n : Nat} (hnd : noDefer ops = true) (trans : ∀ {x y z}, le x y → le y z → le x z) (stable : ∀ j v x y, le x y → φ j v x → φ j v y) (hD : dstsOk ops a0.tmps.size = true)
    (steps : ∀ i o, ops[i]? = some o → StepOk P ops Q le φ a0 w0 i o)
    (fin : ∀ listed a w, Inv ops le φ a0 w0 listed a w → Region.ready .any ops listed = [] → Q .normal a w) :
    ∀ (fuel : Nat) (listed : Array Bool) (a : Act) (w : World), Inv ops le φ a0 w0 listed a w → (List.range ops.size).countP (fun i => !listed.getD i true) ≤ fuel → wpAnyIn (Fence.wide.inRound r) n P .any ops Q fuel listed a w
  | 0, listed, a, w, I, hc => by
    have : Region.ready .any ops listed = [] := by
      rw [List.eq_nil_iff_forall_not_mem]
      intro i hi
      obtain ⟨hn, o, ho, _⟩ := mem_ready.1 hi
      have hlt : i < ops.size := (Array.getElem?_eq_some_iff.1 ho).1
      have : 0 < (List.range ops.size).countP (fun i => !listed.getD i true) := List.countP_pos_iff.2 ⟨i, List.mem_range.2 hlt, by simp only [hn, Bool.not_false]⟩
      omega
    exact ⟨this, fin listed a w I this⟩
  | fuel + 1, listed, a, w, I, hc => by
    refine ⟨fun h => fin listed a w I h, fun i hi => ?_⟩
    obtain ⟨hn, o, ho, _⟩ := mem_ready.1 hi
    have hlt : i < ops.size := (Array.getElem?_eq_some_iff.1 ho).1
    have hs := steps i o ho a w (fun a' w' => wpAnyIn (Fence.wide.inRound r) n P .any ops Q fuel (listed.setIfInBounds i true) a' w') (I.now hi)
      (fun v w' hw hv => wpAnyIn_of_steps hnd trans stable hD steps fin fuel _ _ _ (I.step trans stable hD hi ho hw (fun _ _ => hv)) (by
        have hlt' : i < listed.size := by rw [I.size]; exact hlt
        have h1 : (List.range ops.size).countP (fun j => !(listed.setIfInBounds i true).getD j true) < (List.range ops.size).countP (fun i => !listed.getD i true) := by
          refine countP_lt (i := i) (List.mem_range.2 hlt) ?_ ?_ ?_
          · intro j _ hj
            by_cases hji : j = i
            · subst hji; rw [hn]; rfl
            · rw [getD_set_ne true (Ne.symm hji)] at hj; exact hj
          · rw [hn]; rfl
          · simp [Array.getD_eq_getD_getElem?, Array.getElem?_setIfInBounds_self_of_lt hlt']
        omega))
    unfold wpOpIn
    rw [ho]
    simp only
    split
    · rename_i hw; rw [if_pos hw] at hs; exact wpIn_of_wp (noDefer_spec hnd ho) hs
    · rename_i hw; rw [if_neg hw] at hs; exact ⟨fun _ _ => trivial, hs⟩
/-- The law. -/
theorem wpIn_region_slots {id r n : Nat} {l : List Oper} (le : World → World → Prop) (φ : Nat → Value → World → Prop) (refl : ∀ x, le x x) (trans : ∀ {x y z}, le x y → le y z → le x z) (stable : ∀ j v x y, le x y → φ j v x → φ j v y)
    (hm : P.follows .mixedOrders = true) (hnd : noDefer l.toArray = true) (hF : fwdOk l.toArray = true) (hD : dstsOk l.toArray a0.tmps.size = true)
    (steps : StepsOk P l.toArray Q le φ a0 w0.drew 0 l)
    (fin : ∀ w, le w0.drew w → FinAll φ w (fun a => Q .normal a w) 0 l a0) :
    (Code.region id l.toArray true).wpIn (Fence.wide.inRound r) n P Q a0 w0 := by
  refine wpIn_region_any hm ?_
  refine wpAnyIn_of_steps (le := le) (φ := φ) (a0 := a0) (w0 := w0.drew) hnd trans stable hD (fun i o ho => ?_) (fun listed a w I hr => ?_) _ _ _ _ ?_ ?_
  · have := stepsOk_at l 0 steps i o (by simpa using ho)
    rwa [Nat.zero_add] at this
  · have hall := fun i hi => all_listed hF I.size hr (i + 1) i (Nat.lt_succ_self i) hi
    have hf := finAll_take (fun d => a.eval (.tmp d)) l 0 a0 (fin w I.le) (fun j o d hj hd => by
      rw [Nat.zero_add]
      have hj' : l.toArray[j]? = some o := by simpa using hj
      exact I.done j d (by unfold dstAt; rw [hj']; exact hd) (hall j (Array.getElem?_eq_some_iff.1 hj').1))
    have hin : ∀ o ∈ l, ∀ d, o.dst = some d → d < a0.tmps.size := by
      intro o ho d hd
      obtain ⟨j, hj⟩ := List.getElem?_of_mem ho
      have hj' : l.toArray[j]? = some o := by simpa using hj
      unfold dstsOk at hD
      rw [List.all_eq_true] at hD
      have := hD j (List.mem_range.2 (Array.getElem?_eq_some_iff.1 hj').1)
      have e : dstAt l.toArray j = some d := by unfold dstAt; rw [hj']; exact hd
      rw [e] at this
      simp only [Bool.and_eq_true, decide_eq_true_eq] at this
      exact this.1
    have hs := putAll_size (fun d => a.eval (.tmp d)) l a0
    have : putAll a0 l (fun d => a.eval (.tmp d)) = a := by
      refine act_ext (hs.1.trans I.tmps.symm) (hs.2.trans I.defers.symm) fun k => ?_
      rw [putAll_get _ _ _ _ hin]
      split
      · rfl
      · rename_i h
        refine (I.rest k fun j hj hd => h ?_).symm
        rw [List.any_eq_true]
        unfold dstAt at hd
        cases ho : l.toArray[j]? with
        | none => rw [ho] at hd; cases hd
        | some o =>
          rw [ho] at hd
          exact ⟨o, List.mem_of_getElem? (by simpa using ho), by simpa using hd⟩
    rw [this] at hf
    exact hf
  · refine ⟨by simp, refl _, rfl, rfl, ?_, ?_, fun k _ => rfl⟩
    · intro j o _ hl
      simp only [Array.getD_eq_getD_getElem?, Array.getElem?_replicate] at hl
      split at hl <;> cases hl
    · intro j d _ hl
      simp only [Array.getD_eq_getD_getElem?, Array.getElem?_replicate] at hl
      split at hl <;> cases hl
  · have := List.countP_le_length (p := fun i => !(Array.replicate l.toArray.size false).getD i true) (l := List.range l.toArray.size)
    simpa using this
end
end Go.Proofs.YtdbaocphglijbaaDoor

/- A region that draws its order, whose operations only read, or call what makes memory, ahead of one last operation (a store) that waits for all of them: one walk in the order of the text serves every order. -/
namespace Go.Proofs.YtdbaocphglijbaaDoor
open Go
section
variable {F : Fence} {n : Nat} {P : Program} {md : Region.Mode} {C : World → Prop}

/-- Each operation waits for earlier ones alone. -/
def backB (md : Region.Mode) (ops : Array Oper) : Bool := (List.range ops.size).all fun k => match ops[k]? with | some o => o.after.all (fun e => !Region.binds md e || decide (e.on < k)) | none => true
/-- The operation m waits for all ahead of it. -/
def lastB (md : Region.Mode) (ops : Array Oper) (m : Nat) : Bool := match ops[m]? with | some o => (List.range m).all fun i => o.after.any fun e => Region.binds md e && e.on == i | none => false

theorem ready_ne {ops : Array Oper} {listed : Array Bool} (hb : backB md ops = true) (hs : listed.size = ops.size) {m : Nat} (hm : m < ops.size) (hu : listed.getD m true = false) : Region.ready md ops listed ≠ [] := by
  have key : ∀ k, k < ops.size → listed.getD k true = false → Region.ready md ops listed ≠ [] := by
    intro k
    induction k using Nat.strongRecOn with
    | _ k ih =>
      intro hk hun
      by_cases h : ∃ j, j < k ∧ listed.getD j true = false
      · obtain ⟨j, hj, hju⟩ := h
        exact ih j hj (by omega) hju
      · intro e
        have hmem : k ∈ Region.ready md ops listed := by
          refine mem_ready.2 ⟨hun, ops[k], Array.getElem?_eq_getElem hk, fun ed hed hbd => ?_⟩
          have h1 := List.all_eq_true.1 hb k (List.mem_range.2 hk)
          rw [Array.getElem?_eq_getElem hk] at h1
          have h2 := Array.all_eq_true_iff_forall_mem.1 h1 ed hed
          simp only [hbd, Bool.not_true, Bool.false_or, decide_eq_true_eq] at h2
          have h3 : ¬ listed.getD ed.on true = false := fun h3 => h ⟨ed.on, h2, h3⟩
          have h4 : ed.on < listed.size := by omega
          simp only [Array.getD, h4, dite_true] at h3 ⊢
          simpa using h3
        rw [e] at hmem
        cases hmem
  exact key m hm hu
theorem last_all {ops : Array Oper} {listed : Array Bool} {m : Nat} (hl : lastB md ops m = true) (hr : m ∈ Region.ready md ops listed) : ∀ i, i < m → listed.getD i false = true := by
  intro i hi
  obtain ⟨_, o, ho, hall⟩ := mem_ready.1 hr
  unfold lastB at hl
  rw [ho] at hl
  have h1 := List.all_eq_true.1 hl i (List.mem_range.2 hi)
  obtain ⟨e, he, hb⟩ := Array.any_eq_true'.1 h1
  simp only [Bool.and_eq_true, beq_iff_eq] at hb
  have := hall e he hb.1
  rw [hb.2] at this
  exact this
theorem ready_done {ops : Array Oper} {listed : Array Bool} {m : Nat} (hs : listed.size = ops.size) (hm : m + 1 = ops.size) (h : ∀ i, i < m → listed.getD i false = true) : Region.ready md ops (listed.setIfInBounds m true) = [] := by
  apply List.eq_nil_iff_forall_not_mem.2
  intro j hj
  obtain ⟨hun, o, ho, _⟩ := mem_ready.1 hj
  have hjl : j < ops.size := (Array.getElem?_eq_some_iff.1 ho).1
  by_cases e : j = m
  · subst e
    have : j < listed.size := by omega
    simp [Array.getD, this] at hun
  · have h1 := h j (by omega)
    rw [getD_set_ne true (fun e' => e e'.symm)] at hun
    rw [getD_both hun] at h1
    cases h1
theorem ready_congr {ops ops' : Array Oper} (hsz : ops'.size = ops.size) (haft : ∀ i : Nat, (ops'[i]?).map Oper.after = (ops[i]?).map Oper.after) (listed : Array Bool) : Region.ready md ops' listed = Region.ready md ops listed := by
  unfold Region.ready
  rw [hsz]
  apply List.filter_congr
  intro i _
  have e : ∀ (ops : Array Oper), ((ops[i]?).map (fun o : Oper => o.after.all fun e => !Region.binds md e || listed.getD e.on false)) = ((ops[i]?).map Oper.after).map (fun x => x.all fun e => !Region.binds md e || listed.getD e.on false) := fun ops => by rw [Option.map_map]; rfl
  rw [e ops', e ops, haft i]

/-- An operation that yields nothing, in the place of the last one. -/
def idle (t : Oper) : Oper := { t with op := .move (.const undef) }
def swapL : List Oper → List Oper
  | [] => []
  | [t] => [idle t]
  | o :: p :: r => o :: swapL (p :: r)
theorem swapL_app : ∀ (l : List Oper) (t : Oper), swapL (l ++ [t]) = l ++ [idle t]
  | [], t => rfl
  | [o], t => rfl
  | o :: p :: r, t => by
    show o :: swapL (p :: r ++ [t]) = _
    rw [swapL_app (p :: r) t]
    rfl

variable {ops ops' : Array Oper} {m : Nat} {t : Oper}
theorem yielded_congr (hd : ∀ i : Nat, (ops'[i]?).map Oper.dst = (ops[i]?).map Oper.dst) (tmps : Array Value) : yielded ops' tmps = yielded ops tmps := by
  funext j
  unfold yielded
  have e : ∀ (ops : Array Oper), (ops[j]?).bind Oper.dst = ((ops[j]?).map Oper.dst).bind id := fun ops => by cases ops[j]? <;> rfl
  rw [e ops', e ops, hd j]

theorem wpAnyIn_tail {Q : Act → Prop} {Q' : Exit → Act → World → Prop} (hsz : ops'.size = ops.size) (hm : m + 1 = ops.size) (hother : ∀ i, i ≠ m → ops'[i]? = ops[i]?) (ht : ops[m]? = some t) (ht' : ops'[m]? = some (idle t)) (htd : t.dst = none) (htg : t.guard = none)
    (hback : backB md ops = true) (hlast : lastB md ops m = true) (hnd : noDefer ops = true) (hQ : ∀ a w, C w → Q a → wpListIn F n P ops Q' [t] a w) :
    ∀ (fuel : Nat) (listed : Array Bool) (a : Act) (w : World), listed.size = ops.size → listed.getD m true = false → C w → wpAnyQIn F n P md ops' C Q fuel listed a → wpAnyIn F n P md ops Q' fuel listed a w := by
  have haft : ∀ i : Nat, (ops'[i]?).map Oper.after = (ops[i]?).map Oper.after := fun i => by
    by_cases e : i = m
    · rw [e, ht, ht']; rfl
    · rw [hother i e]
  have hdst : ∀ i : Nat, (ops'[i]?).map Oper.dst = (ops[i]?).map Oper.dst := fun i => by
    by_cases e : i = m
    · rw [e, ht, ht']; rfl
    · rw [hother i e]
  have hrd := ready_congr (md := md) hsz haft
  intro fuel
  induction fuel with
  | zero =>
    intro listed a w hs hu hC h
    have h0 := h.1
    rw [hrd] at h0
    exact absurd h0 (ready_ne hback hs (by omega) hu)
  | succ fuel ih =>
    intro listed a w hs hu hC h
    refine ⟨fun h0 => absurd h0 (ready_ne hback hs (by omega) hu), fun i hi => ?_⟩
    have hi' : i ∈ Region.ready md ops' listed := by rw [hrd]; exact hi
    have hq := h.2 i hi'
    by_cases e : i = m
    · rw [e] at hi hq ⊢
      have hd := ready_done (md := md) hs hm (last_all hlast hi)
      have hQa : Q a := by
        unfold qOpIn at hq
        simp only [ht'] at hq
        have hw : Region.wanted (idle t) (yielded ops' a.tmps) = true := by unfold Region.wanted idle; simp only [htg]
        rw [hw] at hq
        simp only [if_true] at hq
        obtain ⟨_, v, _, hK⟩ := hq
        have hput : a.put (idle t).dst v = a := by
          have : (idle t).dst = none := htd
          rw [this]; rfl
        rw [hput] at hK
        cases fuel with
        | zero => exact hK.2
        | succ f => exact hK.1 (by rw [hrd]; exact hd)
      have hl := hQ a w hC hQa
      unfold wpOpIn
      simp only [ht]
      have hfin : ∀ (a' : Act) (w' : World), Q' .normal a' w' → wpAnyIn F n P md ops Q' fuel (listed.setIfInBounds m true) a' w' := fun a' w' h' => by
        cases fuel with
        | zero => exact ⟨hd, h'⟩
        | succ f => exact ⟨fun _ => h', fun j hj => by rw [hd] at hj; cases hj⟩
      unfold wpListIn at hl
      by_cases hw : Region.wanted t (yielded ops a.tmps) = true
      · rw [if_pos hw] at hl ⊢
        exact Oper.wpIn_mono (fun a' w' h' => hfin a' w' h') hl
      · rw [if_neg hw] at hl ⊢
        exact ⟨hl.1, hfin _ _ hl.2⟩
    · have hun : (listed.setIfInBounds i true).getD m true = false := by
        rw [getD_set_ne true e]
        exact hu
      have hq2 : qOpIn F n P ops C i (wpAnyQIn F n P md ops' C Q fuel (listed.setIfInBounds i true)) a := by
        unfold qOpIn at hq ⊢
        rw [hother i e, yielded_congr hdst] at hq
        exact hq
      exact wpOpIn_of_qOpIn_r hnd hC (fun a' w' hw' hh => ih _ a' w' (by simpa using hs) hun hw' hh) hq2

theorem wpIn_region_tail {id : Nat} {l : List Oper} {Q : Exit → Act → World → Prop} {a : Act} {w : World} (C : World → Prop) (htd : t.dst = none) (htg : t.guard = none) (hback : backB .any (l ++ [t]).toArray = true) (hlast : lastB .any (l ++ [t]).toArray l.length = true)
    (hnd : noDefer (l ++ [t]).toArray = true) (hmx : P.follows .mixedOrders = true) (hB : Region.lexB .any (l ++ [idle t]).toArray = true) (hC : C w.drew)
    (h : wpQuietIn F n P (l ++ [idle t]).toArray C (fun a' => ∀ w', C w' → wpListIn F n P (l ++ [t]).toArray Q [t] a' w') (l ++ [idle t]) a) : (Code.region id (l ++ [t]).toArray true).wpIn F n P Q a w := by
  simp only [Region.lexB, Bool.and_eq_true] at hB
  refine wpIn_region_any hmx ?_
  refine wpAnyIn_tail (C := C) (ops' := (l ++ [idle t]).toArray) (m := l.length) (t := t) (Q := fun a' => ∀ w', C w' → wpListIn F n P (l ++ [t]).toArray Q [t] a' w') (by simp) (by simp) (fun i hi => ?_) (by simp) (by simp) htd htg hback hlast hnd (fun a w hw h => h w hw) _ _ _ _ (by simp) (by simp [Array.getD]) hC ?_
  · simp only [List.getElem?_toArray]
    rcases Nat.lt_or_ge i l.length with h1 | h1
    · rw [List.getElem?_append_left h1, List.getElem?_append_left h1]
    · rw [List.getElem?_eq_none (by simp; omega), List.getElem?_eq_none (by simp; omega)]
  · have h2 := wpAnyQIn_lex (F := F) (n := n) (C := C) (md := .any) hB.1 (l ++ [idle t]) 0 (Array.replicate (l ++ [idle t]).toArray.size false) a (by simp) (by simpa using hB.2) h
    simpa using h2
theorem swapL_eq {L : List Oper} (hne : L ≠ []) : swapL L = L.dropLast ++ [idle (L.getLast hne)] := by
  have h := swapL_app L.dropLast (L.getLast hne)
  rw [List.dropLast_concat_getLast hne] at h
  exact h
/-- At a list that is written out, in the class of the worlds that have grown out of W. -/
theorem wpIn_region_tailG {id : Nat} {L : List Oper} {Q : Exit → Act → World → Prop} {a : Act} {W : World} (hne : L ≠ []) (htd : (L.getLast hne).dst = none) (htg : (L.getLast hne).guard = none) (hback : backB .any L.toArray = true) (hlast : lastB .any L.toArray (L.length - 1) = true)
    (hnd : noDefer L.toArray = true) (hmx : P.follows .mixedOrders = true) (hB : Region.lexB .any (swapL L).toArray = true)
    (h : wpQuietIn F n P (swapL L).toArray (fun w' => ∃ i : Grew W, w' = i.w) (fun a' => ∀ w', (∃ i : Grew W, w' = i.w) → wpListIn F n P L.toArray Q [L.getLast hne] a' w') (swapL L) a) : (Code.region id L.toArray true).wpIn F n P Q a W := by
  have e := List.dropLast_concat_getLast hne
  rw [swapL_eq hne] at hB h
  have h2 := wpIn_region_tail (F := F) (n := n) (P := P) (id := id) (l := L.dropLast) (t := L.getLast hne) (Q := Q) (a := a) (w := W) (fun w' => ∃ i : Grew W, w' = i.w) htd htg (by rw [e]; exact hback) (by rw [e, List.length_dropLast]; exact hlast) (by rw [e]; exact hnd) hmx hB ⟨⟨W.drew, (RowKit.Below.refl _ W).drew⟩, rfl⟩ (by rw [e]; exact h)
  rw [e] at h2
  exact h2
/-- The idle operation at the walk's end. -/
theorem wpQuietIn_idle {ops : Array Oper} {Q : Act → Prop} {a : Act} (htd : t.dst = none) (htg : t.guard = none) (h : Q a) : wpQuietIn F n P ops C Q [idle t] a := by
  refine wpQuietIn_step (fun w _ f hf => ?_) (fun K hK => ?_)
  · simp [Oper.about, idle] at hf
  · have hw : Region.wanted (idle t) (yielded ops a.tmps) = true := by unfold Region.wanted idle; simp only [htg]
    rw [hw]
    simp only [if_true]
    refine ⟨undef, fun w _ => ?_, ?_⟩
    · simp [Oper.quietAtIn, idle, execOp, Oper.quietUponIn]
      rfl
    · have : (idle t).dst = none := htd
      rw [this]
      exact hK _ h
end
end Go.Proofs.YtdbaocphglijbaaDoor

/- The law of slots, the last operation being another matter: it waits for all others, and is walked behind them. -/
namespace Go.Proofs.YtdbaocphglijbaaDoor
open Go

/-- Each operation ahead of m is waited for by one behind it, up to m. -/
def chainB (ops : Array Oper) (m : Nat) : Bool := (List.range m).all fun i => (List.range (m + 1)).any fun j => decide (i < j) && waitsFor ops j i
section
variable {P : Program} {ops : Array Oper} {Q : Exit → Act → World → Prop} {le : World → World → Prop} {φ : Nat → Value → World → Prop} {a0 : Act} {w0 : World}
theorem Inv.dep {listed : Array Bool} {a : Act} {w : World} (I : Inv ops le φ a0 w0 listed a w) {j i : Nat} (hw : waitsFor ops j i = true) (hj : listed.getD j false = true ∨ j ∈ Region.ready .any ops listed) : listed.getD i false = true := by
  unfold waitsFor at hw
  cases ho : ops[j]? with
  | none => rw [ho] at hw; cases hw
  | some o =>
    rw [ho] at hw
    simp only [Option.map_some, Option.getD_some] at hw
    rw [Array.any_eq_true'] at hw
    obtain ⟨e, he, hb⟩ := hw
    simp only [Bool.and_eq_true, beq_iff_eq] at hb
    rw [← hb.2]
    rcases hj with hj | hj
    · exact I.closed j o ho hj e he hb.1
    · obtain ⟨_, o', ho', hall⟩ := mem_ready.1 hj
      rw [ho] at ho'; cases ho'
      exact hall e he hb.1
theorem Inv.last {listed : Array Bool} {a : Act} {w : World} (I : Inv ops le φ a0 w0 listed a w) {m : Nat} (hc : chainB ops m = true) (hm : m ∈ Region.ready .any ops listed) : ∀ k i, m ≤ i + k → i < m → listed.getD i false = true
  | 0, i, h, hi => by omega
  | k + 1, i, h, hi => by
    unfold chainB at hc
    have h1 := List.all_eq_true.1 hc i (List.mem_range.2 hi)
    obtain ⟨j, hj, h2⟩ := List.any_eq_true.1 h1
    simp only [Bool.and_eq_true, decide_eq_true_eq] at h2
    rw [List.mem_range] at hj
    by_cases hjm : j = m
    · subst hjm; exact I.dep h2.2 (.inr hm)
    · exact I.dep h2.2 (.inl (I.last hc hm k j (by omega) (by omega)))

theorem wpIn_region_slotsT_any {l : List Oper} {t : Oper} {r n : Nat} (hnd : noDefer ops = true) (hops : ops = (l ++ [t]).toArray) (htg : t.guard = none) (hF : fwdOk ops = true) (hc : chainB ops l.length = true) (trans : ∀ {x y z}, le x y → le y z → le x z) (stable : ∀ j v x y, le x y → φ j v x → φ j v y) (hD : dstsOk ops a0.tmps.size = true)
    (steps : ∀ i o, i < l.length → ops[i]? = some o → StepOk P ops Q le φ a0 w0 i o)
    (fin : ∀ w, le w0 w → FinAll φ w (fun a => wpListIn (Fence.wide.inRound r) n P ops Q [t] a w) 0 l a0) :
    ∀ (fuel : Nat) (listed : Array Bool) (a : Act) (w : World), Inv ops le φ a0 w0 listed a w → listed.getD l.length true = false → (List.range ops.size).countP (fun i => !listed.getD i true) ≤ fuel → wpAnyIn (Fence.wide.inRound r) n P .any ops Q fuel listed a w
  | 0, listed, a, w, I, hu, hcnt => by
    have hlt : l.length < ops.size := by rw [hops]; simp
    have : 0 < (List.range ops.size).countP (fun i => !listed.getD i true) := List.countP_pos_iff.2 ⟨l.length, List.mem_range.2 hlt, by simp only [hu, Bool.not_false]⟩
    omega
  | fuel + 1, listed, a, w, I, hu, hcnt => by
    have hlt : l.length < ops.size := by rw [hops]; simp
    have ht : ops[l.length]? = some t := by rw [hops]; simp
    have hne : Region.ready .any ops listed ≠ [] := fun e => by
      have h1 := all_listed hF I.size e (l.length + 1) l.length (Nat.lt_succ_self _) hlt
      rw [getD_true_false (by rw [I.size]; exact hlt) hu] at h1
      cases h1
    refine ⟨fun h => absurd h hne, fun i hi => ?_⟩
    obtain ⟨hn, o, ho, _⟩ := mem_ready.1 hi
    have hilt : i < ops.size := (Array.getElem?_eq_some_iff.1 ho).1
    by_cases him : i = l.length
    · subst him
      rw [ht] at ho; cases ho
      have hall : ∀ j, j < l.length → listed.getD j false = true := fun j hj => I.last hc hi l.length j (by omega) hj
      have hidx : ∀ j o, l[j]? = some o → ops[j]? = some o := fun j o hj => by
        rw [hops, List.getElem?_toArray, List.getElem?_append_left (List.getElem?_eq_some_iff.1 hj).1]; exact hj
      have hf := finAll_take (fun d => a.eval (.tmp d)) l 0 a0 (fin w I.le) (fun j o d hj hd => by
        rw [Nat.zero_add]
        exact I.done j d (by unfold dstAt; rw [hidx j o hj]; exact hd) (hall j (List.getElem?_eq_some_iff.1 hj).1))
      have hin : ∀ o ∈ l, ∀ d, o.dst = some d → d < a0.tmps.size := by
        intro o ho d hd
        obtain ⟨j, hj⟩ := List.getElem?_of_mem ho
        have hj' := hidx j o hj
        unfold dstsOk at hD
        rw [List.all_eq_true] at hD
        have := hD j (List.mem_range.2 (Array.getElem?_eq_some_iff.1 hj').1)
        have e : dstAt ops j = some d := by unfold dstAt; rw [hj']; exact hd
        rw [e] at this
        simp only [Bool.and_eq_true, decide_eq_true_eq] at this
        exact this.1
      have hs := putAll_size (fun d => a.eval (.tmp d)) l a0
      have hpa : putAll a0 l (fun d => a.eval (.tmp d)) = a := by
        refine act_ext (hs.1.trans I.tmps.symm) (hs.2.trans I.defers.symm) fun k => ?_
        rw [putAll_get _ _ _ _ hin]
        split
        · rfl
        · rename_i h
          refine (I.rest k fun j hj hd => h ?_).symm
          rw [List.any_eq_true]
          have hjl : j ≠ l.length := fun e => by
            subst e
            rw [getD_true_false (by rw [I.size]; exact hlt) hu] at hj
            cases hj
          unfold dstAt at hd
          cases ho : ops[j]? with
          | none => rw [ho] at hd; cases hd
          | some o =>
            rw [ho] at hd
            have hj2 : j < ops.size := (Array.getElem?_eq_some_iff.1 ho).1
            have hjlt : j < l.length := by have : ops.size = l.length + 1 := by rw [hops]; simp
                                           omega
            refine ⟨o, ?_, by simpa using hd⟩
            rw [hops, List.getElem?_toArray, List.getElem?_append_left hjlt] at ho
            exact List.mem_of_getElem? ho
      rw [hpa] at hf
      have hd : Region.ready .any ops (listed.setIfInBounds l.length true) = [] := ready_done I.size (by rw [hops]; simp) hall
      have hw : Region.wanted t (yielded ops a.tmps) = true := wanted_no htg
      unfold wpOpIn
      simp only [ht]
      have hfin : ∀ (a' : Act) (w' : World), Q .normal a' w' → wpAnyIn (Fence.wide.inRound r) n P .any ops Q fuel (listed.setIfInBounds l.length true) a' w' := fun a' w' h' => by
        cases fuel with
        | zero => exact ⟨hd, h'⟩
        | succ f => exact ⟨fun _ => h', fun j hj => by rw [hd] at hj; cases hj⟩
      unfold wpListIn at hf
      rw [if_pos hw] at hf ⊢
      exact Oper.wpIn_mono (fun a' w' h' => hfin a' w' h') hf
    · have hs := steps i o (by have : ops.size = l.length + 1 := by rw [hops]; simp
                               omega) ho a w (fun a' w' => wpAnyIn (Fence.wide.inRound r) n P .any ops Q fuel (listed.setIfInBounds i true) a' w') (I.now hi)
        (fun v w' hw hv => wpIn_region_slotsT_any hnd hops htg hF hc trans stable hD steps fin fuel _ _ _ (I.step trans stable hD hi ho hw (fun _ _ => hv)) (by rw [getD_set_ne true him]; exact hu) (by
          have hlt' : i < listed.size := by rw [I.size]; exact hilt
          have h1 : (List.range ops.size).countP (fun j => !(listed.setIfInBounds i true).getD j true) < (List.range ops.size).countP (fun i => !listed.getD i true) := by
            refine countP_lt (i := i) (List.mem_range.2 hilt) ?_ ?_ ?_
            · intro j _ hj
              by_cases hji : j = i
              · subst hji; rw [hn]; rfl
              · rw [getD_set_ne true (Ne.symm hji)] at hj; exact hj
            · rw [hn]; rfl
            · simp [Array.getD_eq_getD_getElem?, Array.getElem?_setIfInBounds_self_of_lt hlt']
          omega))
      unfold wpOpIn
      rw [ho]
      simp only
      split
      · rename_i hw; rw [if_pos hw] at hs; exact wpIn_of_wp (noDefer_spec hnd ho) hs
      · rename_i hw; rw [if_neg hw] at hs; exact ⟨fun _ _ => trivial, hs⟩

/-- The law. -/
theorem wpIn_region_slotsT {id : Nat} {l : List Oper} {t : Oper} {r n : Nat} (hnd : noDefer (l ++ [t]).toArray = true) (le : World → World → Prop) (φ : Nat → Value → World → Prop) (refl : ∀ x, le x x) (trans : ∀ {x y z}, le x y → le y z → le x z) (stable : ∀ j v x y, le x y → φ j v x → φ j v y)
    (hm : P.follows .mixedOrders = true) (htg : t.guard = none) (hF : fwdOk (l ++ [t]).toArray = true) (hc : chainB (l ++ [t]).toArray l.length = true) (hD : dstsOk (l ++ [t]).toArray a0.tmps.size = true)
    (steps : StepsOk P (l ++ [t]).toArray Q le φ a0 w0.drew 0 l)
    (fin : ∀ w, le w0.drew w → FinAll φ w (fun a => wpListIn (Fence.wide.inRound r) n P (l ++ [t]).toArray Q [t] a w) 0 l a0) :
    (Code.region id (l ++ [t]).toArray true).wpIn (Fence.wide.inRound r) n P Q a0 w0 := by
  refine wpIn_region_any hm ?_
  refine wpIn_region_slotsT_any hnd (le := le) (φ := φ) (a0 := a0) (w0 := w0.drew) rfl htg hF hc trans stable hD (fun i o hi ho => ?_) fin _ _ _ _ ?_ ?_ ?_
  · have hl : l[i]? = some o := by rw [List.getElem?_toArray, List.getElem?_append_left hi] at ho; exact ho
    have := stepsOk_at l 0 steps i o hl
    rwa [Nat.zero_add] at this
  · refine ⟨by simp, refl _, rfl, rfl, ?_, ?_, fun k _ => rfl⟩
    · intro j o _ hl
      simp only [Array.getD_eq_getD_getElem?, Array.getElem?_replicate] at hl
      split at hl <;> cases hl
    · intro j d _ hl
      simp only [Array.getD_eq_getD_getElem?, Array.getElem?_replicate] at hl
      split at hl <;> cases hl
  · simp [Array.getD_eq_getD_getElem?]
  · have := List.countP_le_length (p := fun i => !(Array.replicate (l ++ [t]).toArray.size false).getD i true) (l := List.range (l ++ [t]).toArray.size)
    simpa using this
/-- At a list that is written out. -/
theorem wpIn_region_slotsTL {id : Nat} {L : List Oper} {r n : Nat} (hnd : noDefer L.toArray = true) (hne : L ≠ []) (le : World → World → Prop) (φ : Nat → Value → World → Prop) (refl : ∀ x, le x x) (trans : ∀ {x y z}, le x y → le y z → le x z) (stable : ∀ j v x y, le x y → φ j v x → φ j v y)
    (hm : P.follows .mixedOrders = true) (htg : (L.getLast hne).guard = none) (hF : fwdOk L.toArray = true) (hc : chainB L.toArray (L.length - 1) = true) (hD : dstsOk L.toArray a0.tmps.size = true)
    (steps : StepsOk P L.toArray Q le φ a0 w0.drew 0 L.dropLast)
    (fin : ∀ w, le w0.drew w → FinAll φ w (fun a => wpListIn (Fence.wide.inRound r) n P L.toArray Q [L.getLast hne] a w) 0 L.dropLast a0) :
    (Code.region id L.toArray true).wpIn (Fence.wide.inRound r) n P Q a0 w0 := by
  have e := List.dropLast_concat_getLast hne
  have h := wpIn_region_slotsT (id := id) (l := L.dropLast) (t := L.getLast hne) (Q := Q) (a0 := a0) (w0 := w0) (by rw [e]; exact hnd) le φ refl trans stable hm htg (by rw [e]; exact hF) (by rw [e, List.length_dropLast]; exact hc) (by rw [e]; exact hD) (by rw [e]; exact steps) (fun w hw => by rw [e]; exact fin w hw)
  rw [e] at h
  exact h

theorem wp_region_slotsT_any {l : List Oper} {t : Oper} (hops : ops = (l ++ [t]).toArray) (htg : t.guard = none) (hF : fwdOk ops = true) (hc : chainB ops l.length = true) (trans : ∀ {x y z}, le x y → le y z → le x z) (stable : ∀ j v x y, le x y → φ j v x → φ j v y) (hD : dstsOk ops a0.tmps.size = true)
    (steps : ∀ i o, i < l.length → ops[i]? = some o → StepOk P ops Q le φ a0 w0 i o)
    (fin : ∀ w, le w0 w → FinAll φ w (fun a => wpList P ops Q [t] a w) 0 l a0) :
    ∀ (fuel : Nat) (listed : Array Bool) (a : Act) (w : World), Inv ops le φ a0 w0 listed a w → listed.getD l.length true = false → (List.range ops.size).countP (fun i => !listed.getD i true) ≤ fuel → wpAny P .any ops Q fuel listed a w
  | 0, listed, a, w, I, hu, hcnt => by
    have hlt : l.length < ops.size := by rw [hops]; simp
    have : 0 < (List.range ops.size).countP (fun i => !listed.getD i true) := List.countP_pos_iff.2 ⟨l.length, List.mem_range.2 hlt, by simp only [hu, Bool.not_false]⟩
    omega
  | fuel + 1, listed, a, w, I, hu, hcnt => by
    have hlt : l.length < ops.size := by rw [hops]; simp
    have ht : ops[l.length]? = some t := by rw [hops]; simp
    have hne : Region.ready .any ops listed ≠ [] := fun e => by
      have h1 := all_listed hF I.size e (l.length + 1) l.length (Nat.lt_succ_self _) hlt
      rw [getD_true_false (by rw [I.size]; exact hlt) hu] at h1
      cases h1
    refine ⟨fun h => absurd h hne, fun i hi => ?_⟩
    obtain ⟨hn, o, ho, _⟩ := mem_ready.1 hi
    have hilt : i < ops.size := (Array.getElem?_eq_some_iff.1 ho).1
    by_cases him : i = l.length
    · subst him
      rw [ht] at ho; cases ho
      have hall : ∀ j, j < l.length → listed.getD j false = true := fun j hj => I.last hc hi l.length j (by omega) hj
      have hidx : ∀ j o, l[j]? = some o → ops[j]? = some o := fun j o hj => by
        rw [hops, List.getElem?_toArray, List.getElem?_append_left (List.getElem?_eq_some_iff.1 hj).1]; exact hj
      have hf := finAll_take (fun d => a.eval (.tmp d)) l 0 a0 (fin w I.le) (fun j o d hj hd => by
        rw [Nat.zero_add]
        exact I.done j d (by unfold dstAt; rw [hidx j o hj]; exact hd) (hall j (List.getElem?_eq_some_iff.1 hj).1))
      have hin : ∀ o ∈ l, ∀ d, o.dst = some d → d < a0.tmps.size := by
        intro o ho d hd
        obtain ⟨j, hj⟩ := List.getElem?_of_mem ho
        have hj' := hidx j o hj
        unfold dstsOk at hD
        rw [List.all_eq_true] at hD
        have := hD j (List.mem_range.2 (Array.getElem?_eq_some_iff.1 hj').1)
        have e : dstAt ops j = some d := by unfold dstAt; rw [hj']; exact hd
        rw [e] at this
        simp only [Bool.and_eq_true, decide_eq_true_eq] at this
        exact this.1
      have hs := putAll_size (fun d => a.eval (.tmp d)) l a0
      have hpa : putAll a0 l (fun d => a.eval (.tmp d)) = a := by
        refine act_ext (hs.1.trans I.tmps.symm) (hs.2.trans I.defers.symm) fun k => ?_
        rw [putAll_get _ _ _ _ hin]
        split
        · rfl
        · rename_i h
          refine (I.rest k fun j hj hd => h ?_).symm
          rw [List.any_eq_true]
          have hjl : j ≠ l.length := fun e => by
            subst e
            rw [getD_true_false (by rw [I.size]; exact hlt) hu] at hj
            cases hj
          unfold dstAt at hd
          cases ho : ops[j]? with
          | none => rw [ho] at hd; cases hd
          | some o =>
            rw [ho] at hd
            have hj2 : j < ops.size := (Array.getElem?_eq_some_iff.1 ho).1
            have hjlt : j < l.length := by have : ops.size = l.length + 1 := by rw [hops]; simp
                                           omega
            refine ⟨o, ?_, by simpa using hd⟩
            rw [hops, List.getElem?_toArray, List.getElem?_append_left hjlt] at ho
            exact List.mem_of_getElem? ho
      rw [hpa] at hf
      have hd : Region.ready .any ops (listed.setIfInBounds l.length true) = [] := ready_done I.size (by rw [hops]; simp) hall
      have hw : Region.wanted t (yielded ops a.tmps) = true := wanted_no htg
      unfold wpOp
      simp only [ht]
      have hfin : ∀ (a' : Act) (w' : World), Q .normal a' w' → wpAny P .any ops Q fuel (listed.setIfInBounds l.length true) a' w' := fun a' w' h' => by
        cases fuel with
        | zero => exact ⟨hd, h'⟩
        | succ f => exact ⟨fun _ => h', fun j hj => by rw [hd] at hj; cases hj⟩
      unfold wpList at hf
      rw [if_pos hw] at hf ⊢
      exact hf.imp (fun h => Oper.wp_mono (fun a' w' h' => hfin a' w' h') h) id
    · have hs := steps i o (by have : ops.size = l.length + 1 := by rw [hops]; simp
                               omega) ho a w (fun a' w' => wpAny P .any ops Q fuel (listed.setIfInBounds i true) a' w') (I.now hi)
        (fun v w' hw hv => wp_region_slotsT_any hops htg hF hc trans stable hD steps fin fuel _ _ _ (I.step trans stable hD hi ho hw (fun _ _ => hv)) (by rw [getD_set_ne true him]; exact hu) (by
          have hlt' : i < listed.size := by rw [I.size]; exact hilt
          have h1 : (List.range ops.size).countP (fun j => !(listed.setIfInBounds i true).getD j true) < (List.range ops.size).countP (fun i => !listed.getD i true) := by
            refine countP_lt (i := i) (List.mem_range.2 hilt) ?_ ?_ ?_
            · intro j _ hj
              by_cases hji : j = i
              · subst hji; rw [hn]; rfl
              · rw [getD_set_ne true (Ne.symm hji)] at hj; exact hj
            · rw [hn]; rfl
            · simp [Array.getD_eq_getD_getElem?, Array.getElem?_setIfInBounds_self_of_lt hlt']
          omega))
      unfold wpOp
      rw [ho]
      simp only
      split
      · rename_i hw; rw [if_pos hw] at hs; exact .inl hs
      · rename_i hw; rw [if_neg hw] at hs; exact hs

/-- The law. -/
theorem wp_region_slotsT {id : Nat} {l : List Oper} {t : Oper} (le : World → World → Prop) (φ : Nat → Value → World → Prop) (refl : ∀ x, le x x) (trans : ∀ {x y z}, le x y → le y z → le x z) (stable : ∀ j v x y, le x y → φ j v x → φ j v y)
    (hm : P.follows .mixedOrders = true) (htg : t.guard = none) (hF : fwdOk (l ++ [t]).toArray = true) (hc : chainB (l ++ [t]).toArray l.length = true) (hD : dstsOk (l ++ [t]).toArray a0.tmps.size = true)
    (steps : StepsOk P (l ++ [t]).toArray Q le φ a0 w0.drew 0 l)
    (fin : ∀ w, le w0.drew w → FinAll φ w (fun a => wpList P (l ++ [t]).toArray Q [t] a w) 0 l a0) :
    (Code.region id (l ++ [t]).toArray true).wp P Q a0 w0 := by
  refine wp_region_any hm ?_
  refine wp_region_slotsT_any (le := le) (φ := φ) (a0 := a0) (w0 := w0.drew) rfl htg hF hc trans stable hD (fun i o hi ho => ?_) fin _ _ _ _ ?_ ?_ ?_
  · have hl : l[i]? = some o := by rw [List.getElem?_toArray, List.getElem?_append_left hi] at ho; exact ho
    have := stepsOk_at l 0 steps i o hl
    rwa [Nat.zero_add] at this
  · refine ⟨by simp, refl _, rfl, rfl, ?_, ?_, fun k _ => rfl⟩
    · intro j o _ hl
      simp only [Array.getD_eq_getD_getElem?, Array.getElem?_replicate] at hl
      split at hl <;> cases hl
    · intro j d _ hl
      simp only [Array.getD_eq_getD_getElem?, Array.getElem?_replicate] at hl
      split at hl <;> cases hl
  · simp [Array.getD_eq_getD_getElem?]
  · have := List.countP_le_length (p := fun i => !(Array.replicate (l ++ [t]).toArray.size false).getD i true) (l := List.range (l ++ [t]).toArray.size)
    simpa using this
/-- At a list that is written out. -/
theorem wp_region_slotsTL {id : Nat} {L : List Oper} (hne : L ≠ []) (le : World → World → Prop) (φ : Nat → Value → World → Prop) (refl : ∀ x, le x x) (trans : ∀ {x y z}, le x y → le y z → le x z) (stable : ∀ j v x y, le x y → φ j v x → φ j v y)
    (hm : P.follows .mixedOrders = true) (htg : (L.getLast hne).guard = none) (hF : fwdOk L.toArray = true) (hc : chainB L.toArray (L.length - 1) = true) (hD : dstsOk L.toArray a0.tmps.size = true)
    (steps : StepsOk P L.toArray Q le φ a0 w0.drew 0 L.dropLast)
    (fin : ∀ w, le w0.drew w → FinAll φ w (fun a => wpList P L.toArray Q [L.getLast hne] a w) 0 L.dropLast a0) :
    (Code.region id L.toArray true).wp P Q a0 w0 := by
  have e := List.dropLast_concat_getLast hne
  have h := wp_region_slotsT (id := id) (l := L.dropLast) (t := L.getLast hne) (Q := Q) (a0 := a0) (w0 := w0) le φ refl trans stable hm htg (by rw [e]; exact hF) (by rw [e, List.length_dropLast]; exact hc) (by rw [e]; exact hD) (by rw [e]; exact steps) (fun w hw => by rw [e]; exact fin w hw)
  rw [e] at h
  exact h
end
end Go.Proofs.YtdbaocphglijbaaDoor

/- The document's own arena: Free. -/
set_option maxRecDepth 100000
namespace Go.Proofs.YtdbaocphglijbaaDoor
open Go Go.RowKit Go.Shelf
attribute [local go_sem] Oper.semAt_some
def MFreeRet (x : Nat → Prop) (m B : Nat) (P : List Rp) (z : Int) (w : World) (e : Ending) (w' : World) : Prop :=
  (e = .returned (.int .i64 5) ∧ (∀ p ∈ P, (p.2.1 : Int) ≠ z) ∧ w = w') ∨ (e = .returned (.int .i64 0) ∧ ∃ P1 p P2, P = P1 ++ p :: P2 ∧ (p.2.1 : Int) = z ∧ MRet x m B (P1 ++ P2) w w')
theorem rw_under : Tryd.prog.underlying 31 = some (.slice 52) := by kernel_rfl
theorem own_lit0 {n : Nat} (W : World) (h : n ≤ W.heap.size) : OwnK encRw 2 52 n (.slice (some ⟨W.heap.size, 0, none⟩) 0 0) [] (W.alloc (.cells #[] 52)) :=
  World.ownsRow_lit (base := n) (e := 52) (size := 2) W #[] 0 h (by simp) rfl
theorem below_undr {n : Nat} {w W : World} (h : Below n w.drew W) : Below n w W := ((Below.refl n w).drew).trans h
set_option maxHeartbeats 8000000 in
theorem mfree_any (x : Nat → Prop) (m B : Nat) (P : List Rp) (z : Int) (w : World) (h : MA x m B P w) (hl : P.length ≤ 900000) :
    Calls Tryd.prog 20 #[.pointer (some ⟨m, 0, none⟩), .int .i64 z] w (MFreeRet x m B P z w) := by
  have HAT := Lib.hid (mat_any x m B P z w h (by omega))
  have HM := Lib.hid h
  obtain ⟨ao, cap, c0, c1, hcap, hrk, hrow⟩ := h.box
  obtain ⟨v0, hm1, _⟩ := h.ex
  have hml := hm1.lt
  clear hrow h
  go_enter Tryd.func20, Tryd.ntmps20
  go_wp2_with fail
  refine HAT.out.mono ?_
  rintro e w' ⟨⟨i, hi, rfl, hz⟩ | ⟨rfl, hn⟩, rfl⟩
  · obtain ⟨vt, ht1, ht2⟩ := run_takeK (P := Tryd.prog) encRw_len rw_under infoRw hrk (m := i) (by rw [List.length_map]; omega)
    obtain ⟨vd, hd1, hd2⟩ := run_dropK (P := Tryd.prog) encRw_len rw_under infoRw hrk (m := i + 1) (by rw [List.length_map]; omega)
    rw [show ((i + 1 : Nat) : Int) = (i : Int) + 1 by norm_cast] at hd1
    have HRT := Lib.hid (fun W' (hb : Below w.heap.size w W') => ht2.below hb)
    have HRD := Lib.hid (fun W' (hb : Below w.heap.size w W') => hd2.below hb)
    have hl1 : ((P.map Prod.fst).take i).length ≤ 900000 := by rw [List.length_take, List.length_map]; omega
    have hl2 : ((P.map Prod.fst).drop (i + 1)).length + ((P.map Prod.fst).take i).length ≤ 900000 := by rw [List.length_drop, List.length_take, List.length_map]; omega
    have HSPL : Hid (P = P.take i ++ P[i] :: P.drop (i + 1)) := Lib.hid (by rw [← List.drop_eq_getElem_cons hi, List.take_append_drop])
    have HZ := Lib.hid hz
    obtain ⟨TT, hTT⟩ : ∃ T, (P.map Prod.fst).take i = T := ⟨_, rfl⟩
    obtain ⟨DD, hDD⟩ : ∃ D, (P.map Prod.fst).drop (i + 1) = D := ⟨_, rfl⟩
    have HMP : Hid ((P.take i ++ P.drop (i + 1)).map Prod.fst = TT ++ DD) := Lib.hid (by rw [List.map_append, List.map_take, List.map_drop, hTT, hDD])
    rw [hTT] at HRT hl1 hl2
    rw [hDD] at HRD hl2
    obtain ⟨LL, hLL⟩ : ∃ LL, TT ++ DD = LL := ⟨_, rfl⟩
    obtain ⟨n1, hn1⟩ : ∃ n, TT.length = n := ⟨_, rfl⟩
    obtain ⟨n2, hn2⟩ : ∃ n, (TT ++ DD).length = n := ⟨_, rfl⟩
    have HN1 : Hid (LL.take n1 = TT) := Lib.hid (by rw [← hLL, ← hn1, List.take_left' rfl])
    have HN2 : Hid (LL.take n2 = TT ++ DD) := Lib.hid (by rw [← hLL, ← hn2, List.take_length])
    have HP1 : Hid (([] : List Rw) ++ TT <+: LL) := Lib.hid ⟨DD, by rw [← hLL]; rfl⟩
    have HP2 : Hid (TT ++ DD <+: LL) := Lib.hid ⟨[], by rw [← hLL, List.append_nil]⟩
    have HEA : Hid (∀ W', Below w.heap.size w W' → ∀ p ∈ P.take i ++ P.drop (i + 1), p.1.h = p.2.1 ∧ RK encC (plus x w W') p.1.v p.2.2 W') := Lib.hid fun W' hb p hp => by
      have hp2 : p ∈ P := by
        rcases List.mem_append.1 hp with h | h
        · exact List.mem_of_mem_take h
        · exact List.mem_of_mem_drop h
      have h9 := HM.out.each p hp2
      exact ⟨h9.1, (h9.2.below hb).mono fun b hb => .inl hb⟩
    clear ht2 hd2 hz hrk hTT hDD hLL hn1 hn2
    have hwi : IntKind.i64.wrap ((i : Int) + 1) = (i : Int) + 1 := IntWalk.i64_in _ (by omega)
    have HCL : Hid (∀ W', Below w.heap.size w W' → W'.cell? ⟨m, 1, none⟩ = some (.slice ao P.length cap)) := Lib.hid fun W' hb => (hb.cell hml).trans c1
    have HFZ : Hid (∀ W', Below w.heap.size w W' → W'.frozen? ⟨m, 1, none⟩ = false) := Lib.hid fun W' hb => (hm1.kept (hb.block m hml)).frozen 1
    go_wp2
    refine wp_region_slotsTL (by simp) (leRow encRw 2 52 w.heap.size LL) (slotPhi ((fun v _ => v = ?f11) :: (fun v W' => OwnK encRw 2 52 w.heap.size v (LL.take 0) W') :: (fun v _ => v = ?f13) :: (fun v _ => v = ?f14) :: (fun v _ => v = ?f15) :: (fun v _ => v = ?f16) :: (fun v _ => v = ?f17) :: (fun v _ => v = ?f18) :: (fun v W' => OwnK encRw 2 52 w.heap.size v (LL.take n1) W') :: (fun v _ => v = ?f20) :: (fun v _ => v = ?f21) :: (fun v _ => v = ?f22) :: (fun v _ => v = ?f23) :: (fun v _ => v = ?f24) :: (fun v _ => v = ?f25) :: (fun v _ => v = ?f26) :: (fun v W' => OwnK encRw 2 52 w.heap.size v (LL.take n2) W') :: (fun v _ => v = ?f28) :: (fun v _ => v = ?f29) :: [])) leRow_refl (fun h g => leRow_trans h g) (slotPhi_by ?stb) (by kernel_rfl) (by kernel_rfl) (by kernel_rfl) (by kernel_rfl) (by kernel_rfl) ?steps ?fin
    case stb =>
      refine ⟨by intro _ _ _ _ h; exact h, ?_⟩
      refine ⟨by intro v x y hle h; exact hle.2 v _ h, ?_⟩
      refine ⟨by intro _ _ _ _ h; exact h, ?_⟩
      refine ⟨by intro _ _ _ _ h; exact h, ?_⟩
      refine ⟨by intro _ _ _ _ h; exact h, ?_⟩
      refine ⟨by intro _ _ _ _ h; exact h, ?_⟩
      refine ⟨by intro _ _ _ _ h; exact h, ?_⟩
      refine ⟨by intro _ _ _ _ h; exact h, ?_⟩
      refine ⟨by intro v x y hle h; exact hle.2 v _ h, ?_⟩
      refine ⟨by intro _ _ _ _ h; exact h, ?_⟩
      refine ⟨by intro _ _ _ _ h; exact h, ?_⟩
      refine ⟨by intro _ _ _ _ h; exact h, ?_⟩
      refine ⟨by intro _ _ _ _ h; exact h, ?_⟩
      refine ⟨by intro _ _ _ _ h; exact h, ?_⟩
      refine ⟨by intro _ _ _ _ h; exact h, ?_⟩
      refine ⟨by intro _ _ _ _ h; exact h, ?_⟩
      refine ⟨by intro v x y hle h; exact hle.2 v _ h, ?_⟩
      refine ⟨by intro _ _ _ _ h; exact h, ?_⟩
      refine ⟨by intro _ _ _ _ h; exact h, ?_⟩
      exact trivial
    case steps =>
      refine ⟨?_, ?_⟩
      · intro a W K N hK
        have e0 : a.tmps[0]?.getD undef = .pointer (some ⟨m, 0, none⟩) := N.was' 0 _ (by kernel_rfl) rfl
        rw [if_pos (wanted_no rfl)]
        go_simp
        refine hK _ _ (leRow_refl _) ?_
        exact rfl
      refine ⟨?_, ?_⟩
      · intro a W K N hK
        rw [if_pos (wanted_no rfl)]
        go_simp
        refine hK _ _ (leRow_of ((Below.refl _ _).alloc (Nat.le_refl _) _) N.le.1.size) ?_
        exact own_lit0 W N.le.1.size
      refine ⟨?_, ?_⟩
      · intro a W K N hK
        have e0 : a.tmps[0]?.getD undef = .pointer (some ⟨m, 0, none⟩) := N.was' 0 _ (by kernel_rfl) rfl
        rw [if_pos (wanted_no rfl)]
        go_simp
        refine hK _ _ (leRow_refl _) ?_
        exact rfl
      refine ⟨?_, ?_⟩
      · intro a W K N hK
        have e13 : a.tmps[13]?.getD undef = _ := N.dep' 2 13 (by kernel_rfl)
        rw [if_pos (wanted_no rfl)]
        go_simp
        refine hK _ _ (leRow_refl _) ?_
        exact rfl
      refine ⟨?_, ?_⟩
      · intro a W K N hK
        have e14 : a.tmps[14]?.getD undef = _ := N.dep' 3 14 (by kernel_rfl)
        rw [if_pos (wanted_no rfl)]
        go_simp
        refine hK _ _ (leRow_refl _) ?_
        exact rfl
      refine ⟨?_, ?_⟩
      · intro a W K N hK
        have e15 : a.tmps[15]?.getD undef = _ := N.dep' 4 15 (by kernel_rfl)
        rw [if_pos (wanted_no rfl)]
        have z := (N.le.1.cell (p := ⟨m, 1, none⟩) hml).trans c1
        go_simp
        refine hK _ _ (leRow_refl _) ?_
        exact rfl
      refine ⟨?_, ?_⟩
      · intro a W K N hK
        have e5 : a.tmps[5]?.getD undef = .int .i64 (i : Int) := N.was' 5 _ (by kernel_rfl) rfl
        rw [if_pos (wanted_no rfl)]
        go_simp
        refine hK _ _ (leRow_refl _) ?_
        exact rfl
      refine ⟨?_, ?_⟩
      · intro a W K N hK
        have e16 : a.tmps[16]?.getD undef = _ := N.dep' 5 16 (by kernel_rfl)
        have e17 : a.tmps[17]?.getD undef = _ := N.dep' 6 17 (by kernel_rfl)
        rw [if_pos (wanted_no rfl)]
        go_simp
        refine hK _ _ (leRow_refl _) ?_
        exact rfl
      refine ⟨?_, ?_⟩
      · intro a W K N hK
        have e12 := Lib.hid (show (fun v W' => OwnK encRw 2 52 w.heap.size v (LL.take 0) W') (a.tmps[12]?.getD undef) W from N.dep' 1 12 (by kernel_rfl))
        have e18 : a.tmps[18]?.getD undef = _ := N.dep' 7 18 (by kernel_rfl)
        rw [if_pos (wanted_no rfl)]
        refine wp_apKeep (L := LL) (base := w.heap.size) encRw_len (by omega) encRw_one rw_under infoRw rfl (by omega) (.tmp 12) (.tmp 18) rfl _ ([]) (eval_tmp a 12) (by exact e12.out) _ (TT) ((eval_tmp a 18).trans e18) (HRT.out _ (below_undr N.le.1)) (by first | omega | (simp only [List.length_nil]; omega)) N.le.1.size (by first | exact HP1.out | exact HP2.out) ?_
        intro v5 w5 ho5 hle5 _
        refine hK _ _ hle5 ?_
        exact HN1.out ▸ ho5
      refine ⟨?_, ?_⟩
      · intro a W K N hK
        have e0 : a.tmps[0]?.getD undef = .pointer (some ⟨m, 0, none⟩) := N.was' 0 _ (by kernel_rfl) rfl
        rw [if_pos (wanted_no rfl)]
        go_simp
        refine hK _ _ (leRow_refl _) ?_
        exact rfl
      refine ⟨?_, ?_⟩
      · intro a W K N hK
        have e20 : a.tmps[20]?.getD undef = _ := N.dep' 9 20 (by kernel_rfl)
        rw [if_pos (wanted_no rfl)]
        go_simp
        refine hK _ _ (leRow_refl _) ?_
        exact rfl
      refine ⟨?_, ?_⟩
      · intro a W K N hK
        have e21 : a.tmps[21]?.getD undef = _ := N.dep' 10 21 (by kernel_rfl)
        rw [if_pos (wanted_no rfl)]
        go_simp
        refine hK _ _ (leRow_refl _) ?_
        exact rfl
      refine ⟨?_, ?_⟩
      · intro a W K N hK
        have e22 : a.tmps[22]?.getD undef = _ := N.dep' 11 22 (by kernel_rfl)
        rw [if_pos (wanted_no rfl)]
        have z := (N.le.1.cell (p := ⟨m, 1, none⟩) hml).trans c1
        go_simp
        refine hK _ _ (leRow_refl _) ?_
        exact rfl
      refine ⟨?_, ?_⟩
      · intro a W K N hK
        have e5 : a.tmps[5]?.getD undef = .int .i64 (i : Int) := N.was' 5 _ (by kernel_rfl) rfl
        rw [if_pos (wanted_no rfl)]
        go_simp
        refine hK _ _ (leRow_refl _) ?_
        exact rfl
      refine ⟨?_, ?_⟩
      · intro a W K N hK
        have e24 : a.tmps[24]?.getD undef = _ := N.dep' 13 24 (by kernel_rfl)
        rw [if_pos (wanted_no rfl)]
        go_simp
        refine hK _ _ (leRow_refl _) ?_
        exact rfl
      refine ⟨?_, ?_⟩
      · intro a W K N hK
        have e23 : a.tmps[23]?.getD undef = _ := N.dep' 12 23 (by kernel_rfl)
        have e25 : a.tmps[25]?.getD undef = _ := N.dep' 14 25 (by kernel_rfl)
        rw [if_pos (wanted_no rfl)]
        go_simp
        refine hK _ _ (leRow_refl _) ?_
        exact rfl
      refine ⟨?_, ?_⟩
      · intro a W K N hK
        have e19 := Lib.hid (show (fun v W' => OwnK encRw 2 52 w.heap.size v (LL.take n1) W') (a.tmps[19]?.getD undef) W from N.dep' 8 19 (by kernel_rfl))
        have e26 : a.tmps[26]?.getD undef = _ := N.dep' 15 26 (by kernel_rfl)
        rw [if_pos (wanted_no rfl)]
        refine wp_apKeep (L := LL) (base := w.heap.size) encRw_len (by omega) encRw_one rw_under infoRw rfl (by omega) (.tmp 19) (.tmp 26) rfl _ (TT) (eval_tmp a 19) (by exact (HN1.out ▸ e19.out)) _ (DD) ((eval_tmp a 26).trans e26) (HRD.out _ (below_undr N.le.1)) (by first | omega | (simp only [List.length_nil]; omega)) N.le.1.size (by first | exact HP1.out | exact HP2.out) ?_
        intro v5 w5 ho5 hle5 _
        refine hK _ _ hle5 ?_
        exact HN2.out ▸ ho5
      refine ⟨?_, ?_⟩
      · intro a W K N hK
        have e11 : a.tmps[11]?.getD undef = _ := N.dep' 0 11 (by kernel_rfl)
        rw [if_pos (wanted_no rfl)]
        go_simp
        refine hK _ _ (leRow_refl _) ?_
        exact rfl
      refine ⟨?_, ?_⟩
      · intro a W K N hK
        have e28 : a.tmps[28]?.getD undef = _ := N.dep' 17 28 (by kernel_rfl)
        rw [if_pos (wanted_no rfl)]
        go_simp
        refine hK _ _ (leRow_refl _) ?_
        exact rfl
      exact trivial
    case fin =>
      intro V hV
      simp only [FinAll, slotPhi, List.dropLast, List.getLast_cons_cons, List.getLast_singleton, List.getD_cons_zero, List.getD_cons_succ, forall_eq, Act.put, List.setIfInBounds_toArray, List.set_cons_zero, List.set_cons_succ]
      intro v12 h12
      intro v19 h19
      intro v27 h27
      have hVb := below_undr hV.1
      have cl := HCL.out _ hVb
      have fz := HFZ.out _ hVb
      rw [HN2.out, ← HMP.out] at h27
      have H27 := Lib.hid h27
      obtain ⟨a5, n5, c5, e5⟩ : ∃ a n c, v27 = .slice a n c := by obtain ⟨a5, c5, e5, _⟩ := ownK_form h27; exact ⟨_, _, _, e5⟩
      subst e5
      have HVB := Lib.hid hVb
      clear hV hVb h12 h19 h27
      go_wp2
      go_ret
      exact .inr ⟨rfl, _, P[i], _, HSPL.out, HZ.out, HM.out.put HVB.out H27.out fun p hp => HEA.out _ HVB.out p hp⟩
  · have HN := Lib.hid hn
    clear hn
    go_wp2
    go_ret
    exact .inl ⟨rfl, HN.out, rfl⟩
end Go.Proofs.YtdbaocphglijbaaDoor

/- ArenaReuse: what its calls do. -/
set_option maxRecDepth 100000
namespace Go.Proofs.YtdbaocphglijbaaDoor
open Go.RowKit Go.Shelf
attribute [local go_sem] Oper.semAt_some
/-- The handles from 1 on, one behind the other. -/
structure Cs (m q : Nat) (L : List Bl) : Prop where
  len : L.length = m
  at_ : ∀ i (h : i < L.length), L[i].1 = i + 1
  sz : ∀ b ∈ L, b.2.length ≤ q
theorem Cs.nil (q : Nat) : Cs 0 q [] := ⟨rfl, (fun i h => by cases h), (fun b h => by cases h)⟩
theorem Cs.add {m q : Nat} {L : List Bl} (h : Cs m q L) {d : List UInt8} (hd : d.length ≤ q) : Cs (m + 1) q (L ++ [(m + 1, d)]) := by
  refine ⟨by simp [h.len], fun i hi => ?_, fun b hb => ?_⟩
  · by_cases e : i < L.length
    · rw [List.getElem_append_left e]; exact h.at_ i e
    · have : i = L.length := by simp at hi; omega
      subst this
      rw [List.getElem_append_right (Nat.le_refl _)]
      simp [h.len]
  · rcases List.mem_append.1 hb with hb | hb
    · exact h.sz b hb
    · rw [List.mem_singleton] at hb
      subst hb
      exact hd
theorem Cs.cut {m q : Nat} {L1 L2 : List Bl} (h : Cs m q (L1 ++ L2)) (hl : Least L1 L2) : L2 = [] ∧ L1.length = m := by
  have h2 : L2 = [] := by
    cases L2 with
    | nil => rfl
    | cons b r =>
      have h1 := h.at_ L1.length (by simp)
      have h2 := hl.2 b (by simp)
      simp at h1
      omega
  subst h2
  have := h.len
  simp at this
  exact ⟨rfl, this⟩
theorem Cs.le {m q : Nat} {L : List Bl} (h : Cs m q L) : ∀ b ∈ L, b.1 ≤ m := fun b hb => by
  obtain ⟨i, hi, rfl⟩ := List.mem_iff_getElem.1 hb
  have := h.at_ i hi
  have := h.len
  omega
theorem Cs.sum {q c : Nat} (hc : ∀ k, k ≤ q → Ar.cost k ≤ c) : ∀ {L : List Bl}, (∀ b ∈ L, b.2.length ≤ q) → sumC L ≤ c * L.length
  | [], _ => by simp [sumC]
  | b :: L, h => by
    rw [sumC_cons, List.length_cons]
    have h1 := hc _ (h b (by simp))
    have h2 := Cs.sum hc (fun x hx => h x (List.mem_cons_of_mem _ hx)) (L := L)
    rw [Nat.mul_succ]
    omega
theorem cost_248 : ∀ k, k ≤ 248 → Ar.cost k ≤ 256 := fun k hk => by unfold Ar.cost; (repeat' split) <;> omega
theorem ru_alloc (x : Nat → Prop) (A m n : Nat) (L : List Bl) (n0 : Nat) (w : World) (h : HX x A 4096 L n0 w) (hc : Cs m 248 L) (hm : m ≤ 12) (hn : n ≤ 248) (hm2 : m < 12) :
    Calls Tryd.prog 17 #[.pointer (some ⟨A, 0, none⟩), .int .i64 (n : Int)] w fun e w' => e = .returned (.tuple #[.int .i64 ((m : Int) + 1), .int .i64 0]) ∧ LX x A 4096 (L ++ [(m + 1, Ar.zeros n)]) n0 w w' := by
  have hs := Cs.sum cost_248 hc.sz
  have hcn := cost_248 n hn
  have hlen := hc.len
  refine (alloc_ok x A 4096 L n0 _ n w rfl h (by omega) (by omega)).mono fun e w' ⟨L1, L2, e1, hl, he, hL⟩ => ?_
  subst e1
  obtain ⟨rfl, e2⟩ := hc.cut hl
  rw [List.append_nil]
  rw [e2] at he hL
  exact ⟨by rw [he]; norm_cast, hL⟩
theorem ru_free (x : Nat → Prop) (A B : Nat) (L : List Bl) (n0 : Nat) (z : Int) (w : World) (h : HX x A B L n0 w) :
    Calls Tryd.prog 19 #[.pointer (some ⟨A, 0, none⟩), .int .i64 z] w fun e w' => ∃ (r : Int) (L' : List Bl), e = .returned (.int .i64 r) ∧ LX x A B L' n0 w w' ∧ ∀ b ∈ L', b ∈ L ∧ (b.1 : Int) ≠ z := by
  refine (free_x x A B L n0 z w h).mono fun e w' hk => ?_
  rcases hk with ⟨k1, he, hL⟩ | ⟨L1, b, L2, rfl, e2, he, hL⟩
  · exact ⟨5, L, he, hL, fun b hb => ⟨hb, k1 b hb⟩⟩
  · refine ⟨0, L1 ++ L2, he, hL, fun c hc => ⟨by rcases List.mem_append.1 hc with hc | hc <;> simp [hc], fun e => ?_⟩⟩
    have hs := h.each.1
    rw [List.pairwise_append, List.pairwise_cons] at hs
    rcases List.mem_append.1 hc with hc | hc
    · have := hs.2.2 c hc b (by simp); omega
    · have := hs.2.1.1 c hc; omega
theorem rdB_row {x : Nat → Prop} {n0 : Nat} {v : Value} {l : List UInt8} {w : World} (h : RowIn x n0 5 v (l.map encB) w) : RdB v l w := by
  have := h.own
  rw [List.length_map] at this
  exact RdB.own this
/-- A slice of so many bytes 0 that was just made. -/
def MkZ (n : Nat) (v : Value) (W : World) : Prop := ∃ B, v = .slice (some ⟨B, 0, none⟩) n n ∧ RdB (.slice (some ⟨B, 0, none⟩) n n) (Ar.zeros n) W
theorem MkZ.below {n : Nat} {v : Value} {x y : World} (h : MkZ n v x) (hb : slotLe x y) : MkZ n v y := by
  obtain ⟨B, e, hr⟩ := h
  exact ⟨B, e, hr.below hb⟩
theorem MkZ.new (n : Nat) (W : World) : MkZ n (.slice (some ⟨W.heap.size, 0, none⟩) n n) (W.alloc (.cells (Array.replicate n (.int .u8 0)) 5)) :=
  ⟨W.heap.size, rfl, rdB_block (l := Ar.zeros n) (by have := Blk.new W ((Ar.zeros n).map encB) 5; unfold Ar.zeros at this ⊢; rw [List.map_replicate, List.toArray_replicate] at this; rw [List.map_replicate]; exact this) (zeros_len n).symm⟩
theorem zz_step {k n : Nat} {u : UInt8} (h : k < n) : ((List.replicate k u ++ List.replicate (n - k) 0).map encB).set k (encB u) = (List.replicate (k + 1) u ++ List.replicate (n - (k + 1)) 0).map encB := by
  rw [← List.map_set]
  congr 1
  rw [List.set_append_right _ _ (by simp)]
  obtain ⟨m, hm⟩ : ∃ m, n - k = m + 1 := ⟨n - k - 1, by omega⟩
  rw [hm, show n - (k + 1) = m by omega, List.replicate_succ (n := m)]
  simp [List.replicate_succ']
theorem zz_at {k n : Nat} {u : UInt8} (h : k < n) : ((List.replicate k u ++ List.replicate (n - k) 0).map encB)[k]? = some (.int .u8 0) := by
  rw [List.getElem?_map, List.getElem?_append_right (by simp), List.getElem?_replicate, if_pos (by simp; omega)]
  rfl
theorem rg_at {k m : Nat} (h : k < m) : ((List.range' 1 m).map encI)[k]? = some (.int .i64 ((k : Int) + 1)) := by
  rw [List.getElem?_map, List.getElem?_range' (by omega)]
  show some (encI _) = _
  unfold encI
  congr 2
  omega
theorem rg_len (m : Nat) : ((List.range' 1 m).map encI).length = m := by simp
theorem rg_add (m : Nat) : List.range' 1 m ++ [m + 1] = List.range' 1 (m + 1) := by rw [List.range'_1_concat, Nat.add_comm 1 m]
theorem ru_new (w : World) (hT : TabOk w) : Calls Tryd.prog 15 #[.int .i64 4096] w fun e w' => ∃ A, e = .returned (.tuple #[.pointer (some ⟨A, 0, none⟩), .int .i64 0]) ∧ HX (fun _ => False) A 4096 [] w.heap.size w' ∧ Below w.heap.size w w' :=
  new_x 4096 w (by decide) (by decide) hT
theorem ru_read (x : Nat → Prop) (A m n : Nat) (L : List Bl) (n0 : Nat) (z : Int) (w : World) (hz : z = (m : Int) + 1) (h : HX x A 4096 (L ++ [(m + 1, Ar.zeros n)]) n0 w) :
    Calls Tryd.prog 21 #[.pointer (some ⟨A, 0, none⟩), .int .i64 z, .int .i64 0, .int .i64 (n : Int)] w fun e w' => ∃ (v : Value) (y : Nat → Prop), e = .returned (.tuple #[v, .int .i64 0]) ∧ HX y A 4096 (L ++ [(m + 1, Ar.zeros n)]) n0 w' ∧ RowIn y n0 5 v ((Ar.zeros n).map encB) w' ∧ (∀ k, x k → y k) ∧ Below w.heap.size w w' := by
  refine (read_ok x A 4096 _ (m + 1, Ar.zeros n) n0 z 0 (n : Int) 0 n w (by rw [hz]; norm_cast) rfl rfl (by simp) h (by rw [zeros_len]; omega)).mono fun e w' ⟨v, he, hr, hL, hb⟩ => ?_
  have e1 : ((Ar.zeros n).drop 0).take n = Ar.zeros n := by rw [List.drop_zero, List.take_of_length_le (by rw [zeros_len]; omega)]
  rw [e1] at hr
  obtain ⟨h1, h2⟩ := h.take hb hr (by rw [List.length_map, zeros_len])
  exact ⟨v, _, he, h1, h2, fun k hk => .inl hk, hb⟩
theorem put_all (d l : List UInt8) (h : l.length = d.length) : Ar.put d 0 l = l := by
  unfold Ar.put
  rw [Nat.zero_add, h, List.drop_length]
  simp
theorem ru_write (x : Nat → Prop) (A m n : Nat) (L : List Bl) (n0 : Nat) (z : Int) (v : Value) (l : List UInt8) (w : World) (hz : z = (m : Int) + 1) (h : HX x A 4096 (L ++ [(m + 1, Ar.zeros n)]) n0 w) (hv : RowIn x n0 5 v (l.map encB) w) (hl : l.length = n) :
    Calls Tryd.prog 23 #[.pointer (some ⟨A, 0, none⟩), .int .i64 z, .int .i64 0, v] w fun e w' => e = .returned (.int .i64 0) ∧ LX x A 4096 (L ++ [(m + 1, l)]) n0 w w' := by
  refine (write_ok x A 4096 L [] (m + 1, Ar.zeros n) n0 z 0 0 v l w (by rw [hz]; norm_cast) rfl h (rdB_row hv) (by rw [zeros_len]; omega)).mono fun e w' ⟨he, hL⟩ => ⟨he, ?_⟩
  rw [put_all _ _ (by rw [zeros_len, hl])] at hL
  exact hL
end Go.Proofs.YtdbaocphglijbaaDoor

/- ArenaMoves: what its calls do. -/
set_option maxRecDepth 100000
namespace Go.Proofs.YtdbaocphglijbaaDoor
open Go.RowKit Go.Shelf
attribute [local go_sem] Oper.semAt_some
theorem apd_int_loc {n0 : Nat} {v v' : Value} {l : List Nat} {w w' : World} (hr : w.ownsRow n0 3 1 v l.length (l.map encI)) (hl : l.length ≤ 900000) (hlow : n0 ≤ w.heap.size) (k : Nat)
    (hrun : (Builtin.append_ #[54, 54] 54 #[v, .slice (some ⟨w.heap.size, 0, none⟩) 1 1]).run Tryd.prog (w.alloc (.cells #[encI k] 3)) = .ok v' w') : v'.ownBlock = v.ownBlock ∨ v'.ownBlock = some (w.heap.size + 1) := by
  obtain ⟨i, hi, hz0, hz1, hz2⟩ := info_parts infoInt
  have hown := World.ownsRow.alloc hr (.cells #[encI k] 3)
  have hs : (w.alloc (.cells #[encI k] 3)).heap.size = w.heap.size + 1 := World.size_alloc _ _
  obtain ⟨v2, w2, hr2, _, _, _, hloc⟩ := run_append_own_at (P := Tryd.prog) (w.alloc (.cells #[encI k] 3)) n0 54 54 3 i (.int .i64 0) 1 8 Tryd.underlying54 hi hz0 hz1 hz2 rfl (by omega) v l.length (l.map encI) hown ⟨w.heap.size, 0, none⟩ 1 1 [encI k] rfl (fun j u hj => cells_new w [encI k] 3 j u hj) (fun u hu => by rw [List.mem_singleton] at hu; subst hu; rfl) (by unfold maxLen; omega) (by omega) (by rw [hs]; omega)
  rw [hrun] at hr2
  obtain ⟨rfl, rfl⟩ : v' = v2 ∧ w' = w2 := ⟨(Result.ok.inj hr2).1, (Result.ok.inj hr2).2⟩
  rw [hs] at hloc
  exact hloc
theorem wpList_apdI2 {w : World} {ops : Array Oper} {rest : List Oper} {o : Oper} {a : Act} {Q : Exit → Act → World → Prop} (hg : o.guard = none) (s z : Operand)
    (hop : o.op = Op.call { callee := Callee.builtin Builtin.append, args := #[s, z], argTypes := #[54, 54] }) (hty : o.type = 54) {x : Nat → Prop} {A B : Nat} {L : List Bl} {n0 : Nat} {v : Value} {l : List Nat} (w0 : World) (hs : a.eval s = v)
    (h : HX x A B L n0 w0) (hr : RowIn x n0 3 v (l.map encI) w0) (hl : l.length ≤ 900000) (k : Nat) (u : Value) (hw : w = w0.alloc (.cells #[u] 3)) (hu : u = encI k) (hz : a.eval z = .slice (some ⟨w0.heap.size, 0, none⟩) 1 1)
    (hK : ∀ v' w', HX (fun j => x j ∨ v'.ownBlock = some j) A B L n0 w' → RowIn (fun j => x j ∨ v'.ownBlock = some j) n0 3 v' ((l ++ [k]).map encI) w' → Below n0 w0 w' → (∀ j, j < w0.heap.size → v.ownBlock ≠ some j → w'.heap[j]? = w0.heap[j]?) → (v'.ownBlock = v.ownBlock ∨ v'.ownBlock = some (w0.heap.size + 1)) → wpList Tryd.prog ops Q rest (a.put o.dst v') w') :
    wpList Tryd.prog ops Q (o :: rest) a w := by
  subst hw hu
  refine wpList_plain hg fun K hK' => ?_
  obtain ⟨v', w', hrun, r1, r2, r3, r4, _⟩ := apd_int h hr hl k
  have hloc := apd_int_loc (by have := hr.own; rwa [List.length_map] at this) hl h.low k hrun
  unfold Oper.wp
  simp [execOp, hop, hty, resolve, invoke, builtin, hs, hz, hrun, Result.andThen]
  exact hK' _ _ (hK v' w' r1 r2 r3 r4 hloc)
def chr (s : Nat) : UInt8 := UInt8.ofNat (97 + s)
theorem chr_nat {s : Nat} (h : s ≤ 60) : (chr s).toNat = 97 + s := by unfold chr; rw [UInt8.toNat_ofNat']; omega
theorem encB_chr {s : Nat} (h : s ≤ 60) : encB (chr s) = .int .u8 (97 + (s : Int)) := by unfold encB; rw [chr_nat h]; norm_cast
/-- The blocks of these sizes, from a handle on. -/
def mvL : Nat → List Nat → List Bl
  | _, [] => []
  | s, n :: N => (s + 1, List.replicate n (chr s)) :: mvL (s + 1) N
theorem mvL_add : ∀ (N : List Nat) (s n : Nat), mvL s (N ++ [n]) = mvL s N ++ [(s + N.length + 1, List.replicate n (chr (s + N.length)))]
  | [], s, n => by simp [mvL]
  | m :: N, s, n => by
    simp only [List.cons_append, mvL, List.length_cons]
    rw [mvL_add N (s + 1) n]
    rw [show s + 1 + N.length = s + (N.length + 1) by omega]
theorem mvL_len : ∀ (N : List Nat) (s : Nat), (mvL s N).length = N.length
  | [], _ => rfl
  | _ :: N, s => by simp [mvL, mvL_len N]
theorem mvL_at : ∀ (N : List Nat) (s i : Nat) (h : i < N.length), (mvL s N)[i]? = some (s + i + 1, List.replicate N[i] (chr (s + i)))
  | n :: N, s, 0, _ => by simp [mvL]
  | n :: N, s, i + 1, h => by
    simp only [mvL, List.getElem?_cons_succ, List.getElem_cons_succ]
    rw [mvL_at N (s + 1) i (by simpa using h)]
    rw [show s + 1 + i = s + (i + 1) by omega]
theorem mvL_cs {N : List Nat} (h : ∀ n ∈ N, n ≤ 119) : Cs N.length 119 (mvL 0 N) := by
  refine ⟨mvL_len N 0, fun i hi => ?_, fun b hb => ?_⟩
  · have hi' : i < N.length := by rwa [mvL_len] at hi
    have := mvL_at N 0 i hi'
    rw [List.getElem?_eq_getElem hi] at this
    rw [Option.some.inj this]
    simp
  · obtain ⟨i, hi, rfl⟩ := List.mem_iff_getElem.1 hb
    have hi' : i < N.length := by rwa [mvL_len] at hi
    have e := mvL_at N 0 i hi'
    rw [List.getElem?_eq_getElem hi] at e
    rw [Option.some.inj e]
    simp only [List.length_replicate]
    exact h _ (List.getElem_mem _)
/-- An Alloc of what is small: there is room, or there is none. -/
theorem mv_alloc (x : Nat → Prop) (A n : Nat) (N : List Nat) (n0 : Nat) (w : World) (h : HX x A 2048 (mvL 0 N) n0 w) (hN : ∀ n ∈ N, n ≤ 119) (hn : n ≤ 119) :
    Calls Tryd.prog 17 #[.pointer (some ⟨A, 0, none⟩), .int .i64 (n : Int)] w fun e w' => (e = .returned (.tuple #[.int .i64 0, .int .i64 4]) ∧ w = w') ∨ (e = .returned (.tuple #[.int .i64 ((N.length : Int) + 1), .int .i64 0]) ∧ LX x A 2048 (mvL 0 N ++ [(N.length + 1, Ar.zeros n)]) n0 w w') := by
  by_cases hc : sumC (mvL 0 N) + Ar.cost n ≤ 2048
  · refine (alloc_ok x A 2048 _ n0 _ n w rfl h (by omega) hc).mono fun e w' ⟨L1, L2, e1, hl, he, hL⟩ => .inr ?_
    obtain ⟨rfl, e2⟩ := (e1 ▸ mvL_cs hN : Cs N.length 119 (L1 ++ L2)).cut hl
    rw [List.append_nil] at e1
    subst e1
    rw [e2] at he hL
    exact ⟨by rw [he]; norm_cast, hL⟩
  · exact (alloc_no x A 2048 _ n0 _ n w rfl h (by omega) (by omega)).mono fun e w' hk => .inl hk
theorem mv_write (x : Nat → Prop) (A n : Nat) (N : List Nat) (n0 : Nat) (z : Int) (v : Value) (l : List UInt8) (w : World) (hz : z = (N.length : Int) + 1) (h : HX x A 2048 (mvL 0 N ++ [(N.length + 1, Ar.zeros n)]) n0 w) (hv : RowIn x n0 5 v (l.map encB) w) (hl : l = List.replicate n (chr N.length)) :
    Calls Tryd.prog 23 #[.pointer (some ⟨A, 0, none⟩), .int .i64 z, .int .i64 0, v] w fun e w' => e = .returned (.int .i64 0) ∧ LX x A 2048 (mvL 0 (N ++ [n])) n0 w w' := by
  have hlen : l.length = n := by rw [hl, List.length_replicate]
  refine (write_ok x A 2048 (mvL 0 N) [] (N.length + 1, Ar.zeros n) n0 z 0 0 v l w (by rw [hz]; norm_cast) rfl h (rdB_row hv) (by rw [zeros_len]; omega)).mono fun e w' ⟨he, hL⟩ => ⟨he, ?_⟩
  rw [put_all _ _ (by rw [zeros_len, hlen])] at hL
  rw [mvL_add, Nat.zero_add, ← hl]
  exact hL
/-- What is left of the blocks: those that were not given back. -/
def Stays (gone : List Bool) (k : Nat) (j : Nat) : Prop := ¬ (j < k ∧ gone[j]? = some true)
structure Rest (N : List Nat) (gone : List Bool) (k : Nat) (L : List Bl) : Prop where
  mem : ∀ b, b ∈ L ↔ ∃ j, j < N.length ∧ Stays gone k j ∧ (mvL 0 N)[j]? = some b
theorem Rest.start (N : List Nat) (gone : List Bool) : Rest N gone 0 (mvL 0 N) := by
  refine ⟨fun b => ?_⟩
  constructor
  · intro hb
    obtain ⟨j, hj, rfl⟩ := List.mem_iff_getElem.1 hb
    exact ⟨j, by rwa [mvL_len] at hj, fun h => by have := h.1; omega, List.getElem?_eq_getElem hj⟩
  · rintro ⟨j, _, _, h⟩
    exact List.mem_of_getElem? h
theorem Rest.skip {N : List Nat} {gone : List Bool} {k : Nat} {L : List Bl} (h : Rest N gone k L) (hk : gone[k]? ≠ some true) : Rest N gone (k + 1) L := by
  refine ⟨fun b => (h.mem b).trans ⟨?_, ?_⟩⟩
  · rintro ⟨j, h1, h2, h3⟩
    refine ⟨j, h1, fun e => ?_, h3⟩
    by_cases e2 : j = k
    · subst e2; exact hk e.2
    · exact h2 ⟨by have := e.1; omega, e.2⟩
  · rintro ⟨j, h1, h2, h3⟩
    exact ⟨j, h1, fun e => h2 ⟨by have := e.1; omega, e.2⟩, h3⟩
theorem mvL_fst {N : List Nat} {j : Nat} {b : Bl} (h : (mvL 0 N)[j]? = some b) : b.1 = j + 1 ∧ j < N.length := by
  have hj : j < N.length := by rw [← mvL_len N 0]; exact (List.getElem?_eq_some_iff.1 h).1
  rw [mvL_at N 0 j hj] at h
  cases h
  exact ⟨by simp, hj⟩
theorem Rest.free {N : List Nat} {gone : List Bool} {k : Nat} {L1 L2 : List Bl} {b : Bl} (h : Rest N gone k (L1 ++ b :: L2)) (hs : (L1 ++ b :: L2).Pairwise (fun x y => x.1 < y.1)) (hk : gone[k]? = some true) (hb : b.1 = k + 1) : Rest N gone (k + 1) (L1 ++ L2) := by
  have hne : ∀ c ∈ L1 ++ L2, c.1 ≠ b.1 := fun c hc e => by
    rw [List.pairwise_append, List.pairwise_cons] at hs
    rcases List.mem_append.1 hc with hc | hc
    · have := hs.2.2 c hc b (by simp); omega
    · have := hs.2.1.1 c hc; omega
  refine ⟨fun c => ⟨fun hc => ?_, ?_⟩⟩
  · obtain ⟨j, h1, h2, h3⟩ := (h.mem c).1 (by rcases List.mem_append.1 hc with hc | hc <;> simp [hc])
    refine ⟨j, h1, fun e => h2 ⟨?_, e.2⟩, h3⟩
    have := (mvL_fst h3).1
    have := hne c hc
    have := e.1
    omega
  · rintro ⟨j, h1, h2, h3⟩
    have hc := (h.mem c).2 ⟨j, h1, fun e => h2 ⟨by have := e.1; omega, e.2⟩, h3⟩
    have hjk : j ≠ k := fun e => h2 ⟨by omega, by rw [e]; exact hk⟩
    have := (mvL_fst h3).1
    rcases List.mem_append.1 hc with hc | hc
    · simp [hc]
    · rcases List.mem_cons.1 hc with rfl | hc
      · omega
      · simp [hc]
theorem mv_free (x : Nat → Prop) (A : Nat) (N : List Nat) (gone : List Bool) (k : Nat) (L : List Bl) (n0 : Nat) (z : Int) (w : World) (hz : z = (k : Int) + 1) (h : HX x A 2048 L n0 w) (hr : Rest N gone k L) (hk : k < N.length) (hg : gone[k]? = some true) :
    Calls Tryd.prog 19 #[.pointer (some ⟨A, 0, none⟩), .int .i64 z] w fun e w' => e = .returned (.int .i64 0) ∧ ∃ L', LX x A 2048 L' n0 w w' ∧ Rest N gone (k + 1) L' := by
  obtain ⟨b, hb⟩ : ∃ b, (mvL 0 N)[k]? = some b := ⟨_, mvL_at N 0 k hk⟩
  have hmem := (hr.mem b).2 ⟨k, hk, fun e => by have := e.1; omega, hb⟩
  have hb1 := (mvL_fst hb).1
  obtain ⟨L1, L2, rfl⟩ := List.append_of_mem hmem
  refine (free_ok x A 2048 L1 L2 b n0 z w (by rw [hz, hb1]; norm_cast) h).mono fun e w' ⟨he, hL⟩ => ⟨he, L1 ++ L2, hL, hr.free h.each.1 hg hb1⟩
theorem mv_new (w : World) (hT : TabOk w) : Calls Tryd.prog 15 #[.int .i64 2048] w fun e w' => ∃ A, e = .returned (.tuple #[.pointer (some ⟨A, 0, none⟩), .int .i64 0]) ∧ HX (fun _ => False) A 2048 [] w.heap.size w' ∧ Below w.heap.size w w' :=
  new_x 2048 w (by decide) (by decide) hT
end Go.Proofs.YtdbaocphglijbaaDoor

/- The document's own arena: Alloc. -/
set_option maxRecDepth 100000
namespace Go.Proofs.YtdbaocphglijbaaDoor
open Go Go.RowKit Go.Shelf
attribute [local go_sem] Oper.semAt_some
def MAllocRet (x : Nat → Prop) (m B : Nat) (P : List Rp) (n : Int) (w : World) (e : Ending) (w' : World) : Prop :=
  (Ar.costI n = 0 ∧ e = .returned (.tuple #[.int .i64 0, .int .i64 3]) ∧ Below w.heap.size w w') ∨
  (Ar.costI n ≠ 0 ∧ B - sumC (lsP P) < Ar.costI n ∧ e = .returned (.tuple #[.int .i64 0, .int .i64 4]) ∧ Below w.heap.size w w') ∨
  (Ar.costI n ≠ 0 ∧ Ar.costI n ≤ B - sumC (lsP P) ∧ ∃ (k : Nat) (r : Rw), k ≤ P.length ∧ (∀ i (h : i < P.length), i < k → P[i].2.1 = i + 1) ∧ (∀ h : k < P.length, P[k].2.1 ≠ k + 1) ∧ e = .returned (.tuple #[.int .i64 ((k : Int) + 1), .int .i64 0]) ∧ MRet x m B (P.take k ++ (r, (k + 1, Ar.zeros n.toNat)) :: P.drop k) w w')
theorem below_drewN (n : Nat) (w : World) (k : Nat) : Below n w (w.drewN k) := ⟨rfl, rfl, rfl, Nat.le_refl _, fun _ _ => rfl⟩
theorem costI_in {n : Int} (h : Ar.costI n ≠ 0) : 0 ≤ n ∧ n ≤ 4096 := by
  unfold Ar.costI at h
  split at h
  · assumption
  · exact absurd rfl h
theorem alc_of {w w1 W2 : World} {k q : Nat} (hb : Below w.heap.size w w1) (h : W2 = (w1.alloc (.cells (Array.replicate q (.int .u8 0)) 5)).alloc (.cells #[.int .i64 ((k : Int) + 1), .slice (some ⟨w1.heap.size, 0, none⟩) q q] 52)) :
    Below w.heap.size w W2 ∧ Blk W2 (w1.heap.size + 1) [.int .i64 ((k : Int) + 1), .slice (some ⟨w1.heap.size, 0, none⟩) q q] 52 ∧ Blk W2 w1.heap.size (List.replicate q (.int .u8 0)) 5 := by
  subst h
  have hs : (w1.alloc (.cells (Array.replicate q (.int .u8 0)) 5)).heap.size = w1.heap.size + 1 := World.size_alloc _ _
  have h1 : Blk (w1.alloc (.cells (Array.replicate q (.int .u8 0)) 5)) w1.heap.size (List.replicate q (.int .u8 0)) 5 := by
    have := Blk.new w1 (List.replicate q (.int .u8 0)) 5
    rw [List.toArray_replicate] at this
    exact this
  refine ⟨(hb.alloc hb.size _).alloc (by rw [hs]; have := hb.size; omega) _, ?_, h1.alloc _⟩
  have := Blk.new (w1.alloc (.cells (Array.replicate q (.int .u8 0)) 5)) [.int .i64 ((k : Int) + 1), .slice (some ⟨w1.heap.size, 0, none⟩) q q] 52
  rw [hs] at this
  exact this
theorem rk_zeros {x : Nat → Prop} {W : World} {g q : Nat} (h : Blk W g (List.replicate q (.int .u8 0)) 5) (hx : x g) : RK encC x (.slice (some ⟨g, 0, none⟩) q q) (Ar.zeros q) W :=
  ⟨some ⟨g, 0, none⟩, q, by simp [Ar.zeros], by simp [Ar.zeros], fun j u hu => ⟨g, 0, rfl, hx, by
    rw [Nat.zero_add]
    refine h.cell ?_
    rw [flatC, Ar.zeros, List.map_replicate] at hu
    exact hu⟩⟩
set_option maxHeartbeats 16000000 in
theorem malloc_any (x : Nat → Prop) (m B : Nat) (P : List Rp) (n : Int) (w : World) (h : MA x m B P w) (hn : -9223372036854775808 ≤ n ∧ n ≤ 9223372036854775807) (hB : B ≤ 1048576) (hs : sumC (lsP P) ≤ B) (hl : P.length ≤ 900000) (he : ∀ b ∈ lsP P, b.2.length ≤ 4096) :
    Calls Tryd.prog 18 #[.pointer (some ⟨m, 0, none⟩), .int .i64 n] w (MAllocRet x m B P n w) := by
  have HCO := Lib.hid (rcost_any n w hn)
  have HLE := Lib.hid (mleft_any x m B P w h hB hs (by omega) he)
  obtain ⟨c, hc⟩ : ∃ c, Ar.costI n = c := ⟨_, rfl⟩
  obtain ⟨s, hss⟩ : ∃ s, B - sumC (lsP P) = s := ⟨_, rfl⟩
  have hcb : c ≤ 8192 := by
    rw [← hc]; unfold Ar.costI Ar.cost
    (repeat' split) <;> omega
  have hsb : s ≤ 1048576 := by omega
  rw [hc] at HCO
  rw [hss] at HLE
  by_cases hc0 : c = 0
  · subst hc0
    have HZ := Lib.hid hc
    clear hc hss h
    go_enter Tryd.func18, Tryd.ntmps18
    go_wp2_with fail
    refine HCO.out.mono ?_
    rintro e w' ⟨rfl, rfl⟩
    go_wp2
    go_ret2
    exact .inl ⟨HZ.out, rfl, Below.refl _ _⟩
  have hcn : ((c : Int) == 0) = false := by rw [beq_eq_false_iff_ne]; omega
  by_cases hcs : s < c
  · have HZ : Hid (Ar.costI n ≠ 0 ∧ B - sumC (lsP P) < Ar.costI n) := Lib.hid (by rw [hc, hss]; exact ⟨hc0, hcs⟩)
    clear hc hss h
    go_enter Tryd.func18, Tryd.ntmps18
    go_wp2_with fail
    refine HCO.out.mono ?_
    rintro e w' ⟨rfl, rfl⟩
    go_wp2_with fail
    refine HLE.out.mono ?_
    rintro e w' ⟨rfl, nd, rfl⟩
    go_wp2
    go_ret2
    exact .inr (.inl ⟨HZ.out.1, HZ.out.2, rfl, below_drewN _ _ nd⟩)
  obtain ⟨hn0, hn1⟩ := costI_in (n := n) (by rw [hc]; exact hc0)
  obtain ⟨q, rfl⟩ : ∃ q : Nat, n = (q : Int) := ⟨n.toNat, by omega⟩
  have HZ : Hid (Ar.costI (q : Int) ≠ 0 ∧ Ar.costI (q : Int) ≤ B - sumC (lsP P)) := Lib.hid (by rw [hc, hss]; exact ⟨hc0, by omega⟩)
  have HM := Lib.hid h
  obtain ⟨ao, cap, c0, c1, hcap, hrk, hrow⟩ := h.box
  obtain ⟨v0, hm1, _⟩ := h.ex
  have hml := hm1.lt
  have HR := Lib.hid hrow
  have HRK := Lib.hid hrk
  have hmk := fun W => (by have h := make_one (e := 5) Tryd.underlying34 infoU8 (by decide) rfl (q : Int) q rfl (by omega) W; rw [List.toArray_replicate] at h; exact h : (Instr.makeSlice 34 (.int .i64 (q : Int)) (.int .i64 (q : Int))).run Tryd.prog W = .ok (.slice (some ⟨W.heap.size, 0, none⟩) q q) (W.alloc (.cells (Array.replicate q (.int .u8 0)) 5)))
  have HM1 := Lib.hid hm1
  clear hc hss h hrow hrk hm1 he hs hB
  go_enter Tryd.func18, Tryd.ntmps18
  go_wp2_with fail
  refine HCO.out.mono ?_
  rintro e w' ⟨rfl, rfl⟩
  go_wp2_with fail
  refine HLE.out.mono ?_
  rintro e w' ⟨rfl, nd, rfl⟩
  clear HCO HLE
  have hb1 : Below w.heap.size w (w.drewN nd) := below_drewN _ _ nd
  have e1 : (w.drewN nd).cell? ⟨m, 1, none⟩ = some (.slice ao P.length cap) := c1
  have HR1 : Hid (∀ i (hi : i < P.length), ∃ b off, ao = some ⟨b, off, none⟩ ∧ (w.drewN nd).cell? ⟨b, off + i * 2, none⟩ = some (.int .i64 (P[i].2.1 : Int))) := Lib.hid fun i hi => by
    obtain ⟨b, off, e, _, d0, _⟩ := HR.out i hi
    exact ⟨b, off, e, d0⟩
  generalize w.drewN nd = w1 at hb1 e1 HR1 ⊢
  have HB1 := Lib.hid hb1
  clear hb1 HR
  go_wp2
  go_loop [7] (fun i => ∃ k : Nat, i = .int .i64 (k : Int) ∧ k ≤ P.length ∧ Hid (∀ i (h : i < P.length), i < k → P[i].2.1 = i + 1)) (fun i => P.length + 1 - (intOf i).toNat)
  case atStart => exact ⟨0, rfl, Nat.zero_le _, Lib.hid fun i h h2 => by omega⟩
  case round =>
    obtain ⟨k, rfl, hk, HN⟩ := hrel
    by_cases hgo : ∃ h : k < P.length, P[k].2.1 = k + 1
    · obtain ⟨hlt, hq⟩ := hgo
      obtain ⟨b, off, rfl, d0⟩ := HR1.out k hlt
      rw [hq] at d0
      rw [show ((k + 1 : Nat) : Int) = (k : Int) + 1 by norm_cast] at d0
      have HQ : Hid (∀ i (h : i < P.length), i < k + 1 → P[i].2.1 = i + 1) := Lib.hid fun i h h2 => by
        by_cases e : i = k
        · subst e; exact hq
        · exact HN.out i h (by omega)
      have hbq : ((k : Int) + 1 == (k : Int) + 1) = true := beq_self_eq_true _
      clear hq HN
      go_wp2
      go_round
      case rel => exact ⟨k + 1, by go_num, by omega, HQ⟩
      case measure => simp [intOf]; omega
    · have HGO : Hid (∀ h : k < P.length, P[k].2.1 ≠ k + 1) := Lib.hid fun h e => hgo ⟨h, e⟩
      have hstop : k = P.length ∨ ∃ b off q2, k < P.length ∧ ao = some ⟨b, off, none⟩ ∧ w1.cell? ⟨b, off + k * 2, none⟩ = some (.int .i64 q2) ∧ (q2 == (k : Int) + 1) = false := by
        rcases Nat.lt_or_ge k P.length with h | h
        · obtain ⟨b, off, e, d0⟩ := HR1.out k h
          exact .inr ⟨b, off, _, h, e, d0, by rw [beq_eq_false_iff_ne]; have := HGO.out h; omega⟩
        · exact .inl (by omega)
      clear hgo
      obtain ⟨vt, ht1, ht2⟩ := run_takeK (P := Tryd.prog) encRw_len rw_under infoRw HRK.out (m := k) (by rw [List.length_map]; omega)
      obtain ⟨vd, hd1, hd2⟩ := run_dropK (P := Tryd.prog) encRw_len rw_under infoRw HRK.out (m := k) (by rw [List.length_map]; omega)
      have HT2 := Lib.hid ht2
      have HD2 := Lib.hid hd2
      clear ht2 hd2 hcap
      rcases hstop with hk2 | ⟨b, off, q2, hlt, rfl, d0, hq⟩
      · have hnl : ¬ ((k : Int) < (P.length : Int)) := by omega
        clear hk2
        go_wp2
        generalize hW2 : (w1.alloc (.cells (Array.replicate q (.int .u8 0)) 5)).alloc _ = W2
        obtain ⟨hB2, hbx2, hby2⟩ := alc_of HB1.out hW2.symm
        have HB2 := Lib.hid hB2
        obtain ⟨bb, hbbe⟩ : ∃ bb, w1.heap.size + 1 = bb := ⟨_, rfl⟩
        obtain ⟨r, hr⟩ : ∃ r : Rw, r = ⟨k + 1, some ⟨w1.heap.size, 0, none⟩, q, q⟩ := ⟨_, rfl⟩
        have HER : Hid (encRw r = [.int .i64 ((k : Int) + 1), .slice (some ⟨w1.heap.size, 0, none⟩) q q]) := Lib.hid (by rw [hr]; rfl)
        rw [hbbe] at hbx2 ⊢
        have hmn : m < W2.heap.size := Nat.lt_of_lt_of_le hml HB2.out.size
        have c2 : W2.cell? ⟨m, 1, none⟩ = some _ := (HB2.out.cell (p := ⟨m, 1, none⟩) hml).trans c1
        have d1 := hbx2.cell (i := 0) rfl
        have d2 := hbx2.cell (i := 1) rfl
        have hbb2 : bb < W2.heap.size := hbx2.lt
        have hm2 : m < W2.heap.size := hmn
        have HM2 := Lib.hid (HM1.out.kept (HB2.out.block m hml))
        obtain ⟨TT, hTT⟩ : ∃ T, (P.map Prod.fst).take k = T := ⟨_, rfl⟩
        obtain ⟨DD, hDD⟩ : ∃ D, (P.map Prod.fst).drop k = D := ⟨_, rfl⟩
        rw [hTT] at HT2
        rw [hDD] at HD2
        have HRT := Lib.hid (fun W' (hb : Below W2.heap.size W2 W') => (HT2.out.below HB2.out).below hb)
        have HRD := Lib.hid (fun W' (hb : Below W2.heap.size W2 W') => (HD2.out.below HB2.out).below hb)
        have hl1 : TT.length ≤ 900000 := by rw [← hTT, List.length_take, List.length_map]; omega
        have hl2 : TT.length + 1 + DD.length ≤ 900001 := by rw [← hTT, ← hDD, List.length_take, List.length_drop, List.length_map]; omega
        obtain ⟨LL, hLL⟩ : ∃ LL, TT ++ [r] ++ DD = LL := ⟨_, rfl⟩
        obtain ⟨n1, hn1⟩ : ∃ n, TT.length = n := ⟨_, rfl⟩
        obtain ⟨n3, hn3⟩ : ∃ n, (TT ++ [r]).length = n := ⟨_, rfl⟩
        obtain ⟨n4, hn4⟩ : ∃ n, (TT ++ [r] ++ DD).length = n := ⟨_, rfl⟩
        have HN1 : Hid (LL.take n1 = TT) := Lib.hid (by rw [← hLL, ← hn1, List.append_assoc, List.take_left' rfl])
        have HN3 : Hid (LL.take n3 = TT ++ [r]) := Lib.hid (by rw [← hLL, ← hn3, List.take_left' rfl])
        have HN4 : Hid (LL.take n4 = TT ++ [r] ++ DD) := Lib.hid (by rw [← hLL, ← hn4, List.take_length])
        have HP1 : Hid (TT ++ [r] <+: LL) := Lib.hid ⟨DD, hLL⟩
        have HP2 : Hid (TT ++ [r] ++ DD <+: LL) := Lib.hid ⟨[], by rw [← hLL, List.append_nil]⟩
        have HMP : Hid ((P.take k ++ (r, (k + 1, Ar.zeros q)) :: P.drop k).map Prod.fst = TT ++ [r] ++ DD) := Lib.hid (by rw [List.map_append, List.map_cons, List.map_take, List.map_drop, hTT, hDD]; simp)
        have HEA : Hid (∀ W', Below W2.heap.size W2 W' → ∀ p ∈ P.take k ++ (r, (k + 1, Ar.zeros q)) :: P.drop k, p.1.h = p.2.1 ∧ RK encC (plus x w W') p.1.v p.2.2 W') := Lib.hid fun W' hb p hp => by
          have hwW : Below w.heap.size w W' := HB2.out.trans (hb.mono HB2.out.size)
          have hold : p ∈ P → p.1.h = p.2.1 ∧ RK encC (plus x w W') p.1.v p.2.2 W' := fun hp2 => by
            have h9 := HM.out.each p hp2
            exact ⟨h9.1, (h9.2.below hwW).mono fun b hb => .inl hb⟩
          rcases List.mem_append.1 hp with h | h
          · exact hold (List.mem_of_mem_take h)
          · rcases List.mem_cons.1 h with rfl | h
            · rw [hr]
              refine ⟨rfl, ?_⟩
              have hb3 := hby2.kept (hb.block _ hby2.lt)
              exact rk_zeros hb3 (.inr ⟨HB1.out.size, hb3.lt⟩)
            · exact hold (List.mem_of_mem_drop h)
        have HIDR := Lib.hid (And.intro hr hbx2)
        clear hTT hDD hLL hn1 hn3 hn4 hmn hbbe hr hbx2 hby2 hW2 hB2 HT2 HD2 c1 c0 e1 hmk
        refine wp_region_slotsTL (by simp) (leRow1 encRw 2 52 W2.heap.size LL r) (slotPhi ((fun v _ => v = ?f46) :: (fun v W' => ∃ g, v = .slice (some ⟨g, 0, none⟩) 0 0 ∧ OwnK encRw 2 52 W2.heap.size v (LL.take 0) W') :: (fun v _ => v = ?f48) :: (fun v _ => v = ?f49) :: (fun v _ => v = ?f50) :: (fun v _ => v = ?f51) :: (fun v _ => v = ?f52) :: (fun v _ => v = ?f53) :: (fun v W' => OwnK encRw 2 52 W2.heap.size v (LL.take n1) W') :: (fun v _ => v = ?f55) :: (fun v W' => ∃ g, v = .slice (some ⟨g, 0, none⟩) 1 1 ∧ Blk W' g (encRw r) 52) :: (fun v W' => OwnK encRw 2 52 W2.heap.size v (LL.take n3) W') :: (fun v _ => v = ?f58) :: (fun v _ => v = ?f59) :: (fun v _ => v = ?f60) :: (fun v _ => v = ?f61) :: (fun v _ => v = ?f62) :: (fun v _ => v = ?f63) :: (fun v W' => OwnK encRw 2 52 W2.heap.size v (LL.take n4) W') :: (fun v _ => v = ?f65) :: (fun v _ => v = ?f66) :: [])) leRow1_refl (fun h g => leRow1_trans h g) (slotPhi_by ?stb) (by kernel_rfl) (by kernel_rfl) (by kernel_rfl) (by kernel_rfl) (by kernel_rfl) ?steps ?fin
        case stb =>
          refine ⟨by intro _ _ _ _ h; exact h, ?_⟩
          refine ⟨by intro v x y hle ⟨g, e, h⟩; exact ⟨g, e, hle.1.2 v _ h⟩, ?_⟩
          refine ⟨by intro _ _ _ _ h; exact h, ?_⟩
          refine ⟨by intro _ _ _ _ h; exact h, ?_⟩
          refine ⟨by intro _ _ _ _ h; exact h, ?_⟩
          refine ⟨by intro _ _ _ _ h; exact h, ?_⟩
          refine ⟨by intro _ _ _ _ h; exact h, ?_⟩
          refine ⟨by intro _ _ _ _ h; exact h, ?_⟩
          refine ⟨by intro v x y hle h; exact hle.1.2 v _ h, ?_⟩
          refine ⟨by intro _ _ _ _ h; exact h, ?_⟩
          refine ⟨by intro v x y hle ⟨g, e, h⟩; exact ⟨g, e, hle.2 g h⟩, ?_⟩
          refine ⟨by intro v x y hle h; exact hle.1.2 v _ h, ?_⟩
          refine ⟨by intro _ _ _ _ h; exact h, ?_⟩
          refine ⟨by intro _ _ _ _ h; exact h, ?_⟩
          refine ⟨by intro _ _ _ _ h; exact h, ?_⟩
          refine ⟨by intro _ _ _ _ h; exact h, ?_⟩
          refine ⟨by intro _ _ _ _ h; exact h, ?_⟩
          refine ⟨by intro _ _ _ _ h; exact h, ?_⟩
          refine ⟨by intro v x y hle h; exact hle.1.2 v _ h, ?_⟩
          refine ⟨by intro _ _ _ _ h; exact h, ?_⟩
          refine ⟨by intro _ _ _ _ h; exact h, ?_⟩
          exact trivial
        case steps =>
          refine ⟨?_, ?_⟩
          · intro a W K N hK
            have e0 : a.tmps[0]?.getD undef = .pointer (some ⟨m, 0, none⟩) := N.was' 0 _ (by kernel_rfl) rfl
            rw [if_pos (wanted_no rfl)]
            go_simp
            refine hK _ _ (leRow1_refl _) ?_
            exact rfl
          refine ⟨?_, ?_⟩
          · intro a W K N hK
            rw [if_pos (wanted_no rfl)]
            go_simp
            refine hK _ _ (leRow1_of ((Below.refl _ _).alloc (Nat.le_refl _) _) N.le.1.1.size) ?_
            exact ⟨_, rfl, own_lit0 W N.le.1.1.size⟩
          refine ⟨?_, ?_⟩
          · intro a W K N hK
            have e0 : a.tmps[0]?.getD undef = .pointer (some ⟨m, 0, none⟩) := N.was' 0 _ (by kernel_rfl) rfl
            rw [if_pos (wanted_no rfl)]
            go_simp
            refine hK _ _ (leRow1_refl _) ?_
            exact rfl
          refine ⟨?_, ?_⟩
          · intro a W K N hK
            have e48 : a.tmps[48]?.getD undef = _ := N.dep' 2 48 (by kernel_rfl)
            rw [if_pos (wanted_no rfl)]
            go_simp
            refine hK _ _ (leRow1_refl _) ?_
            exact rfl
          refine ⟨?_, ?_⟩
          · intro a W K N hK
            have e49 : a.tmps[49]?.getD undef = _ := N.dep' 3 49 (by kernel_rfl)
            rw [if_pos (wanted_no rfl)]
            go_simp
            refine hK _ _ (leRow1_refl _) ?_
            exact rfl
          refine ⟨?_, ?_⟩
          · intro a W K N hK
            have e50 : a.tmps[50]?.getD undef = _ := N.dep' 4 50 (by kernel_rfl)
            rw [if_pos (wanted_no rfl)]
            have z := (N.le.1.1.cell (p := ⟨m, 1, none⟩) hm2).trans c2
            go_simp
            refine hK _ _ (leRow1_refl _) ?_
            exact rfl
          refine ⟨?_, ?_⟩
          · intro a W K N hK
            have e7 : a.tmps[7]?.getD undef = .int .i64 (k : Int) := N.was' 7 _ (by kernel_rfl) rfl
            rw [if_pos (wanted_no rfl)]
            go_simp
            refine hK _ _ (leRow1_refl _) ?_
            exact rfl
          refine ⟨?_, ?_⟩
          · intro a W K N hK
            have e51 : a.tmps[51]?.getD undef = _ := N.dep' 5 51 (by kernel_rfl)
            have e52 : a.tmps[52]?.getD undef = _ := N.dep' 6 52 (by kernel_rfl)
            rw [if_pos (wanted_no rfl)]
            go_simp
            refine hK _ _ (leRow1_refl _) ?_
            exact rfl
          refine ⟨?_, ?_⟩
          · intro a W K N hK
            have e47 := Lib.hid (show (fun v W' => ∃ g, v = .slice (some ⟨g, 0, none⟩) 0 0 ∧ OwnK encRw 2 52 W2.heap.size v (LL.take 0) W') (a.tmps[47]?.getD undef) W from N.dep' 1 47 (by kernel_rfl))
            have e53 : a.tmps[53]?.getD undef = _ := N.dep' 7 53 (by kernel_rfl)
            rw [if_pos (wanted_no rfl)]
            refine wp_litRK (base := W2.heap.size) encRw_len (by omega) rw_under infoRw rfl (by omega) (.tmp 47) (.tmp 53) rfl (by obtain ⟨g, e, h⟩ := e47.out; exact ⟨g, (eval_tmp a 47).trans e, by rw [e] at h; exact h⟩) _ TT ((eval_tmp a 53).trans e53) (HRT.out _ (below_undr N.le.1.1)) (by omega) N.le.1.1.size ?_
            intro v5 w5 ho5 hle5
            refine hK _ _ (leRow1_of hle5 N.le.1.1.size) ?_
            exact HN1.out ▸ ho5
          refine ⟨?_, ?_⟩
          · intro a W K N hK
            have e8 : a.tmps[8]?.getD undef = .pointer (some ⟨bb, 0, none⟩) := N.was' 8 _ (by kernel_rfl) rfl
            rw [if_pos (wanted_no rfl)]
            have z0 := (N.le.1.1.cell (p := ⟨bb, 0, none⟩) hbb2).trans d1
            have z1 := (N.le.1.1.cell (p := ⟨bb, 1, none⟩) hbb2).trans d2
            go_simp
            refine hK _ _ (leRow1_refl _) ?_
            exact rfl
          refine ⟨?_, ?_⟩
          · intro a W K N hK
            have e55 : a.tmps[55]?.getD undef = _ := N.dep' 9 55 (by kernel_rfl)
            rw [if_pos (wanted_no rfl)]
            go_simp
            refine hK _ _ (leRow1_of ((Below.refl _ _).alloc (Nat.le_refl _) _) N.le.1.1.size) ?_
            exact ⟨_, rfl, by rw [HER.out]; exact Blk.new W _ _⟩
          refine ⟨?_, ?_⟩
          · intro a W K N hK
            have e54 := Lib.hid (show (fun v W' => OwnK encRw 2 52 W2.heap.size v (LL.take n1) W') (a.tmps[54]?.getD undef) W from N.dep' 8 54 (by kernel_rfl))
            have e56 := Lib.hid (show (fun v W' => ∃ g, v = .slice (some ⟨g, 0, none⟩) 1 1 ∧ Blk W' g (encRw r) 52) (a.tmps[56]?.getD undef) W from N.dep' 10 56 (by kernel_rfl))
            rw [if_pos (wanted_no rfl)]
            obtain ⟨g6, e6, hb6⟩ := e56.out
            refine wp_apKeep (L := LL) (base := W2.heap.size) encRw_len (by omega) encRw_one rw_under infoRw rfl (by omega) (.tmp 54) (.tmp 56) rfl _ (TT) (eval_tmp a 54) (by exact (HN1.out ▸ e54.out)) _ ([r]) ((eval_tmp a 56).trans e6) (RK.blk hb6) (by first | omega | (simp only [List.length_append, List.length_singleton]; omega)) N.le.1.1.size HP1.out ?_
            intro v5 w5 ho5 hle5 hlit5
            refine hK _ _ ⟨hle5, fun g hB => hlit5 r (fun _ b hb => by cases hb; rfl) g hB⟩ ?_
            exact HN3.out ▸ ho5
          refine ⟨?_, ?_⟩
          · intro a W K N hK
            have e0 : a.tmps[0]?.getD undef = .pointer (some ⟨m, 0, none⟩) := N.was' 0 _ (by kernel_rfl) rfl
            rw [if_pos (wanted_no rfl)]
            go_simp
            refine hK _ _ (leRow1_refl _) ?_
            exact rfl
          refine ⟨?_, ?_⟩
          · intro a W K N hK
            have e58 : a.tmps[58]?.getD undef = _ := N.dep' 12 58 (by kernel_rfl)
            rw [if_pos (wanted_no rfl)]
            go_simp
            refine hK _ _ (leRow1_refl _) ?_
            exact rfl
          refine ⟨?_, ?_⟩
          · intro a W K N hK
            have e59 : a.tmps[59]?.getD undef = _ := N.dep' 13 59 (by kernel_rfl)
            rw [if_pos (wanted_no rfl)]
            go_simp
            refine hK _ _ (leRow1_refl _) ?_
            exact rfl
          refine ⟨?_, ?_⟩
          · intro a W K N hK
            have e60 : a.tmps[60]?.getD undef = _ := N.dep' 14 60 (by kernel_rfl)
            rw [if_pos (wanted_no rfl)]
            have z := (N.le.1.1.cell (p := ⟨m, 1, none⟩) hm2).trans c2
            go_simp
            refine hK _ _ (leRow1_refl _) ?_
            exact rfl
          refine ⟨?_, ?_⟩
          · intro a W K N hK
            have e7 : a.tmps[7]?.getD undef = .int .i64 (k : Int) := N.was' 7 _ (by kernel_rfl) rfl
            rw [if_pos (wanted_no rfl)]
            go_simp
            refine hK _ _ (leRow1_refl _) ?_
            exact rfl
          refine ⟨?_, ?_⟩
          · intro a W K N hK
            have e61 : a.tmps[61]?.getD undef = _ := N.dep' 15 61 (by kernel_rfl)
            have e62 : a.tmps[62]?.getD undef = _ := N.dep' 16 62 (by kernel_rfl)
            rw [if_pos (wanted_no rfl)]
            go_simp
            refine hK _ _ (leRow1_refl _) ?_
            exact rfl
          refine ⟨?_, ?_⟩
          · intro a W K N hK
            have e57 := Lib.hid (show (fun v W' => OwnK encRw 2 52 W2.heap.size v (LL.take n3) W') (a.tmps[57]?.getD undef) W from N.dep' 11 57 (by kernel_rfl))
            have e63 : a.tmps[63]?.getD undef = _ := N.dep' 17 63 (by kernel_rfl)
            rw [if_pos (wanted_no rfl)]
            refine wp_apKeep (L := LL) (base := W2.heap.size) encRw_len (by omega) encRw_one rw_under infoRw rfl (by omega) (.tmp 57) (.tmp 63) rfl _ (TT ++ [r]) (eval_tmp a 57) (by exact (HN3.out ▸ e57.out)) _ (DD) ((eval_tmp a 63).trans e63) (HRD.out _ (below_undr N.le.1.1)) (by first | omega | (simp only [List.length_append, List.length_singleton]; omega)) N.le.1.1.size HP2.out ?_
            intro v5 w5 ho5 hle5 hlit5
            refine hK _ _ ⟨hle5, fun g hB => hlit5 r (fun h => absurd h (by simp)) g hB⟩ ?_
            exact HN4.out ▸ ho5
          refine ⟨?_, ?_⟩
          · intro a W K N hK
            have e46 : a.tmps[46]?.getD undef = _ := N.dep' 0 46 (by kernel_rfl)
            rw [if_pos (wanted_no rfl)]
            go_simp
            refine hK _ _ (leRow1_refl _) ?_
            exact rfl
          refine ⟨?_, ?_⟩
          · intro a W K N hK
            have e65 : a.tmps[65]?.getD undef = _ := N.dep' 19 65 (by kernel_rfl)
            rw [if_pos (wanted_no rfl)]
            go_simp
            refine hK _ _ (leRow1_refl _) ?_
            exact rfl
          exact trivial
        case fin =>
          intro V hV
          simp only [FinAll, slotPhi, List.dropLast, List.getLast_cons_cons, List.getLast_singleton, List.getD_cons_zero, List.getD_cons_succ, forall_eq, Act.put, List.setIfInBounds_toArray, List.set_cons_zero, List.set_cons_succ]
          intro v47 h47
          intro v54 h54
          intro v56 h56
          intro v57 h57
          intro v64 h64
          have hVb := below_undr hV.1.1
          have cl := (hVb.cell (p := ⟨m, 1, none⟩) hm2).trans c2
          have fz := (HM2.out.kept (hVb.block m hm2)).frozen 1
          rw [HN4.out, ← HMP.out] at h64
          have H64 := Lib.hid h64
          obtain ⟨a5, n5, c5, e5⟩ : ∃ a n c, v64 = .slice a n c := by obtain ⟨a5, c5, e5, _⟩ := ownK_form h64; exact ⟨_, _, _, e5⟩
          subst e5
          have HVB := Lib.hid (HB2.out.trans (hVb.mono HB2.out.size))
          have HEV := Lib.hid (HEA.out V hVb)
          clear hV hVb h47 h54 h56 h57 h64
          go_wp2
          go_ret2
          exact .inr (.inr ⟨HZ.out.1, HZ.out.2, k, r, hk, HN.out, HGO.out, rfl, HM.out.put HVB.out (World.ownsRow.mono H64.out HB2.out.size) HEV.out⟩)
          
      · go_wp2
        generalize hW2 : (w1.alloc (.cells (Array.replicate q (.int .u8 0)) 5)).alloc _ = W2
        obtain ⟨hB2, hbx2, hby2⟩ := alc_of HB1.out hW2.symm
        have HB2 := Lib.hid hB2
        obtain ⟨bb, hbbe⟩ : ∃ bb, w1.heap.size + 1 = bb := ⟨_, rfl⟩
        obtain ⟨r, hr⟩ : ∃ r : Rw, r = ⟨k + 1, some ⟨w1.heap.size, 0, none⟩, q, q⟩ := ⟨_, rfl⟩
        have HER : Hid (encRw r = [.int .i64 ((k : Int) + 1), .slice (some ⟨w1.heap.size, 0, none⟩) q q]) := Lib.hid (by rw [hr]; rfl)
        rw [hbbe] at hbx2 ⊢
        have hmn : m < W2.heap.size := Nat.lt_of_lt_of_le hml HB2.out.size
        have c2 : W2.cell? ⟨m, 1, none⟩ = some _ := (HB2.out.cell (p := ⟨m, 1, none⟩) hml).trans c1
        have d1 := hbx2.cell (i := 0) rfl
        have d2 := hbx2.cell (i := 1) rfl
        have hbb2 : bb < W2.heap.size := hbx2.lt
        have hm2 : m < W2.heap.size := hmn
        have HM2 := Lib.hid (HM1.out.kept (HB2.out.block m hml))
        obtain ⟨TT, hTT⟩ : ∃ T, (P.map Prod.fst).take k = T := ⟨_, rfl⟩
        obtain ⟨DD, hDD⟩ : ∃ D, (P.map Prod.fst).drop k = D := ⟨_, rfl⟩
        rw [hTT] at HT2
        rw [hDD] at HD2
        have HRT := Lib.hid (fun W' (hb : Below W2.heap.size W2 W') => (HT2.out.below HB2.out).below hb)
        have HRD := Lib.hid (fun W' (hb : Below W2.heap.size W2 W') => (HD2.out.below HB2.out).below hb)
        have hl1 : TT.length ≤ 900000 := by rw [← hTT, List.length_take, List.length_map]; omega
        have hl2 : TT.length + 1 + DD.length ≤ 900001 := by rw [← hTT, ← hDD, List.length_take, List.length_drop, List.length_map]; omega
        obtain ⟨LL, hLL⟩ : ∃ LL, TT ++ [r] ++ DD = LL := ⟨_, rfl⟩
        obtain ⟨n1, hn1⟩ : ∃ n, TT.length = n := ⟨_, rfl⟩
        obtain ⟨n3, hn3⟩ : ∃ n, (TT ++ [r]).length = n := ⟨_, rfl⟩
        obtain ⟨n4, hn4⟩ : ∃ n, (TT ++ [r] ++ DD).length = n := ⟨_, rfl⟩
        have HN1 : Hid (LL.take n1 = TT) := Lib.hid (by rw [← hLL, ← hn1, List.append_assoc, List.take_left' rfl])
        have HN3 : Hid (LL.take n3 = TT ++ [r]) := Lib.hid (by rw [← hLL, ← hn3, List.take_left' rfl])
        have HN4 : Hid (LL.take n4 = TT ++ [r] ++ DD) := Lib.hid (by rw [← hLL, ← hn4, List.take_length])
        have HP1 : Hid (TT ++ [r] <+: LL) := Lib.hid ⟨DD, hLL⟩
        have HP2 : Hid (TT ++ [r] ++ DD <+: LL) := Lib.hid ⟨[], by rw [← hLL, List.append_nil]⟩
        have HMP : Hid ((P.take k ++ (r, (k + 1, Ar.zeros q)) :: P.drop k).map Prod.fst = TT ++ [r] ++ DD) := Lib.hid (by rw [List.map_append, List.map_cons, List.map_take, List.map_drop, hTT, hDD]; simp)
        have HEA : Hid (∀ W', Below W2.heap.size W2 W' → ∀ p ∈ P.take k ++ (r, (k + 1, Ar.zeros q)) :: P.drop k, p.1.h = p.2.1 ∧ RK encC (plus x w W') p.1.v p.2.2 W') := Lib.hid fun W' hb p hp => by
          have hwW : Below w.heap.size w W' := HB2.out.trans (hb.mono HB2.out.size)
          have hold : p ∈ P → p.1.h = p.2.1 ∧ RK encC (plus x w W') p.1.v p.2.2 W' := fun hp2 => by
            have h9 := HM.out.each p hp2
            exact ⟨h9.1, (h9.2.below hwW).mono fun b hb => .inl hb⟩
          rcases List.mem_append.1 hp with h | h
          · exact hold (List.mem_of_mem_take h)
          · rcases List.mem_cons.1 h with rfl | h
            · rw [hr]
              refine ⟨rfl, ?_⟩
              have hb3 := hby2.kept (hb.block _ hby2.lt)
              exact rk_zeros hb3 (.inr ⟨HB1.out.size, hb3.lt⟩)
            · exact hold (List.mem_of_mem_drop h)
        have HIDR := Lib.hid (And.intro hr hbx2)
        clear hTT hDD hLL hn1 hn3 hn4 hmn hbbe hr hbx2 hby2 hW2 hB2 HT2 HD2 c1 c0 e1 hmk
        refine wp_region_slotsTL (by simp) (leRow1 encRw 2 52 W2.heap.size LL r) (slotPhi ((fun v _ => v = ?g46) :: (fun v W' => ∃ g, v = .slice (some ⟨g, 0, none⟩) 0 0 ∧ OwnK encRw 2 52 W2.heap.size v (LL.take 0) W') :: (fun v _ => v = ?g48) :: (fun v _ => v = ?g49) :: (fun v _ => v = ?g50) :: (fun v _ => v = ?g51) :: (fun v _ => v = ?g52) :: (fun v _ => v = ?g53) :: (fun v W' => OwnK encRw 2 52 W2.heap.size v (LL.take n1) W') :: (fun v _ => v = ?g55) :: (fun v W' => ∃ g, v = .slice (some ⟨g, 0, none⟩) 1 1 ∧ Blk W' g (encRw r) 52) :: (fun v W' => OwnK encRw 2 52 W2.heap.size v (LL.take n3) W') :: (fun v _ => v = ?g58) :: (fun v _ => v = ?g59) :: (fun v _ => v = ?g60) :: (fun v _ => v = ?g61) :: (fun v _ => v = ?g62) :: (fun v _ => v = ?g63) :: (fun v W' => OwnK encRw 2 52 W2.heap.size v (LL.take n4) W') :: (fun v _ => v = ?g65) :: (fun v _ => v = ?g66) :: [])) leRow1_refl (fun h g => leRow1_trans h g) (slotPhi_by ?stb) (by kernel_rfl) (by kernel_rfl) (by kernel_rfl) (by kernel_rfl) (by kernel_rfl) ?steps ?fin
        case stb =>
          refine ⟨by intro _ _ _ _ h; exact h, ?_⟩
          refine ⟨by intro v x y hle ⟨g, e, h⟩; exact ⟨g, e, hle.1.2 v _ h⟩, ?_⟩
          refine ⟨by intro _ _ _ _ h; exact h, ?_⟩
          refine ⟨by intro _ _ _ _ h; exact h, ?_⟩
          refine ⟨by intro _ _ _ _ h; exact h, ?_⟩
          refine ⟨by intro _ _ _ _ h; exact h, ?_⟩
          refine ⟨by intro _ _ _ _ h; exact h, ?_⟩
          refine ⟨by intro _ _ _ _ h; exact h, ?_⟩
          refine ⟨by intro v x y hle h; exact hle.1.2 v _ h, ?_⟩
          refine ⟨by intro _ _ _ _ h; exact h, ?_⟩
          refine ⟨by intro v x y hle ⟨g, e, h⟩; exact ⟨g, e, hle.2 g h⟩, ?_⟩
          refine ⟨by intro v x y hle h; exact hle.1.2 v _ h, ?_⟩
          refine ⟨by intro _ _ _ _ h; exact h, ?_⟩
          refine ⟨by intro _ _ _ _ h; exact h, ?_⟩
          refine ⟨by intro _ _ _ _ h; exact h, ?_⟩
          refine ⟨by intro _ _ _ _ h; exact h, ?_⟩
          refine ⟨by intro _ _ _ _ h; exact h, ?_⟩
          refine ⟨by intro _ _ _ _ h; exact h, ?_⟩
          refine ⟨by intro v x y hle h; exact hle.1.2 v _ h, ?_⟩
          refine ⟨by intro _ _ _ _ h; exact h, ?_⟩
          refine ⟨by intro _ _ _ _ h; exact h, ?_⟩
          exact trivial
        case steps =>
          refine ⟨?_, ?_⟩
          · intro a W K N hK
            have e0 : a.tmps[0]?.getD undef = .pointer (some ⟨m, 0, none⟩) := N.was' 0 _ (by kernel_rfl) rfl
            rw [if_pos (wanted_no rfl)]
            go_simp
            refine hK _ _ (leRow1_refl _) ?_
            exact rfl
          refine ⟨?_, ?_⟩
          · intro a W K N hK
            rw [if_pos (wanted_no rfl)]
            go_simp
            refine hK _ _ (leRow1_of ((Below.refl _ _).alloc (Nat.le_refl _) _) N.le.1.1.size) ?_
            exact ⟨_, rfl, own_lit0 W N.le.1.1.size⟩
          refine ⟨?_, ?_⟩
          · intro a W K N hK
            have e0 : a.tmps[0]?.getD undef = .pointer (some ⟨m, 0, none⟩) := N.was' 0 _ (by kernel_rfl) rfl
            rw [if_pos (wanted_no rfl)]
            go_simp
            refine hK _ _ (leRow1_refl _) ?_
            exact rfl
          refine ⟨?_, ?_⟩
          · intro a W K N hK
            have e48 : a.tmps[48]?.getD undef = _ := N.dep' 2 48 (by kernel_rfl)
            rw [if_pos (wanted_no rfl)]
            go_simp
            refine hK _ _ (leRow1_refl _) ?_
            exact rfl
          refine ⟨?_, ?_⟩
          · intro a W K N hK
            have e49 : a.tmps[49]?.getD undef = _ := N.dep' 3 49 (by kernel_rfl)
            rw [if_pos (wanted_no rfl)]
            go_simp
            refine hK _ _ (leRow1_refl _) ?_
            exact rfl
          refine ⟨?_, ?_⟩
          · intro a W K N hK
            have e50 : a.tmps[50]?.getD undef = _ := N.dep' 4 50 (by kernel_rfl)
            rw [if_pos (wanted_no rfl)]
            have z := (N.le.1.1.cell (p := ⟨m, 1, none⟩) hm2).trans c2
            go_simp
            refine hK _ _ (leRow1_refl _) ?_
            exact rfl
          refine ⟨?_, ?_⟩
          · intro a W K N hK
            have e7 : a.tmps[7]?.getD undef = .int .i64 (k : Int) := N.was' 7 _ (by kernel_rfl) rfl
            rw [if_pos (wanted_no rfl)]
            go_simp
            refine hK _ _ (leRow1_refl _) ?_
            exact rfl
          refine ⟨?_, ?_⟩
          · intro a W K N hK
            have e51 : a.tmps[51]?.getD undef = _ := N.dep' 5 51 (by kernel_rfl)
            have e52 : a.tmps[52]?.getD undef = _ := N.dep' 6 52 (by kernel_rfl)
            rw [if_pos (wanted_no rfl)]
            go_simp
            refine hK _ _ (leRow1_refl _) ?_
            exact rfl
          refine ⟨?_, ?_⟩
          · intro a W K N hK
            have e47 := Lib.hid (show (fun v W' => ∃ g, v = .slice (some ⟨g, 0, none⟩) 0 0 ∧ OwnK encRw 2 52 W2.heap.size v (LL.take 0) W') (a.tmps[47]?.getD undef) W from N.dep' 1 47 (by kernel_rfl))
            have e53 : a.tmps[53]?.getD undef = _ := N.dep' 7 53 (by kernel_rfl)
            rw [if_pos (wanted_no rfl)]
            refine wp_litRK (base := W2.heap.size) encRw_len (by omega) rw_under infoRw rfl (by omega) (.tmp 47) (.tmp 53) rfl (by obtain ⟨g, e, h⟩ := e47.out; exact ⟨g, (eval_tmp a 47).trans e, by rw [e] at h; exact h⟩) _ TT ((eval_tmp a 53).trans e53) (HRT.out _ (below_undr N.le.1.1)) (by omega) N.le.1.1.size ?_
            intro v5 w5 ho5 hle5
            refine hK _ _ (leRow1_of hle5 N.le.1.1.size) ?_
            exact HN1.out ▸ ho5
          refine ⟨?_, ?_⟩
          · intro a W K N hK
            have e8 : a.tmps[8]?.getD undef = .pointer (some ⟨bb, 0, none⟩) := N.was' 8 _ (by kernel_rfl) rfl
            rw [if_pos (wanted_no rfl)]
            have z0 := (N.le.1.1.cell (p := ⟨bb, 0, none⟩) hbb2).trans d1
            have z1 := (N.le.1.1.cell (p := ⟨bb, 1, none⟩) hbb2).trans d2
            go_simp
            refine hK _ _ (leRow1_refl _) ?_
            exact rfl
          refine ⟨?_, ?_⟩
          · intro a W K N hK
            have e55 : a.tmps[55]?.getD undef = _ := N.dep' 9 55 (by kernel_rfl)
            rw [if_pos (wanted_no rfl)]
            go_simp
            refine hK _ _ (leRow1_of ((Below.refl _ _).alloc (Nat.le_refl _) _) N.le.1.1.size) ?_
            exact ⟨_, rfl, by rw [HER.out]; exact Blk.new W _ _⟩
          refine ⟨?_, ?_⟩
          · intro a W K N hK
            have e54 := Lib.hid (show (fun v W' => OwnK encRw 2 52 W2.heap.size v (LL.take n1) W') (a.tmps[54]?.getD undef) W from N.dep' 8 54 (by kernel_rfl))
            have e56 := Lib.hid (show (fun v W' => ∃ g, v = .slice (some ⟨g, 0, none⟩) 1 1 ∧ Blk W' g (encRw r) 52) (a.tmps[56]?.getD undef) W from N.dep' 10 56 (by kernel_rfl))
            rw [if_pos (wanted_no rfl)]
            obtain ⟨g6, e6, hb6⟩ := e56.out
            refine wp_apKeep (L := LL) (base := W2.heap.size) encRw_len (by omega) encRw_one rw_under infoRw rfl (by omega) (.tmp 54) (.tmp 56) rfl _ (TT) (eval_tmp a 54) (by exact (HN1.out ▸ e54.out)) _ ([r]) ((eval_tmp a 56).trans e6) (RK.blk hb6) (by first | omega | (simp only [List.length_append, List.length_singleton]; omega)) N.le.1.1.size HP1.out ?_
            intro v5 w5 ho5 hle5 hlit5
            refine hK _ _ ⟨hle5, fun g hB => hlit5 r (fun _ b hb => by cases hb; rfl) g hB⟩ ?_
            exact HN3.out ▸ ho5
          refine ⟨?_, ?_⟩
          · intro a W K N hK
            have e0 : a.tmps[0]?.getD undef = .pointer (some ⟨m, 0, none⟩) := N.was' 0 _ (by kernel_rfl) rfl
            rw [if_pos (wanted_no rfl)]
            go_simp
            refine hK _ _ (leRow1_refl _) ?_
            exact rfl
          refine ⟨?_, ?_⟩
          · intro a W K N hK
            have e58 : a.tmps[58]?.getD undef = _ := N.dep' 12 58 (by kernel_rfl)
            rw [if_pos (wanted_no rfl)]
            go_simp
            refine hK _ _ (leRow1_refl _) ?_
            exact rfl
          refine ⟨?_, ?_⟩
          · intro a W K N hK
            have e59 : a.tmps[59]?.getD undef = _ := N.dep' 13 59 (by kernel_rfl)
            rw [if_pos (wanted_no rfl)]
            go_simp
            refine hK _ _ (leRow1_refl _) ?_
            exact rfl
          refine ⟨?_, ?_⟩
          · intro a W K N hK
            have e60 : a.tmps[60]?.getD undef = _ := N.dep' 14 60 (by kernel_rfl)
            rw [if_pos (wanted_no rfl)]
            have z := (N.le.1.1.cell (p := ⟨m, 1, none⟩) hm2).trans c2
            go_simp
            refine hK _ _ (leRow1_refl _) ?_
            exact rfl
          refine ⟨?_, ?_⟩
          · intro a W K N hK
            have e7 : a.tmps[7]?.getD undef = .int .i64 (k : Int) := N.was' 7 _ (by kernel_rfl) rfl
            rw [if_pos (wanted_no rfl)]
            go_simp
            refine hK _ _ (leRow1_refl _) ?_
            exact rfl
          refine ⟨?_, ?_⟩
          · intro a W K N hK
            have e61 : a.tmps[61]?.getD undef = _ := N.dep' 15 61 (by kernel_rfl)
            have e62 : a.tmps[62]?.getD undef = _ := N.dep' 16 62 (by kernel_rfl)
            rw [if_pos (wanted_no rfl)]
            go_simp
            refine hK _ _ (leRow1_refl _) ?_
            exact rfl
          refine ⟨?_, ?_⟩
          · intro a W K N hK
            have e57 := Lib.hid (show (fun v W' => OwnK encRw 2 52 W2.heap.size v (LL.take n3) W') (a.tmps[57]?.getD undef) W from N.dep' 11 57 (by kernel_rfl))
            have e63 : a.tmps[63]?.getD undef = _ := N.dep' 17 63 (by kernel_rfl)
            rw [if_pos (wanted_no rfl)]
            refine wp_apKeep (L := LL) (base := W2.heap.size) encRw_len (by omega) encRw_one rw_under infoRw rfl (by omega) (.tmp 57) (.tmp 63) rfl _ (TT ++ [r]) (eval_tmp a 57) (by exact (HN3.out ▸ e57.out)) _ (DD) ((eval_tmp a 63).trans e63) (HRD.out _ (below_undr N.le.1.1)) (by first | omega | (simp only [List.length_append, List.length_singleton]; omega)) N.le.1.1.size HP2.out ?_
            intro v5 w5 ho5 hle5 hlit5
            refine hK _ _ ⟨hle5, fun g hB => hlit5 r (fun h => absurd h (by simp)) g hB⟩ ?_
            exact HN4.out ▸ ho5
          refine ⟨?_, ?_⟩
          · intro a W K N hK
            have e46 : a.tmps[46]?.getD undef = _ := N.dep' 0 46 (by kernel_rfl)
            rw [if_pos (wanted_no rfl)]
            go_simp
            refine hK _ _ (leRow1_refl _) ?_
            exact rfl
          refine ⟨?_, ?_⟩
          · intro a W K N hK
            have e65 : a.tmps[65]?.getD undef = _ := N.dep' 19 65 (by kernel_rfl)
            rw [if_pos (wanted_no rfl)]
            go_simp
            refine hK _ _ (leRow1_refl _) ?_
            exact rfl
          exact trivial
        case fin =>
          intro V hV
          simp only [FinAll, slotPhi, List.dropLast, List.getLast_cons_cons, List.getLast_singleton, List.getD_cons_zero, List.getD_cons_succ, forall_eq, Act.put, List.setIfInBounds_toArray, List.set_cons_zero, List.set_cons_succ]
          intro v47 h47
          intro v54 h54
          intro v56 h56
          intro v57 h57
          intro v64 h64
          have hVb := below_undr hV.1.1
          have cl := (hVb.cell (p := ⟨m, 1, none⟩) hm2).trans c2
          have fz := (HM2.out.kept (hVb.block m hm2)).frozen 1
          rw [HN4.out, ← HMP.out] at h64
          have H64 := Lib.hid h64
          obtain ⟨a5, n5, c5, e5⟩ : ∃ a n c, v64 = .slice a n c := by obtain ⟨a5, c5, e5, _⟩ := ownK_form h64; exact ⟨_, _, _, e5⟩
          subst e5
          have HVB := Lib.hid (HB2.out.trans (hVb.mono HB2.out.size))
          have HEV := Lib.hid (HEA.out V hVb)
          clear hV hVb h47 h54 h56 h57 h64
          go_wp2
          go_ret2
          exact .inr (.inr ⟨HZ.out.1, HZ.out.2, k, r, hk, HN.out, HGO.out, rfl, HM.out.put HVB.out (World.ownsRow.mono H64.out HB2.out.size) HEV.out⟩)
          
end Go.Proofs.YtdbaocphglijbaaDoor

/- The document's own table of names, in memory: find, At. -/
set_option maxRecDepth 100000
namespace Go.Proofs.YtdbaocphglijbaaDoor
open Go Go.RowKit Go.Shelf
attribute [local go_sem] Oper.semAt_some
def encE (e : Ent) : List Value := [.int .i64 (e.id : Int), .string ⟨e.name.toArray⟩, .int .i64 (e.uses : Int)]
theorem encE_len (e : Ent) : (encE e).length = 3 := rfl
theorem encE_one (e : Ent) : ∀ u ∈ encE e, u.oneCell' = true := fun u hu => by
  simp only [encE, List.mem_cons, List.not_mem_nil, or_false] at hu
  rcases hu with rfl | rfl | rfl <;> rfl
theorem infoEn : (Tryd.prog.info? 118).map (fun i => (i.zero, i.size, i.bytes)) = some (some (.agg #[.int .i64 0, .string ⟨#[]⟩, .int .i64 0]), 3, 32) := by kernel_rfl
theorem en_under : Tryd.prog.underlying 68 = some (.slice 118) := by kernel_rfl
/-- Rows of names, and the box that they lie in. -/
structure MN (x : Nat → Prop) (t m : Nat) (E : List Ent) (W : World) : Prop where
  ex : ∃ v, Blk W t [.pointer (some ⟨m, 0, none⟩), v] 70 ∧ RK encE x v E W
  mine : x t
theorem MN.same {x : Nat → Prop} {t m : Nat} {E : List Ent} {W W' : World} (h : MN x t m E W) (hk : ∀ b, x b → W'.heap[b]? = W.heap[b]?) : MN x t m E W' := by
  obtain ⟨v, h1, h2⟩ := h.ex
  exact ⟨⟨v, h1.kept (hk t h.mine), h2.same hk⟩, h.mine⟩
theorem MN.below {x : Nat → Prop} {t m : Nat} {E : List Ent} {W W' : World} (h : MN x t m E W) (hb : Below W.heap.size W W') : MN x t m E W' := by
  obtain ⟨v, h1, h2⟩ := h.ex
  exact ⟨⟨v, h1.kept (hb.block t h1.lt), h2.below hb⟩, h.mine⟩
theorem MN.mono {x y : Nat → Prop} {t m : Nat} {E : List Ent} {W : World} (h : MN x t m E W) (hxy : ∀ b, x b → y b) : MN y t m E W := by
  obtain ⟨v, h1, h2⟩ := h.ex
  exact ⟨⟨v, h1, h2.mono hxy⟩, hxy _ h.mine⟩
theorem MN.box {x : Nat → Prop} {t m : Nat} {E : List Ent} {W : World} (h : MN x t m E W) : ∃ ao cap, Blk W t [.pointer (some ⟨m, 0, none⟩), .slice ao E.length cap] 70 ∧ W.cell? ⟨t, 0, none⟩ = some (.pointer (some ⟨m, 0, none⟩)) ∧ W.cell? ⟨t, 1, none⟩ = some (.slice ao E.length cap) ∧ E.length ≤ cap ∧ RK encE x (.slice ao E.length cap) E W ∧
    ∀ i (hi : i < E.length), ∃ b off, ao = some ⟨b, off, none⟩ ∧ x b ∧ W.cell? ⟨b, off + i * 3, none⟩ = some (.int .i64 (E[i].id : Int)) ∧ W.cell? ⟨b, off + i * 3 + 1, none⟩ = some (.string ⟨E[i].name.toArray⟩) ∧ W.cell? ⟨b, off + i * 3 + 2, none⟩ = some (.int .i64 (E[i].uses : Int)) := by
  obtain ⟨v, h1, h2⟩ := h.ex
  obtain ⟨ao, cap, rfl, hc, hf⟩ := h2.form
  refine ⟨ao, cap, h1, h1.cell rfl, h1.cell rfl, hc, h2, fun i hi => ?_⟩
  obtain ⟨b, off, e, hx, c0⟩ := h2.at_ encE_len (i := i) (f := 0) hi (by omega)
  obtain ⟨b1, off1, e1, _, c1⟩ := h2.at_ encE_len (i := i) (f := 1) hi (by omega)
  obtain ⟨b2, off2, e2, _, c2⟩ := h2.at_ encE_len (i := i) (f := 2) hi (by omega)
  rw [e] at e1 e2
  cases e1
  cases e2
  rw [Nat.add_zero] at c0
  exact ⟨b, off, e, hx, c0, by rw [Nat.add_assoc]; exact c1, by rw [Nat.add_assoc]; exact c2⟩
def TAtRet (E : List Ent) (z : Int) (w : World) (e : Ending) (w' : World) : Prop := ((∃ (i : Nat) (hi : i < E.length), e = .returned (.int .i64 (i : Int)) ∧ (E[i].id : Int) = z) ∨ (e = .returned (.int .i64 (-1)) ∧ ∀ y ∈ E, (y.id : Int) ≠ z)) ∧ w = w'
def TFindRet (E : List Ent) (l : List UInt8) (w : World) (e : Ending) (w' : World) : Prop := ((∃ (i : Nat) (hi : i < E.length), e = .returned (.int .i64 (i : Int)) ∧ E[i].name = l) ∨ (e = .returned (.int .i64 (-1)) ∧ ∀ y ∈ E, y.name ≠ l)) ∧ w = w'
set_option maxHeartbeats 4000000 in
theorem mtAt_any (x : Nat → Prop) (t m : Nat) (E : List Ent) (z : Int) (w : World) (h : MN x t m E w) (hl : E.length ≤ 1000000) :
    Calls Tryd.prog 80 #[.pointer (some ⟨t, 0, none⟩), .int .i64 z] w (TAtRet E z w) := by
  obtain ⟨ao, cap, _, _, c1, hcap, _, hrow⟩ := h.box
  have HR := Lib.hid hrow
  clear hrow h
  go_enter Tryd.func80, Tryd.ntmps80
  go_wp2
  go_loop [5] (fun i => ∃ k : Nat, i = .int .i64 (k : Int) ∧ k ≤ E.length ∧ Hid (∀ i (h : i < E.length), i < k → (E[i].id : Int) ≠ z)) (fun i => E.length + 1 - (intOf i).toNat)
  case atStart => exact ⟨0, rfl, Nat.zero_le _, Lib.hid fun i h h2 => by omega⟩
  case round =>
    obtain ⟨k, rfl, hk, HN⟩ := hrel
    by_cases hlt : k < E.length
    · obtain ⟨b, off, rfl, hx, d0, _⟩ := HR.out k hlt
      obtain ⟨q, hq⟩ : ∃ q, E[k].id = q := ⟨_, rfl⟩
      rw [hq] at d0
      by_cases hz : (q : Int) = z
      · have HQ : Hid ((E[k].id : Int) = z) := Lib.hid (by rw [hq]; exact hz)
        have hb : ((q : Int) == z) = true := by rw [hz]; exact beq_self_eq_true z
        clear hq hz HN
        go_wp2
        go_ret
        exact ⟨.inl ⟨k, hlt, rfl, HQ.out⟩, rfl⟩
      · have HQ : Hid (∀ i (h : i < E.length), i < k + 1 → (E[i].id : Int) ≠ z) := Lib.hid fun i h h2 => by
          by_cases e : i = k
          · subst e; rw [hq]; exact hz
          · exact HN.out i h (by omega)
        have hb : ((q : Int) == z) = false := by rw [beq_eq_false_iff_ne]; exact hz
        clear hq hz HN
        go_wp2
        go_round
        case rel => exact ⟨k + 1, by go_num, by omega, HQ⟩
        case measure => simp [intOf]; omega
    · obtain rfl : k = E.length := by omega
      go_wp2
      go_ret
      exact ⟨.inr ⟨rfl, fun p hp => by obtain ⟨i, hi, rfl⟩ := List.mem_iff_getElem.1 hp; exact HN.out i hi hi⟩, rfl⟩
set_option maxHeartbeats 4000000 in
theorem mtfind_any (x : Nat → Prop) (t m : Nat) (E : List Ent) (l : List UInt8) (w : World) (h : MN x t m E w) (hl : E.length ≤ 1000000) :
    Calls Tryd.prog 77 #[.pointer (some ⟨t, 0, none⟩), .string ⟨l.toArray⟩] w (TFindRet E l w) := by
  obtain ⟨ao, cap, _, _, c1, hcap, _, hrow⟩ := h.box
  have HR := Lib.hid hrow
  clear hrow h
  go_enter Tryd.func77, Tryd.ntmps77
  go_wp2
  go_loop [5] (fun i => ∃ k : Nat, i = .int .i64 (k : Int) ∧ k ≤ E.length ∧ Hid (∀ i (h : i < E.length), i < k → E[i].name ≠ l)) (fun i => E.length + 1 - (intOf i).toNat)
  case atStart => exact ⟨0, rfl, Nat.zero_le _, Lib.hid fun i h h2 => by omega⟩
  case round =>
    obtain ⟨k, rfl, hk, HN⟩ := hrel
    by_cases hlt : k < E.length
    · obtain ⟨b, off, rfl, hx, _, d0, _⟩ := HR.out k hlt
      obtain ⟨q, hq⟩ : ∃ q, E[k].name = q := ⟨_, rfl⟩
      rw [hq] at d0
      by_cases hz : q = l
      · have HQ : Hid (E[k].name = l) := Lib.hid (by rw [hq]; exact hz)
        have hb : (q == l) = true := by rw [hz]; exact beq_self_eq_true l
        clear hq hz HN
        go_wp2
        go_ret
        exact ⟨.inl ⟨k, hlt, rfl, HQ.out⟩, rfl⟩
      · have HQ : Hid (∀ i (h : i < E.length), i < k + 1 → E[i].name ≠ l) := Lib.hid fun i h h2 => by
          by_cases e : i = k
          · subst e; rw [hq]; exact hz
          · exact HN.out i h (by omega)
        have hb : (q == l) = false := by rw [beq_eq_false_iff_ne]; exact hz
        clear hq hz HN
        go_wp2
        go_round
        case rel => exact ⟨k + 1, by go_num, by omega, HQ⟩
        case measure => simp [intOf]; omega
    · obtain rfl : k = E.length := by omega
      go_wp2
      go_ret
      exact ⟨.inr ⟨rfl, fun p hp => by obtain ⟨i, hi, rfl⟩ := List.mem_iff_getElem.1 hp; exact HN.out i hi hi⟩, rfl⟩
end Go.Proofs.YtdbaocphglijbaaDoor

/- The document's own table: rows that are copied, and one number in them changed. -/
set_option maxRecDepth 100000
namespace Go.Proofs.YtdbaocphglijbaaDoor
open Go Go.RowKit Go.Shelf
attribute [local go_sem] Oper.semAt_some
section
variable {α : Type} {enc : α → List Value} {k : Nat} {e : TypeId} {base : Nat} {L : List α}
theorem wpList_litRK {P : Program} (hk : ∀ a, (enc a).length = k) (h0 : 0 < k) {x : Nat → Prop} {w : World} {t : TypeId} {z : Value} {bytes : Nat} (h1 : P.underlying t = some (.slice e))
    (h2 : (P.info? e).map (fun i => (i.zero, i.size, i.bytes)) = some (some z, k, bytes)) (hz : z.cells.size = k) (b2 : bytes ≤ 1000) {ops : Array Oper} {rest : List Oper} {o : Oper} {a : Act} {Q : Exit → Act → World → Prop} (hg : o.guard = none)
    (s y : Operand) (hop : o.op = Op.call { callee := Callee.builtin Builtin.append, args := #[s, y], argTypes := #[t, t] })
    (base g : Nat) (hs : a.eval s = .slice (some ⟨g, 0, none⟩) 0 0) (hown : OwnK enc k e base (.slice (some ⟨g, 0, none⟩) 0 0) [] w) (yv : Value) (news : List α) (hy : a.eval y = yv) (hr : RK enc x yv news w) (b1 : news.length ≤ 1000000) (hb : base ≤ w.heap.size)
    (hK : ∀ v' w', OwnK enc k e base v' news w' → Below w.heap.size w w' → wpList P ops Q rest (a.put o.dst v') w') : wpList P ops Q (o :: rest) a w :=
  wpList_plain hg fun _ hK' => wp_litRK (base := base) hk h0 h1 h2 hz b2 s y hop ⟨g, hs, hown⟩ yv news hy hr b1 hb fun v' w' r1 r2 => hK' _ _ (hK v' w' r1 r2)
theorem wpList_apRK {P : Program} (hk : ∀ a, (enc a).length = k) (h0 : 0 < k) (henc : ∀ a, ∀ u ∈ enc a, u.oneCell' = true) {x : Nat → Prop} {w : World} {t : TypeId} {z : Value} {bytes : Nat} (h1 : P.underlying t = some (.slice e))
    (h2 : (P.info? e).map (fun i => (i.zero, i.size, i.bytes)) = some (some z, k, bytes)) (hz : z.cells.size = k) (b2 : bytes ≤ 1000) {ops : Array Oper} {rest : List Oper} {o : Oper} {a : Act} {Q : Exit → Act → World → Prop} (hg : o.guard = none)
    (s y : Operand) (hop : o.op = Op.call { callee := Callee.builtin Builtin.append, args := #[s, y], argTypes := #[t, t] })
    (base : Nat) (v : Value) (l : List α) (hs : a.eval s = v) (hown : OwnK enc k e base v l w) (yv : Value) (news : List α) (hy : a.eval y = yv) (hr : RK enc x yv news w) (b1 : l.length + news.length ≤ 1000000) (hb : base ≤ w.heap.size)
    (hK : ∀ v' w', OwnK enc k e base v' (l ++ news) w' → Below base w w' → wpList P ops Q rest (a.put o.dst v') w') : wpList P ops Q (o :: rest) a w :=
  wpList_plain hg fun _ hK' => wp_apKeep (base := base) (L := l ++ news) hk h0 henc h1 h2 hz b2 s y hop v l hs hown yv news hy hr b1 hb (List.prefix_refl _) fun v' w' r1 r2 _ => hK' _ _ (hK v' w' r1 r2.1)
end
theorem flatE_set : ∀ (E : List Ent) (i : Nat) (h : i < E.length) (u : Nat), (E.flatMap encE).set (i * 3 + 2) (.int .i64 (u : Int)) = (E.set i ⟨E[i].id, u, E[i].name⟩).flatMap encE
  | [], i, h, u => by simp at h
  | y :: E, 0, h, u => by simp [encE]
  | y :: E, i + 1, h, u => by
    have ih := flatE_set E i (by simpa using h) u
    have e1 : (i + 1) * 3 + 2 = (encE y).length + (i * 3 + 2) := by rw [encE_len, Nat.succ_mul]; omega
    rw [List.flatMap_cons, e1, List.set_append_right _ _ (by omega), Nat.add_sub_cancel_left, ih, List.set_cons_succ, List.flatMap_cons]
    rfl
theorem ownE_set {base g n c : Nat} {E : List Ent} {W : World} (h : OwnK encE 3 118 base (.slice (some ⟨g, 0, none⟩) n c) E W) {i : Nat} (hi : i < E.length) (u : Nat) :
    OwnK encE 3 118 base (.slice (some ⟨g, 0, none⟩) n c) (E.set i ⟨E[i].id, u, E[i].name⟩) (W.setCell ⟨g, 0 + i * 3 + 2, none⟩ (.int .i64 (u : Int))) := by
  have hl := h.1
  rcases h.2 with ⟨e1, _⟩ | ⟨g', cap, cur, e1, hb, hg, hn, hc, hs, ht⟩
  · cases e1
  · injection e1 with e1 e2 e3
    injection e1 with e1
    injection e1 with e1
    subst e1 e2 e3
    have hblk : Blk W g cur.toList 118 := by show W.heap[g]? = some (.cells cur.toList.toArray 118 (0, 0)); rw [hg]
    have hset := hblk.set (0 + i * 3 + 2) (.int .i64 (u : Int))
    refine ⟨?_, .inr ⟨g, c, _, by rw [List.length_set], hb, hset, by rw [List.length_set]; exact hn, hc, ?_, ?_⟩⟩
    · rw [← flatE_set E i hi u, List.length_set, List.length_set]; exact hl
    · rw [List.size_toArray, List.length_set, Array.length_toList]; exact hs
    · rw [List.toList_toArray, List.length_set, List.take_set, ht, Nat.zero_add, flatE_set E i hi u]
def TRet (x : Nat → Prop) (t m : Nat) (E : List Ent) (w w' : World) : Prop := MN (plus x w w') t m E w' ∧ Trn (fun k => k = t) w w'
/-- New rows are laid into the box. -/
theorem MN.put {x : Nat → Prop} {t m : Nat} {E E' : List Ent} {w w1 : World} {v : Value} (h : MN x t m E w) (hb : Below w.heap.size w w1) (hv : OwnK encE 3 118 w.heap.size v E' w1) :
    TRet x t m E' w (w1.setCell ⟨t, 1, none⟩ v) ∧ OwnK encE 3 118 w.heap.size v E' (w1.setCell ⟨t, 1, none⟩ v) := by
  obtain ⟨v0, h1, h2⟩ := h.ex
  have hs : (w1.setCell ⟨t, 1, none⟩ v).heap.size = w1.heap.size := by simp [World.setCell]
  have hm1 : Blk w1 t [.pointer (some ⟨m, 0, none⟩), v0] 70 := h1.kept (hb.block t h1.lt)
  have hT : Trn (fun k => k = t) w (w1.setCell ⟨t, 1, none⟩ v) := (Trn.of_below hb).trans (Trn.set hm1 (.inl rfl) 1 v)
  have hO : OwnK encE 3 118 w.heap.size v E' (w1.setCell ⟨t, 1, none⟩ v) := by
    refine ownK_grown (row := some t) hv ⟨rfl, rfl, rfl, by simp [World.setCell], fun k _ hk => Below.heap_setCell w1 ⟨t, 1, none⟩ v k (fun e => hk (by rw [e]))⟩ fun g hg e => ?_
    have := (ownBlock_in hv g hg).1
    have := h1.lt
    injection e with e
    omega
  refine ⟨⟨⟨⟨v, hm1.set 1 v, ?_⟩, .inl h.mine⟩, hT⟩, hO⟩
  exact RK.own hO fun b hb2 => .inr (ownBlock_in hO b hb2)
/-- A number in one of the rows just made is changed. -/
theorem TRet.uses {x : Nat → Prop} {t m : Nat} {E : List Ent} {w w1 : World} {g c : Nat} (h : TRet x t m E w w1) (hc : w1.cell? ⟨t, 1, none⟩ = some (.slice (some ⟨g, 0, none⟩) E.length c)) (hO : OwnK encE 3 118 w.heap.size (.slice (some ⟨g, 0, none⟩) E.length c) E w1) (ht : t < w.heap.size) {i : Nat} (hi : i < E.length) (u : Nat) :
    TRet x t m (E.set i ⟨E[i].id, u, E[i].name⟩) w (w1.setCell ⟨g, 0 + i * 3 + 2, none⟩ (.int .i64 (u : Int))) ∧ OwnK encE 3 118 w.heap.size (.slice (some ⟨g, 0, none⟩) E.length c) (E.set i ⟨E[i].id, u, E[i].name⟩) (w1.setCell ⟨g, 0 + i * 3 + 2, none⟩ (.int .i64 (u : Int))) := by
  obtain ⟨⟨⟨v, h1, h2⟩, hm⟩, hT⟩ := h
  have hv : v = .slice (some ⟨g, 0, none⟩) E.length c := by
    have := h1.cell (i := 1) (v := v) rfl
    rw [this] at hc
    exact Option.some.inj hc
  subst hv
  have hgb := ownBlock_in hO g rfl
  have hO2 := ownE_set hO hi u
  have hs : (w1.setCell ⟨g, 0 + i * 3 + 2, none⟩ (.int .i64 (u : Int))).heap.size = w1.heap.size := by simp [World.setCell]
  have hcur : ∃ cur, Blk w1 g cur 118 := by
    rcases hO.2 with ⟨e1, _⟩ | ⟨g', cap, cur, e1, hb, hg, _⟩
    · cases e1
    · injection e1 with e1 e2 e3
      injection e1 with e1
      injection e1 with e1
      subst e1
      exact ⟨cur.toList, hg⟩
  obtain ⟨cur, hcur⟩ := hcur
  refine ⟨⟨⟨⟨_, h1.other (by omega) _ _, ?_⟩, ?_⟩, hT.trans (Trn.set hcur (.inr hgb) _ _)⟩, hO2⟩
  · exact RK.own hO2 fun b hb => .inr (ownBlock_in hO2 b hb)
  · unfold plus at hm ⊢
    rw [hs]; exact hm
end Go.Proofs.YtdbaocphglijbaaDoor

/- The document's own arena: Read. -/
set_option maxRecDepth 100000
namespace Go.Proofs.YtdbaocphglijbaaDoor
open Go Go.RowKit Go.Shelf
attribute [local go_sem] Oper.semAt_some
/-- s[m:q]. -/
theorem run_cutK {α : Type} {enc : α → List Value} {x : Nat → Prop} {l : List α} {W : World} {P : Program} {k : Nat} (hk : ∀ a, (enc a).length = k) {t e : TypeId} {z : Value} {bytes : Nat} (h1 : P.underlying t = some (.slice e)) (h2 : (P.info? e).map (fun i => (i.zero, i.size, i.bytes)) = some (some z, k, bytes)) {ao : Option Addr} {n cap : Nat} (h : RK enc x (.slice ao n cap) l W) {m q : Nat} (hm : m ≤ q) (hq : q ≤ l.length) :
    ∃ v, (∀ W' : World, (Instr.slice t (.slice ao n cap) (some (.int .i64 (m : Int))) (some (.int .i64 (q : Int))) none).run P W' = .ok v W') ∧ RK enc x v ((l.take q).drop m) W := by
  obtain ⟨rfl, hcap⟩ := h.len
  have hs : ∀ W', (sizeOf e).run P W' = .ok k W' := fun W' => by
    obtain ⟨i, hi, _, h1, _⟩ := info_parts h2
    simp [sizeOf, typeInfo, hi, h1]
  have he : P.elem t = e := by simp [Program.elem, h1]
  subst he
  refine ⟨sliced ao m q cap k, fun W' => by rw [run_slice_lh (w := W') t ao l.length cap h1 .i64 .i64 (m : Int) (q : Int) (by omega) (by omega) (by omega), hs W']; rfl, ?_⟩
  obtain ⟨ao', cap', e', hc, hfm⟩ := h.form
  cases e'
  unfold sliced
  refine ⟨_, _, by rw [List.length_drop, List.length_take, Nat.min_eq_left hq], by rw [List.length_drop, List.length_take]; omega, fun j u hu => ?_⟩
  have hj : j < ((l.take q).drop m).length * k := by
    rw [← flat_len enc k hk]
    exact (List.getElem?_eq_some_iff.1 hu).1
  rw [flat_drop hk] at hu
  obtain ⟨b, off, rfl, hx, c⟩ := hfm _ u (flat_take hk q l _ u hu)
  have hne : ¬ cap = m := fun e => by
    rw [List.length_drop, List.length_take] at hj
    have : min q l.length - m = 0 := by omega
    rw [this] at hj
    omega
  exact ⟨b, off + m * k, by rw [if_neg hne]; simp [Addr.add], hx, by rw [Nat.add_assoc]; exact c⟩
theorem own_litC {n : Nat} (W : World) (h : n ≤ W.heap.size) : OwnK encC 1 5 n (.slice (some ⟨W.heap.size, 0, none⟩) 0 0) [] (W.alloc (.cells #[] 5)) :=
  World.ownsRow_lit (base := n) (e := 5) (size := 1) W #[] 0 h (by simp) rfl
def MReadRet (P : List Rp) (z at_ n : Int) (w : World) (e : Ending) (w' : World) : Prop :=
  Below w.heap.size w w' ∧ (((∀ p ∈ P, (p.2.1 : Int) ≠ z) ∧ e = .returned (.tuple #[.slice none 0 0, .int .i64 5])) ∨ ∃ (i : Nat) (hi : i < P.length), (P[i].2.1 : Int) = z ∧
    ((¬ Within P[i].2.2.length at_ n ∧ e = .returned (.tuple #[.slice none 0 0, .int .i64 1])) ∨ (Within P[i].2.2.length at_ n ∧ ∃ v l, l = (P[i].2.2.drop at_.toNat).take n.toNat ∧ e = .returned (.tuple #[v, .int .i64 0]) ∧ OwnK encC 1 5 w.heap.size v l w')))
set_option maxHeartbeats 8000000 in
theorem mread_any (x : Nat → Prop) (m B : Nat) (P : List Rp) (z a n : Int) (w : World) (h : MA x m B P w) (hl : P.length ≤ 900000) (he : ∀ p ∈ P, p.2.2.length ≤ 4096)
    (hI1 : -9223372036854775808 ≤ a) (hI2 : a ≤ 9223372036854775807) (hI3 : -9223372036854775808 ≤ n) (hI4 : n ≤ 9223372036854775807) :
    Calls Tryd.prog 22 #[.pointer (some ⟨m, 0, none⟩), .int .i64 z, .int .i64 a, .int .i64 n] w (MReadRet P z a n w) := by
  have HAT := Lib.hid (mat_any x m B P z w h (by omega))
  have HM := Lib.hid h
  have HE := Lib.hid he
  obtain ⟨ao, cap, c0, c1, hcap, hrk, hrow⟩ := h.box
  have HROW := Lib.hid hrow
  clear hrow h hrk he
  go_enter Tryd.func22, Tryd.ntmps22
  go_wp2_with fail
  refine HAT.out.mono ?_
  rintro e w' ⟨⟨i, hi, rfl, hz⟩ | ⟨rfl, hn⟩, rfl⟩
  · obtain ⟨b, off, rfl, hx, d0, d1⟩ := HROW.out i hi
    have hlb := HE.out P[i] (List.getElem_mem hi)
    have hrc := (HM.out.each P[i] (List.getElem_mem hi)).2
    obtain ⟨ao2, c2, hv⟩ := Rp.form hrc
    obtain ⟨q, hq⟩ : ∃ q, P[i].2.2 = q := ⟨_, rfl⟩
    rw [hv] at d1 hrc
    rw [hq] at d1 hrc hlb
    obtain ⟨nq, hnq⟩ : ∃ nq, q.length = nq := ⟨_, rfl⟩
    rw [hnq] at d1 hrc hlb
    have HRC := Lib.hid hrc
    have HRET : Hid (∀ e w', (Below w.heap.size w w' ∧ ((¬ Within nq a n ∧ e = .returned (.tuple #[.slice none 0 0, .int .i64 1])) ∨ (Within nq a n ∧ ∃ v l, l = (q.drop a.toNat).take n.toNat ∧ e = .returned (.tuple #[v, .int .i64 0]) ∧ OwnK encC 1 5 w.heap.size v l w'))) → MReadRet P z a n w e w') :=
      Lib.hid fun e w' ⟨h1, h2⟩ => ⟨h1, .inr ⟨i, hi, hz, by rw [hq, hnq]; exact h2⟩⟩
    clear hz hrc hv hq
    by_cases ha : a < 0
    · go_wp2
      go_ret2
      exact HRET.out _ _ ⟨Below.refl _ _, .inl ⟨fun h => by have := h.1; omega, rfl⟩⟩
    · by_cases hn0 : n < 0
      · go_wp2
        go_ret2
        exact HRET.out _ _ ⟨Below.refl _ _, .inl ⟨fun h => by have := h.2.1; omega, rfl⟩⟩
      · obtain ⟨a, rfl⟩ : ∃ k : Nat, a = (k : Int) := ⟨a.toNat, by omega⟩
        obtain ⟨n, rfl⟩ : ∃ k : Nat, n = (k : Int) := ⟨n.toNat, by omega⟩
        by_cases ha2 : nq < a
        · go_wp2
          go_ret2
          exact HRET.out _ _ ⟨Below.refl _ _, .inl ⟨fun h => by have := h.2.2.1; omega, rfl⟩⟩
        · have hwr : IntKind.i64.wrap ((nq : Int) - (a : Int)) = (nq : Int) - (a : Int) := by rw [IntKind.wrap_i64]; omega
          by_cases hn2 : (nq : Int) - (a : Int) < (n : Int)
          · go_wp2
            go_ret2
            exact HRET.out _ _ ⟨Below.refl _ _, .inl ⟨fun h => by have := h.2.2.2; omega, rfl⟩⟩
          · have hwa : IntKind.i64.wrap ((a : Int) + (n : Int)) = (a : Int) + (n : Int) := by rw [IntKind.wrap_i64]; omega
            obtain ⟨vc, hc1, hc2⟩ := run_cutK (P := Tryd.prog) encC_len Tryd.underlying34 infoU8 HRC.out (m := a) (q := a + n) (by omega) (by omega)
            rw [show ((a + n : Nat) : Int) = (a : Int) + (n : Int) by norm_cast] at hc1
            have HRK := Lib.hid hc2
            have hcl : ((q.take (a + n)).drop a).length = n := by rw [List.length_drop, List.length_take, hnq]; omega
            have hce : (q.take (a + n)).drop a = (q.drop a).take n := by rw [List.drop_take, Nat.add_sub_cancel_left]
            have HCL := Lib.hid hcl
            have HCE := Lib.hid hce
            clear hc2 hcl hce
            go_wp2_with (first
              | (at_builtin; go_loud (refine wpList_litRK encC_len (by omega) Tryd.underlying34 infoU8 rfl (by omega) rfl _ _ rfl w.heap.size w.heap.size rfl (own_litC w (Nat.le_refl _)) vc _ rfl (HRK.out.below ((Below.refl _ _).alloc (Nat.le_refl _) _)) (by rw [HCL.out]; omega) (by simp) ?_; intro v4 w4 ho4 hb4; have HO4 := Lib.hid ho4; have HB4 := Lib.hid hb4; clear ho4 hb4; refine Hid.out ?_)))
            refine Lib.hid ?_
            go_wp2
            go_ret2
            exact HRET.out _ _ ⟨((Below.refl _ _).alloc (Nat.le_refl _) _).trans (HB4.out.mono (by simp)), .inr ⟨⟨by omega, by omega, by omega, by omega⟩, _, _, HCE.out, rfl, HO4.out⟩⟩
  · go_wp2
    go_ret2
    exact ⟨Below.refl _ _, .inl ⟨hn, rfl⟩⟩
end Go.Proofs.YtdbaocphglijbaaDoor

/- The document's own arena: Write, what it is made of. -/
set_option maxRecDepth 100000
namespace Go.Proofs.YtdbaocphglijbaaDoor
open Go Go.RowKit Go.Shelf
attribute [local go_sem] Oper.semAt_some
section
variable {α : Type} {enc : α → List Value} {k : Nat}
theorem flatK_set (hk : ∀ a, (enc a).length = k) : ∀ (L : List α) (i : Nat) (h : i < L.length) (f : Nat) (u : Value) (a : α), f < k → enc a = (enc L[i]).set f u → (L.flatMap enc).set (i * k + f) u = (L.set i a).flatMap enc
  | [], i, h, f, u, a, _, _ => by simp at h
  | y :: L, 0, h, f, u, a, hf, ha => by
    rw [Nat.zero_mul, Nat.zero_add, List.flatMap_cons, List.set_append_left _ _ (by rw [hk]; exact hf), List.set_cons_zero, List.flatMap_cons, ha]
    rfl
  | y :: L, i + 1, h, f, u, a, hf, ha => by
    have ih := flatK_set hk L i (by simpa using h) f u a hf ha
    have e1 : (i + 1) * k + f = (enc y).length + (i * k + f) := by rw [hk, Nat.succ_mul]; omega
    rw [List.flatMap_cons, e1, List.set_append_right _ _ (by omega), Nat.add_sub_cancel_left, ih, List.set_cons_succ, List.flatMap_cons]
theorem ownK_set (hk : ∀ a, (enc a).length = k) {e : TypeId} {base g n c : Nat} {L : List α} {W : World} (h : OwnK enc k e base (.slice (some ⟨g, 0, none⟩) n c) L W) {i f : Nat} (hi : i < L.length) (hf : f < k) {u : Value} {a : α} (ha : enc a = (enc L[i]).set f u) {q : Nat} (hq : q = i * k + f) :
    OwnK enc k e base (.slice (some ⟨g, 0, none⟩) n c) (L.set i a) (W.setCell ⟨g, q, none⟩ u) := by
  subst hq
  have hl := h.1
  rcases h.2 with ⟨e1, _⟩ | ⟨g', cap, cur, e1, hb, hg, hn, hc, hs, ht⟩
  · cases e1
  · injection e1 with e1 e2 e3
    injection e1 with e1
    injection e1 with e1
    subst e1 e2 e3
    have hblk : Blk W g cur.toList e := by show W.heap[g]? = some (.cells cur.toList.toArray e (0, 0)); rw [hg]
    have hset := hblk.set (i * k + f) u
    refine ⟨?_, .inr ⟨g, c, _, by rw [List.length_set], hb, hset, by rw [List.length_set]; exact hn, hc, ?_, ?_⟩⟩
    · rw [← flatK_set hk L i hi f u a hf ha, List.length_set, List.length_set]; exact hl
    · rw [List.size_toArray, List.length_set, Array.length_toList]; exact hs
    · rw [List.toList_toArray, List.length_set, List.take_set, ht, flatK_set hk L i hi f u a hf ha]
end
theorem put_one (q : List UInt8) (a : Nat) (l : List UInt8) (h : a + l.length ≤ q.length) {k : Nat} (hk : k < l.length) : (Ar.put q a (l.take k)).set (a + k) l[k] = Ar.put q a (l.take (k + 1)) := by
  unfold Ar.put
  have e1 : (l.take k).length = k := by rw [List.length_take]; omega
  have e2 : (l.take (k + 1)).length = k + 1 := by rw [List.length_take]; omega
  have e3 : (q.take a ++ l.take k).length = a + k := by rw [List.length_append, List.length_take, e1]; omega
  rw [e1, e2, List.set_append_right _ _ (by omega), e3, Nat.sub_self, List.drop_eq_getElem_cons (show a + k < q.length by omega), List.set_cons_zero, List.take_succ_eq_append_getElem hk, List.append_assoc, List.append_assoc, List.append_assoc]
  rfl
theorem put_none (q : List UInt8) (a : Nat) : Ar.put q a [] = q := by simp [Ar.put]
/-- The bytes of a block are left alone by all that changes nothing but the arena's box. -/
theorem MA.bytes {x : Nat → Prop} {m B : Nat} {P : List Rp} {w W : World} (h : MA x m B P w) (hT : Trn (fun k => k = m) w W) : ∀ p ∈ P, p.1.h = p.2.1 ∧ RK encC x p.1.v p.2.2 W := fun p hp => by
  obtain ⟨v0, h1, h2⟩ := h.ex
  refine ⟨(h.each p hp).1, ?_⟩
  obtain ⟨ao, cap, e, hc, hf⟩ := (h.each p hp).2.form
  refine ⟨ao, cap, e, hc, fun j u hu => ?_⟩
  obtain ⟨b, off, e, hx, c⟩ := hf j u hu
  refine ⟨b, off, e, hx, ?_⟩
  have hbm : b ≠ m := fun e2 => by
    subst e2
    have hu2 : ∃ c, u = encB c := by
      rw [flatC] at hu
      obtain ⟨c, _, hc⟩ := List.mem_map.1 (List.mem_of_getElem? hu)
      exact ⟨c, hc.symm⟩
    obtain ⟨c', rfl⟩ := hu2
    have h3 : w.cell? ⟨b, off + j, none⟩ = [Value.int .i64 (B : Int), v0].toArray[off + j]? := by
      show (match w.heap[b]? with | some (.cells c _ _) => c[off + j]? | _ => none) = _
      rw [show w.heap[b]? = _ from h1]
    rw [c] at h3
    match hq : off + j, h3 with
    | 0, h3 => simp [encB] at h3
    | 1, h3 =>
      simp only [List.getElem?_toArray, List.getElem?_cons_succ, List.getElem?_cons_zero, Option.some.injEq] at h3
      obtain ⟨ao', cap', e', _⟩ := h2.form
      rw [e'] at h3
      cases h3
    | n + 2, h3 => simp at h3
  rw [cell_same (hT.block b (cell_lt c) hbm)]
  exact c
/-- One row's bytes are others. -/
theorem MA.row {x : Nat → Prop} {m B : Nat} {P : List Rp} {w w5 : World} {g c : Nat} (h : MA x m B P w) (hb : Below w.heap.size w w5) {i : Nat} (hi : i < P.length) {ao : Option Addr} {n cc : Nat} {l : List UInt8}
    (hO : OwnK encC 1 5 w.heap.size (.slice ao n cc) l w5) (hR : OwnK encRw 2 52 w.heap.size (.slice (some ⟨g, 0, none⟩) P.length c) (P.map Prod.fst) w5) (hg : ∀ b, (Value.slice ao n cc).ownBlock = some b → b ≠ g) :
    MRet x m B (P.set i (⟨P[i].1.h, ao, n, cc⟩, (P[i].2.1, l))) w ((w5.setCell ⟨m, 1, none⟩ (.slice (some ⟨g, 0, none⟩) P.length c)).setCell ⟨g, i * 2 + 1, none⟩ (.slice ao n cc)) := by
  obtain ⟨v0, h1, h2⟩ := h.ex
  have hgb := ownBlock_in hR g rfl
  have hm := h1.lt
  have hm1 : Blk w5 m [.int .i64 (B : Int), v0] 33 := h1.kept (hb.block m h1.lt)
  obtain ⟨W5, hW5⟩ : ∃ W5, w5.setCell ⟨m, 1, none⟩ (.slice (some ⟨g, 0, none⟩) P.length c) = W5 := ⟨_, rfl⟩
  have hs5 : W5.heap.size = w5.heap.size := by rw [← hW5]; simp [World.setCell]
  have hk5 : ∀ b, b ≠ m → W5.heap[b]? = w5.heap[b]? := fun b hb => by rw [← hW5]; exact Below.heap_setCell w5 ⟨m, 1, none⟩ _ b hb
  have hm5 : Blk W5 m [.int .i64 (B : Int), .slice (some ⟨g, 0, none⟩) P.length c] 33 := by rw [← hW5]; exact hm1.set 1 _
  have hT5 : Trn (fun k => k = m) w W5 := by rw [← hW5]; exact (Trn.of_below hb).trans (Trn.set hm1 (.inl rfl) 1 _)
  have hR5 : OwnK encRw 2 52 w.heap.size (.slice (some ⟨g, 0, none⟩) P.length c) (P.map Prod.fst) W5 := by
    rw [← hW5]
    refine ownK_grown (row := some m) hR ⟨rfl, rfl, rfl, by simp [World.setCell], fun k _ hk => Below.heap_setCell w5 ⟨m, 1, none⟩ _ k (fun e => hk (by rw [e]))⟩ fun g' hg' e => ?_
    have := (ownBlock_in hR g' hg').1
    injection e with e
    omega
  rw [hW5]
  have hcur : ∃ cur, Blk W5 g cur 52 := by
    rcases hR5.2 with ⟨e1, _⟩ | ⟨g', cap, cur, e1, _, hg', _⟩
    · cases e1
    · injection e1 with e1
      injection e1 with e1
      injection e1 with e1
      subst e1
      exact ⟨cur.toList, hg'⟩
  obtain ⟨cur, hcur⟩ := hcur
  obtain ⟨W6, hW6⟩ : ∃ W6, W5.setCell ⟨g, i * 2 + 1, none⟩ (.slice ao n cc) = W6 := ⟨_, rfl⟩
  have hs6 : W6.heap.size = w5.heap.size := by rw [← hW6, ← hs5]; simp [World.setCell]
  have hk6 : ∀ b, b ≠ m → b ≠ g → W6.heap[b]? = w5.heap[b]? := fun b hb1 hb2 => by rw [← hW6]; exact (Below.heap_setCell W5 ⟨g, i * 2 + 1, none⟩ _ b hb2).trans (hk5 b hb1)
  have hm6 : Blk W6 m [.int .i64 (B : Int), .slice (some ⟨g, 0, none⟩) P.length c] 33 := by rw [← hW6]; exact hm5.other (by omega) _ _
  have hT6 : Trn (fun k => k = m) w W6 := by rw [← hW6]; exact hT5.trans (Trn.set hcur (.inr ⟨hgb.1, by rw [hs5]; exact hgb.2⟩) _ _)
  have hset : (P.map Prod.fst).set i ⟨P[i].1.h, ao, n, cc⟩ = (P.set i (⟨P[i].1.h, ao, n, cc⟩, (P[i].2.1, l))).map Prod.fst := by rw [List.map_set]
  have hR6 : OwnK encRw 2 52 w.heap.size (.slice (some ⟨g, 0, none⟩) P.length c) ((P.set i (⟨P[i].1.h, ao, n, cc⟩, (P[i].2.1, l))).map Prod.fst) W6 := by
    rw [← hset, ← hW6]
    exact ownK_set encRw_len hR5 (i := i) (f := 1) (by rw [List.length_map]; exact hi) (by omega) (by rw [List.getElem_map]; rfl) rfl
  rw [hW6]
  refine ⟨⟨⟨_, hm6, RK.own hR6 fun b hb => .inr (ownBlock_in hR6 b hb)⟩, .inl h.mine, fun p hp => ?_⟩, hT6⟩
  rcases List.mem_or_eq_of_mem_set hp with hp | rfl
  · obtain ⟨k1, k2⟩ := h.bytes hT6 p hp
    exact ⟨k1, k2.mono fun b hb => .inl hb⟩
  · refine ⟨(h.each P[i] (List.getElem_mem hi)).1, ?_⟩
    have hr : RK encC (fun b => (Value.slice ao n cc).ownBlock = some b) (.slice ao n cc) l w5 := RK.own hO fun b hb => hb
    exact (hr.same (W' := W6) fun b hb => hk6 b (fun e => by have := (ownBlock_in hO b hb).1; omega) (hg b hb)).mono fun b hb2 => .inr ⟨(ownBlock_in hO b hb2).1, by rw [hs6]; exact (ownBlock_in hO b hb2).2⟩
end Go.Proofs.YtdbaocphglijbaaDoor

/- The document's own arena: Write. -/
set_option maxRecDepth 100000
namespace Go.Proofs.YtdbaocphglijbaaDoor
open Go Go.RowKit Go.Shelf
attribute [local go_sem] Oper.semAt_some
def MWriteRet (x : Nat → Prop) (m B : Nat) (P : List Rp) (z at_ : Int) (l : List UInt8) (w : World) (e : Ending) (w' : World) : Prop :=
  ((∀ p ∈ P, (p.2.1 : Int) ≠ z) ∧ e = .returned (.int .i64 5) ∧ w = w') ∨ ∃ (i : Nat) (hi : i < P.length), (P[i].2.1 : Int) = z ∧
    ((¬ Within P[i].2.2.length at_ l.length ∧ e = .returned (.int .i64 1) ∧ w = w') ∨ (Within P[i].2.2.length at_ l.length ∧ e = .returned (.int .i64 0) ∧ ∃ r : Rw, MRet x m B (P.set i (r, (P[i].2.1, Ar.put P[i].2.2 at_.toNat l))) w w'))
theorem ownK_base {α : Type} {enc : α → List Value} {k : Nat} {e : TypeId} {base b2 : Nat} {v : Value} {l : List α} {W : World} (h : OwnK enc k e base v l W) (hb : b2 ≤ base) : OwnK enc k e b2 v l W := by
  refine ⟨h.1, ?_⟩
  rcases h.2 with hn | ⟨g, cap, cur, e1, hg, rest⟩
  · exact .inl hn
  · exact .inr ⟨g, cap, cur, e1, Nat.le_trans hb hg, rest⟩
theorem ownK_loose' {α : Type} {enc : α → List Value} {k : Nat} {e : TypeId} {base g n cap : Nat} {l : List α} {W : World} (h : OwnK enc k e base (.slice (some ⟨g, 0, none⟩) n cap) l W) (i : Nat) : W.frozen? ⟨g, i, none⟩ = false := by
  rcases h.2 with ⟨e1, _⟩ | ⟨g', cap', cur, e1, _, hg, _⟩
  · cases e1
  · injection e1 with e1
    injection e1 with e1
    injection e1 with e1
    subst e1
    simp [World.frozen?, hg]
set_option maxHeartbeats 16000000 in
theorem mwrite_any (x : Nat → Prop) (m B : Nat) (P : List Rp) (z a : Int) (pv : Value) (l : List UInt8) (w : World) (h : MA x m B P w) (hp : RK encC (fun _ => True) pv l w) (hl : P.length ≤ 900000) (hll : l.length ≤ 900000) (he : ∀ p ∈ P, p.2.2.length ≤ 4096)
    (hI1 : -9223372036854775808 ≤ a) (hI2 : a ≤ 9223372036854775807) :
    Calls Tryd.prog 24 #[.pointer (some ⟨m, 0, none⟩), .int .i64 z, .int .i64 a, pv] w (MWriteRet x m B P z a l w) := by
  have HAT := Lib.hid (mat_any x m B P z w h (by omega))
  have HM := Lib.hid h
  have HE := Lib.hid he
  have HP := Lib.hid hp
  obtain ⟨pa, pc, rfl, hpc, _⟩ := hp.form
  obtain ⟨ao, cap, c0, c1, hcap, hrk, hrow⟩ := h.box
  obtain ⟨v0, hm1, _⟩ := h.ex
  have hml := hm1.lt
  have HBX := Lib.hid hm1
  have HROW := Lib.hid hrow
  have HRK := Lib.hid hrk
  have hv0 : v0 = .slice ao P.length cap := by
    have := hm1.cell (i := 1) (v := v0) rfl
    rw [this] at c1
    exact Option.some.inj c1
  subst hv0
  obtain ⟨nl, hnl⟩ : ∃ nl, l.length = nl := ⟨_, rfl⟩
  have HNL := Lib.hid hnl
  rw [hnl] at hpc hll
  rw [hnl] at HP
  clear hrow h hrk he hm1 hp
  have hRT : MWriteRet x m B P z a l w = fun e w' => ((∀ p ∈ P, (p.2.1 : Int) ≠ z) ∧ e = .returned (.int .i64 5) ∧ w = w') ∨ ∃ (i : Nat) (hi : i < P.length), (P[i].2.1 : Int) = z ∧
    ((¬ Within P[i].2.2.length a nl ∧ e = .returned (.int .i64 1) ∧ w = w') ∨ (Within P[i].2.2.length a nl ∧ e = .returned (.int .i64 0) ∧ ∃ r : Rw, MRet x m B (P.set i (r, (P[i].2.1, Ar.put P[i].2.2 a.toNat l))) w w')) := by
    rw [← hnl]; rfl
  rw [hRT, hnl]
  clear hRT hnl
  generalize hRET : (fun (e : Ending) (w' : World) => ((∀ p ∈ P, (p.2.1 : Int) ≠ z) ∧ e = .returned (.int .i64 5) ∧ w = w') ∨ ∃ (i : Nat) (hi : i < P.length), (P[i].2.1 : Int) = z ∧
    ((¬ Within P[i].2.2.length a nl ∧ e = .returned (.int .i64 1) ∧ w = w') ∨ (Within P[i].2.2.length a nl ∧ e = .returned (.int .i64 0) ∧ ∃ r : Rw, MRet x m B (P.set i (r, (P[i].2.1, Ar.put P[i].2.2 a.toNat l))) w w'))) = RET
  have HRET := Lib.hid hRET
  clear hRET
  go_enter Tryd.func24, Tryd.ntmps24
  go_wp2_with fail
  refine HAT.out.mono ?_
  rintro e w' ⟨⟨i, hi, rfl, hz⟩ | ⟨rfl, hn⟩, rfl⟩
  · obtain ⟨b, off, rfl, hx, d0, d1⟩ := HROW.out i hi
    have hlb := HE.out P[i] (List.getElem_mem hi)
    have hrc := (HM.out.each P[i] (List.getElem_mem hi)).2
    obtain ⟨ao2, c2, hv⟩ := Rp.form hrc
    obtain ⟨q, hq⟩ : ∃ q, P[i].2.2 = q := ⟨_, rfl⟩
    rw [hv] at d1 hrc
    rw [hq] at d1 hrc hlb
    obtain ⟨nq, hnq⟩ : ∃ nq, q.length = nq := ⟨_, rfl⟩
    have HQL := Lib.hid hnq
    rw [hnq] at d1 hrc hlb
    have HRC := Lib.hid hrc
    have HBAD : Hid (¬ Within nq a nl → RET (.returned (.int .i64 1)) w) := Lib.hid fun h => by
      rw [← HRET.out]; exact .inr ⟨i, hi, hz, .inl ⟨by rw [hq, hnq]; exact h, rfl, rfl⟩⟩
    have HGOOD : Hid (Within nq a nl → ∀ w', (∃ r : Rw, MRet x m B (P.set i (r, (P[i].2.1, Ar.put q a.toNat l))) w w') → RET (.returned (.int .i64 0)) w') := Lib.hid fun h w' h2 => by
      rw [← HRET.out]; exact .inr ⟨i, hi, hz, .inr ⟨by rw [hq, hnq]; exact h, rfl, by rw [hq]; exact h2⟩⟩
    clear hz hrc hv hq hnq
    by_cases ha : a < 0
    · go_wp2
      exact HBAD.out fun h => by have := h.1; omega
    · obtain ⟨a, rfl⟩ : ∃ k : Nat, a = (k : Int) := ⟨a.toNat, by omega⟩
      by_cases ha2 : nq < a
      · go_wp2
        exact HBAD.out fun h => by have := h.2.2.1; omega
      · have hwr : IntKind.i64.wrap ((nq : Int) - (a : Int)) = (nq : Int) - (a : Int) := by rw [IntKind.wrap_i64]; omega
        by_cases hn2 : (nq : Int) - (a : Int) < (nl : Int)
        · go_wp2
          exact HBAD.out fun h => by have := h.2.2.2; omega
        · have HW := Lib.hid (HGOOD.out ⟨by omega, by omega, by omega, by omega⟩)
          have HFIT : Hid (a + l.length ≤ q.length) := Lib.hid (by rw [HNL.out, HQL.out]; omega)
          clear HBAD HGOOD
          go_wp2_with (first
            | (at_builtin; go_loud (refine wpList_litRK encC_len (by omega) Tryd.underlying34 infoU8 rfl (by omega) rfl _ _ rfl w.heap.size w.heap.size rfl (own_litC w (Nat.le_refl _)) _ q rfl (HRC.out.below ((Below.refl _ _).alloc (Nat.le_refl _) _)) (by rw [HQL.out]; omega) (by simp) ?_; intro v4 w4 ho4 hb4; have HO4 := Lib.hid ho4; have HB4 := Lib.hid (show Below w.heap.size w w4 from ((Below.refl _ _).alloc (Nat.le_refl _) _).trans (hb4.mono (by simp))); clear ho4 hb4; refine Hid.out ?_)))
          refine Lib.hid ?_
          obtain ⟨a4, c4, e4, hfm⟩ := ownK_form HO4.out
          rw [HQL.out] at e4
          subst e4
          have HFM := Lib.hid hfm
          clear hfm hn2 hwr
          have HO0 := Lib.hid (show OwnK encC 1 5 w.heap.size (.slice a4 nq c4) (Ar.put q a (l.take 0)) w4 by rw [List.take_zero, put_none]; exact HO4.out)
          clear HO4
          go_wp2
          go_loopw [12] (fun i wr => ∃ k : Nat, i = .int .i64 (k : Int) ∧ k ≤ nl ∧ Hid (Below w.heap.size w wr) ∧ Hid (OwnK encC 1 5 w.heap.size (.slice a4 nq c4) (Ar.put q a (l.take k)) wr)) (fun i _ => nl + 1 - (intOf i).toNat)
          case atStart => exact ⟨0, rfl, Nat.zero_le _, HB4, HO0⟩
          case round =>
            obtain ⟨k, rfl, hk, HB, HO⟩ := hrel
            clear HO0 HB4
            by_cases hlt : k < nl
            · have hkl : k < l.length := by rw [HNL.out]; exact hlt
              obtain ⟨g4, rfl⟩ := HFM.out (fun e => by have := HQL.out; rw [e] at this; simp at this; omega)
              have hlen : (Ar.put q a (l.take k)).length = q.length := Ar.put_len _ _ _ (by rw [List.length_take]; have := HFIT.out; omega)
              have hak : a + k < (Ar.put q a (l.take k)).length := by rw [hlen, HQL.out]; omega
              have hgc := ownK_cell encC_len HO.out (j := a + k) (i := 0) hak (by omega)
              have hfr := ownK_loose' HO.out (a + k)
              rw [Nat.zero_add, Nat.mul_one, Nat.add_zero] at hgc
              obtain ⟨cold, hcold⟩ : ∃ cold, (Ar.put q a (l.take k))[a + k] = cold := ⟨_, rfl⟩
              rw [hcold] at hgc
              obtain ⟨pb, poff, hpa, _, hpcell⟩ := (HP.out.below HB.out).at_ encC_len (i := k) (f := 0) hkl (by omega)
              subst hpa
              rw [Nat.mul_one, Nat.add_zero] at hpcell
              obtain ⟨ch, hch⟩ : ∃ ch, l[k] = ch := ⟨_, rfl⟩
              rw [hch] at hpcell
              have HO2 := Lib.hid (show OwnK encC 1 5 w.heap.size (.slice (some ⟨g4, 0, none⟩) nq c4) (Ar.put q a (l.take (k + 1))) (wr.setCell ⟨g4, a + k, none⟩ (encB ch)) by
                rw [← put_one q a l HFIT.out hkl, hch]
                exact ownK_set encC_len HO.out hak (by omega) (f := 0) (a := ch) (by rfl) (by omega))
              have HB2 := Lib.hid (HB.out.setCell (p := ⟨g4, a + k, none⟩) (ownBlock_in HO.out g4 rfl).1 (encB ch))
              have hwa : IntKind.i64.wrap ((a : Int) + (k : Int)) = (a : Int) + (k : Int) := by rw [IntKind.wrap_i64]; omega
              simp only [encC, List.getElem?_cons_zero, encB] at hpcell hgc HO2 HB2
              clear hcold hlen hak hkl HB HO hch
              go_wp2
              go_roundw
              case rel => exact ⟨k + 1, by go_num, by omega, HB2, HO2⟩
              case measure => simp [intOf]; omega
            · obtain rfl : k = nl := by omega
              have HO9 := Lib.hid (show OwnK encC 1 5 w.heap.size (.slice a4 nq c4) (Ar.put q a l) wr by
                have h := HO.out
                rw [List.take_of_length_le (by rw [HNL.out]; exact Nat.le_refl _)] at h
                exact h)
              have hbm := HBX.out.kept (HB.out.block m hml)
              have c1n : (wr.alloc (.cells #[] 52)).cell? ⟨m, 1, none⟩ = some (.slice (some ⟨b, off, none⟩) P.length cap) := ((hbm.alloc _).cell rfl)
              have hlr : (P.map Prod.fst).length ≤ 1000000 := by rw [List.length_map]; omega
              have HLR := Lib.hid hlr
              clear hbm HO hlr
              go_wp2_with (first
                | (at_builtin; go_loud (refine wpList_litRK encRw_len (by omega) rw_under infoRw rfl (by omega) rfl _ _ rfl wr.heap.size wr.heap.size rfl (own_lit0 wr (Nat.le_refl _)) _ (P.map Prod.fst) rfl (HRK.out.below (HB.out.alloc HB.out.size _)) HLR.out (by simp) ?_; intro v5 w5 ho5 hb5; have HO5 := Lib.hid ho5; have HB5 := Lib.hid (show Below wr.heap.size wr w5 from ((Below.refl _ _).alloc (Nat.le_refl _) _).trans (hb5.mono (by simp))); clear ho5 hb5; refine Hid.out ?_)))
              refine Lib.hid ?_
              obtain ⟨a5, c5, e5, hfm5⟩ := ownK_form HO5.out
              rw [List.length_map] at e5
              subst e5
              obtain ⟨g5, rfl⟩ := hfm5 (fun e => by have h9 := congrArg List.length e; rw [List.length_map, List.length_nil] at h9; omega)
              have hB5 : Below w.heap.size w w5 := HB.out.trans (HB5.out.mono HB.out.size)
              have hb5 := HBX.out.kept (hB5.block m hml)
              have ct5 := hb5.cell (i := 1) rfl
              have ft5 := hb5.frozen 1
              have hge := (ownBlock_in HO5.out g5 rfl).1
              have hsz := HB.out.size
              have hne : g5 ≠ m := by omega
              have hne2 : m ≠ g5 := by omega
              have hd := ownK_cell encRw_len HO5.out (j := i) (i := 1) (by rw [List.length_map]; exact hi) (by omega)
              obtain ⟨u5, hu5⟩ : ∃ u, (encRw ((P.map Prod.fst)[i]'(by rw [List.length_map]; exact hi)))[1]? = some u := ⟨_, rfl⟩
              rw [Nat.zero_add, hu5] at hd
              have fg : w5.frozen? ⟨g5, i * 2 + 1, none⟩ = false := ownK_loose' HO5.out _
              have HFIN := Lib.hid (HM.out.row hB5 hi (ownK_below HO9.out HB5.out) (ownK_base HO5.out HB.out.size) (fun b' hb' e => by have := (ownBlock_in HO9.out b' hb').2; omega))
              clear hu5 hfm5 hb5 hB5 hsz HO9 HO5 HB5 HB HLR
              go_wp2
              exact HW.out _ ⟨_, HFIN.out⟩
  · go_wp2
    rw [← HRET.out]
    exact .inl ⟨hn, rfl, rfl⟩
end Go.Proofs.YtdbaocphglijbaaDoor

/- Handles: the arena's iterator, for a law that has boxes of its own made behind the call of Handles. -/
set_option maxRecDepth 100000
namespace Go.Proofs.YtdbaocphglijbaaDoor
open Go.RowKit Go.Shelf
attribute [local go_sem] Oper.semAt_some
/-- What the caller's round keeps: the iterator's box, what is made from C on, and the arena. -/
def KH2 (A : Nat) (L : Loc) (S : Ar.St) (B C : Nat) (W W' : World) : Prop := (∀ k l t, (k = B ∨ C ≤ k) → Blk W k l t → Blk W' k l t) ∧ ∀ f, ArE A L S f W → ArE A L S f W'
theorem kh2_t {A : Nat} {L : Loc} {S : Ar.St} {B C : Nat} {X Y Z : World} (h : KH2 A L S B C X Y) (k : KH2 A L S B C Y Z) : KH2 A L S B C X Z := ⟨fun i l t hi b => k.1 i l t hi (h.1 i l t hi b), fun f a => k.2 f (h.2 f a)⟩
theorem kh2_b {A : Nat} {L : Loc} {S : Ar.St} {B C : Nat} {w : World} (W : World) (l : Nat) (o o' : Obj) (_ : w.heap.size ≤ l) (h : W.heap[l]? = some o) (hc : o.isCells = false) (_ : o.isWalk = false) : KH2 A L S B C W (W.putObj l o') := ⟨fun _ _ _ _ b => b.putD h hc o', fun _ a => a.putD h hc o'⟩
theorem KH2.below {A : Nat} {L : Loc} {S : Ar.St} {B C : Nat} {W W' : World} (h : Below W.heap.size W W') : KH2 A L S B C W W' := ⟨fun _ _ _ _ b => b.kept (h.block _ b.lt), fun _ a => a.below h⟩
theorem KH2.up {A : Nat} {L : Loc} {S : Ar.St} {B C B' : Nat} {W W' : World} (h : KH2 A L S B C W W') (hb : C ≤ B') : KH A L S B' W W' := ⟨fun k l t hk b => h.1 k l t (.inr (Nat.le_trans hb hk)) b, h.2⟩
set_option maxHeartbeats 64000000 in
theorem handles2_in (m l Bn A C : Nat) (L : Loc) (S : Ar.St) (f : Nat → Prop) (hm : 4 ≤ m) (hs : Ar.Sane S) (hP : ∀ x ∈ Ar.tabl S S.pl.length, x.2 + 8 ≤ S.mem.length) (J Jx : List (Nat × Nat) → World → Prop) (W : World) (hCW : C ≤ W.heap.size) (hJ : OwnBk W.heap.size J) (hJx : OwnBk W.heap.size Jx)
    (hY : ∀ pre x W1, J pre W1 → pre.length < 1000000 → pre ++ [x] <+: Ar.told S → YieldAt Fence.wide (m - 1) Tryd.prog l (encHP x) W1 fun e W' =>
      (e = .returned (.bool true) ∧ J (pre ++ [x]) W' ∧ KH2 A L S Bn C W1 W' ∧ KeepsBk W.heap.size W1 W') ∨ (e = .returned (.bool false) ∧ Jx (pre ++ [x]) W' ∧ KeepsBk W.heap.size W1 W'))
    (hB : Blk W Bn [.pointer (some ⟨A, 0, none⟩)] 25) (hA : ArE A L S f W) (h0 : J [] W) :
    CallsIn Fence.wide m Tryd.prog 93 #[.func (.yield l) #[] #[], .pointer (some ⟨Bn, 0, none⟩)] W fun e W' => (∃ v, e = .returned v) ∧
      ((∃ ys, ys = Ar.told S ∧ J ys W') ∨ (∃ pre, pre <+: Ar.told S ∧ Jx pre W')) := by
  have hm1 : 1 ≤ m := by omega
  have hm2 : 1 ≤ m - 1 := by omega
  have hm3 : 1 ≤ m - 1 - 1 := by omega
  have hBl := hB.lt
  refine callsIn_of_wp_marks Tryd.func93 rfl trivial ?_ rfl
  simp only [Tryd.ntmps93, List.size_toArray, List.length_cons, List.length_nil, Nat.reduceAdd, Nat.reduceSub, Array.replicate_succ, Array.replicate_zero, List.push_toArray, List.append_toArray, List.nil_append, List.cons_append]
  have b1 := hB.alloc (.cells #[.func (.yield l) #[] #[]] 133)
  have c1 := b1.cell (i := 0) rfl
  have y1 := Blk.new W [.func (.yield l) #[] #[]] 133
  have a1 := hA.below ((Below.refl _ W).alloc (Nat.le_refl _) (.cells #[.func (.yield l) #[] #[]] 133))
  have j1 := hJ.alloc (.cells #[.func (.yield l) #[] #[]] 133) h0
  have s1 : (W.alloc (.cells #[.func (.yield l) #[] #[]] 133)).heap.size = W.heap.size + 1 := World.size_alloc _ _
  gi_wp2_with (refine ⟨trivial, ?_⟩; gi_at_call 94; refine (callsIn_wide.2 (all_any A _)).mono ?_; rintro e w' ⟨rfl, rfl⟩)
  have b2 := b1.alloc (.cells #[.pointer (some ⟨A, 2, none⟩)] 125)
  have y2 := y1.alloc (.cells #[.pointer (some ⟨A, 2, none⟩)] 125)
  have t2 := Blk.new (W.alloc (.cells #[.func (.yield l) #[] #[]] 133)) [.pointer (some ⟨A, 2, none⟩)] 125
  have a2 := a1.below ((Below.refl _ _).alloc (Nat.le_refl _) (.cells #[.pointer (some ⟨A, 2, none⟩)] 125))
  have j2 := hJ.alloc (.cells #[.pointer (some ⟨A, 2, none⟩)] 125) j1
  have s2 : ((W.alloc (.cells #[.func (.yield l) #[] #[]] 133)).alloc (.cells #[.pointer (some ⟨A, 2, none⟩)] 125)).heap.size = W.heap.size + 2 := by rw [World.size_alloc, s1]
  rw [s1] at t2
  clear b1 c1 y1 a1 j1 s1
  generalize ((W.alloc (.cells #[.func (.yield l) #[] #[]] 133)).alloc (.cells #[.pointer (some ⟨A, 2, none⟩)] 125)) = W0 at *
  refine wpIn_rangeFunc_ownB rfl (by omega) (gf := 104) (lb := #[.pointer (some ⟨W.heap.size + 1, 0, none⟩)]) (by rfl) trivial (enters_of Tryd.func104 (by kernel_rfl) rfl)
    (all_stops _ (by omega) (W.heap.size + 1) A L S f hs _ t2 a2) kh_t kh_b (Below.refl _ _) (fun _ => rfl)
    (fun pre W' => J (pre.map (toHN S)) W' ∧ ArE A L S f W' ∧ Blk W' Bn [.pointer (some ⟨A, 0, none⟩)] 25 ∧ Blk W' W.heap.size [.func (.yield l) #[] #[]] 133)
    (fun c pre W' => Jx (pre.map (toHN S)) W' ∧ c = .ret)
    (fun s X Y row hs hg hr => ⟨hJ _ X Y row hs.1 hg (fun r e => ⟨by have := (hr r e).1; omega, (hr r e).2⟩), are_own hs.2.1 hg (fun r e => bookC (hr r e).2), blk_own hs.2.2.1 hg (fun r e => bookC (hr r e).2), blk_own hs.2.2.2 hg (fun r e => bookC (hr r e).2)⟩)
    (fun c s X Y row hs hg hr => ⟨hJx _ X Y row hs.1 hg (fun r e => ⟨by have := (hr r e).1; omega, (hr r e).2⟩), hs.2⟩)
    ⟨j2, a2, b2, y2⟩
    (fun x => { tmps := #[.func (.yield l) #[] #[], .pointer (some ⟨Bn, 0, none⟩), .pointer (some ⟨W.heap.size, 0, none⟩), .int .i64 (x.1 : Int), .int .i64 (x.2 : Int), .pointer (some ⟨A, 0, none⟩), .bool false, .pointer (some ⟨A, 0, none⟩), .pointer (some ⟨A, 0, none⟩), .pointer (some ⟨A, 2, none⟩), .func (.func 104) #[] #[.pointer (some ⟨W.heap.size + 1, 0, none⟩)], .int .i64 (x.1 : Int), .int .i64 (x.2 : Int), undef, undef, undef, undef, undef, undef, undef, undef], defers := [] }) ?assign ?body ?done ?stop
  case assign =>
    intro l x W K hK
    unfold encHP
    gi_wp2
    exact hK
  case body =>
    have hF1 : Fence.wide.fn 59 := trivial
    have hmx : Tryd.prog.follows .mixedOrders = true := by kernel_rfl
    rintro l1 pre x W1 ⟨hJ1, hA1, hx1, hx2⟩ hlen hsp
    have d1 := hx1.cell (i := 0) rfl
    have d2 := hx2.cell (i := 0) rfl
    have hmem := hP x (hsp.subset (by simp))
    have hhd : ∀ W', ArE A L S f W' → Calls Tryd.prog 59 #[.pointer (some ⟨A, 0, none⟩), .int .i64 (x.2 : Int)] W' _ := fun W' h => head_agg A L S f _ x.2 (Ar.headAt S.mem x.2) W' rfl h hs.mem hmem rfl
    have hfd := field_head (Ar.headAt S.mem x.2)
    have hpl : (pre.map (toHN S)).length < 1000000 := by rw [List.length_map]; exact hlen
    have hyr : ∀ W2, Below W1.heap.size W1 W2 → J (pre.map (toHN S)) W2 := fun W2 hb => hJ _ W1 W2 none hJ1 ⟨hb.os, hb.tape, hb.output, hb.size, fun k hk _ => hb.block k hk⟩ (fun r e => by cases e)
    have hspl : pre.map (toHN S) ++ [toHN S x] <+: Ar.told S := by
      have h := List.IsPrefix.map (toHN S) hsp
      rw [List.map_append] at h
      exact h
    have HSpl := Lib.hid hspl
    have HHD := Lib.hid hhd
    have HYr := Lib.hid hyr
    have HPl := Lib.hid hpl
    have HA1 := Lib.hid hA1
    have hxs : (toHN S x).1 = x.1 ∧ (toHN S x).2 = (Ar.headAt S.mem x.2).size := ⟨rfl, rfl⟩
    have HXS := Lib.hid hxs
    have HYY := Lib.hid hY
    clear hspl hsp hhd hyr hpl hA1 hxs hY hmem
    generalize Ar.headAt S.mem x.2 = p at *
    gi_wp2
    gi_region_with_o (first
      | (gi_at_call 59; refine (CallsIn.inRound l1 (callsIn_wide.2 (HHD.out _ (HA1.out.below ((Below.refl W1.heap.size W1).drew))))).mono ?_; rintro e W2 ⟨rfl, hb2⟩; have hbb := ((Below.refl W1.heap.size W1).drew).trans hb2; have e2 := (hx2.kept (hbb.block _ hx2.lt)).cell (i := 0) rfl; have e1 := (hx1.kept (hbb.block _ hx1.lt)).cell (i := 0) rfl; obtain ⟨fn, tmps, assign, body, hy, hR⟩ := HYY.out _ (toHN S x) W2 (HYr.out W2 hbb) HPl.out HSpl.out; unfold encHP at hy; rw [HXS.out.1, HXS.out.2] at hy)
      | (refine (roundIn_any hR).mono ?_; intro e W3 hor; obtain ⟨bb, rfl, hbb3⟩ := one_of hor))
    all_goals
      have hfin := hbb3.out
      clear hbb3
      have hkb : KeepsBk W0.heap.size W1 W3 := by
        have hkf : KeepsBk W.heap.size W2 W3 := hfin.elim (fun h => h.2.2.2) (fun h => h.2.2)
        have hkg : KeepsBk W0.heap.size W1 W2 := ⟨hbb.size, fun k o _ hk _ => (hbb.block k (Array.getElem?_eq_some_iff.1 hk).1).trans hk⟩
        exact hkg.trans ⟨hkf.size, fun k o hk => hkf.same k o (by omega)⟩
      cases bb
      · obtain ⟨hJ3, _⟩ := (hfin.resolve_left (fun h => by cases h.1)).2
        gi_wp2
        exact ⟨by first | exact hkb | (rw [← s2]; exact hkb), by simpa using hJ3, rfl⟩
      · obtain ⟨hJ3, hk3, _⟩ := (hfin.resolve_right (fun h => by cases h.1)).2
        have hkh : KH2 A L S Bn C W1 W3 := kh2_t (KH2.below hbb) hk3
        have hA3 := hkh.2 _ HA1.out
        have hx13 := hkh.1 _ _ _ (.inl rfl) hx1
        have hx23 := hkh.1 _ _ _ (.inr (by omega)) hx2
        gi_wp2
        exact ⟨by first | exact hkb | (rw [← s2]; exact hkb), hkh.up (by omega), by simpa using hJ3, hA3, hx13, hx23⟩
  case done =>
    rintro D ys W2 hD hS ⟨hJ1, hA1, hx1, hx2⟩ hK
    gi_wp2
    refine ⟨by simp, .inl ⟨_, _, rfl, run_takeDeferred hK, ?_⟩⟩
    exact ⟨_, results_none rfl _ _ _, ⟨_, rfl⟩, .inl ⟨ys.map (toHN S), by rw [hS]; rfl, hJ.putObj _ hJ1 (by omega) hK rfl⟩⟩
  case stop =>
    rintro D c pre W2 hD hSp ⟨hJ1, rfl⟩ hK
    gi_wp2
    refine ⟨by simp, .inl ⟨_, _, rfl, run_takeDeferred hK, ?_⟩⟩
    exact ⟨_, results_none rfl _ _ _, ⟨_, rfl⟩, .inr ⟨pre.map (toHN S), List.IsPrefix.map (toHN S) hSp, hJx.putObj _ hJ1 (by omega) hK rfl⟩⟩
theorem handles_stops2 (m : Nat) (hm : 4 ≤ m) (Bn A : Nat) (L : Loc) (S : Ar.St) (f : Nat → Prop) (hs : Ar.Sane S) (hP : ∀ x ∈ Ar.tabl S S.pl.length, x.2 + 8 ≤ S.mem.length) (w : World) (hB : Blk w Bn [.pointer (some ⟨A, 0, none⟩)] 25) (hA : ArE A L S f w) :
    SeqStopsB Fence.wide m Tryd.prog 93 #[.pointer (some ⟨Bn, 0, none⟩)] encHP (KH2 A L S Bn w.heap.size) (fun ys => ys = Ar.told S) (fun pre => pre <+: Ar.told S) 1000000 w :=
  fun l J Jx W hW hJ hJx hY h0 => handles2_in m l Bn A w.heap.size L S f hm hs hP J Jx W hW.size hJ hJx hY (hB.kept (hW.block _ hB.lt)) (hA.below hW) h0
end Go.Proofs.YtdbaocphglijbaaDoor

/- shows of chapter 6's laws: an arena shows what the document's own has. -/
set_option maxRecDepth 100000
namespace Go.Proofs.YtdbaocphglijbaaDoor
open Go Go.RowKit Go.Shelf
attribute [local go_sem] Oper.semAt_some
theorem res_show (tmps : Array Value) (w : World) (g : Nat) (b : Bool) (hp : tmps[4]?.getD undef = .pointer (some ⟨g, 0, none⟩)) (hc : w.cell? ⟨g, 0, none⟩ = some (.bool b)) :
    (results Tryd.f27 tmps).run Tryd.prog w = .ok (.bool b) w := by
  simp [results, Tryd.results27, go_sem, hp, hc]
theorem eql_nilH (W : World) (f B : Nat) : (binOp .eql 102 (.func (.func f) #[] #[.pointer (some ⟨B, 0, none⟩)]) .nilFunc).run Tryd.prog W = .ok (.bool false) W := by
  kernel_rfl
theorem are_keep {A : Nat} {L : Loc} {S : Ar.St} {f f0 : Nat → Prop} {w W W' : World} {N : Nat} (h : ArE A L S f W) (h0 : ArE A L S f0 w) (hN : w.heap.size ≤ N) (hs : W.heap.size ≤ W'.heap.size) (hk : ∀ k, k < N → W'.heap[k]? = W.heap[k]?) : ArE A L S f W' :=
  ⟨h.box.kept (hk _ (Nat.lt_of_lt_of_le h0.box.lt hN)), h.mem.kept (hk _ (Nat.lt_of_lt_of_le h0.mem.lt hN)), h.pl.kept (hk _ (Nat.lt_of_lt_of_le h0.pl.lt hN)), h.us.kept (hk _ (Nat.lt_of_lt_of_le h0.us.lt hN)), h.nd.kept (hk _ (Nat.lt_of_lt_of_le h0.nd.lt hN)), h.cap, h.cm, h.fA, h.fM, h.fP, h.fU, h.fN, fun k e => Nat.lt_of_lt_of_le (h.fb k e) hs⟩
/-- What the law's round has: its own number, and all that lay there. -/
structure Shr (M I k : Nat) (W2 W : World) : Prop where
  bel : Below M W2 W
  num : Blk W I [.int .i64 (k : Int)] 3
theorem Shr.grown {M I k : Nat} {W2 W W' : World} {row : Option Nat} (h : Shr M I k W2 W) (hM : M ≤ W2.heap.size) (hg : W.grownBy W' row) (hr : ∀ r, row = some r → W2.heap.size ≤ r ∧ ∃ o : Obj, W.heap[r]? = some o ∧ isBook o = true) : Shr M I k W2 W' :=
  ⟨h.bel.grown hg (Nat.le_trans hM h.bel.size) (fun r e => Nat.le_trans hM (hr r e).1), blk_own h.num hg (fun r e => bookC (hr r e).2)⟩
theorem pre_at {P : List Rp} {pre : List (Nat × Nat)} {x : Nat × Nat} (h : pre ++ [x] <+: (lsP P).map (fun b => (b.1, b.2.length))) : ∃ hi : pre.length < P.length, x = (P[pre.length].2.1, P[pre.length].2.2.length) := by
  have hl := h.length_le
  rw [List.length_append, List.length_singleton, List.length_map] at hl
  have hl2 : (lsP P).length = P.length := by simp [lsP]
  refine ⟨by omega, ?_⟩
  have h1 := h.getElem (i := pre.length) (by simp)
  rw [List.getElem_append_right (Nat.le_refl _)] at h1
  simp [lsP] at h1
  exact h1
set_option maxHeartbeats 16000000 in
theorem shows6_any (x y : Nat → Prop) (A m B : Nat) (P : List Rp) (n0 : Nat) (w : World) (h : HX x A B (lsP P) n0 w) (hm : MA y m B P w) (hP : P.length ≤ 100000) :
    Calls Tryd.prog 27 #[.pointer (some ⟨A, 0, none⟩), .pointer (some ⟨m, 0, none⟩)] w fun e w' => e = .returned (.bool true) ∧ Below w.heap.size w w' := by
  obtain ⟨hsum, hB⟩ := h.sum_le
  have hbl : ∀ b ∈ lsP P, b.2.length ≤ 4096 := fun b hb => (h.each.2 b hb).2
  have HX0 := Lib.hid (fun W (hb : Below w.heap.size w W) => h.after hb)
  obtain ⟨bs, ⟨L', S, pcs, har, hin, hbs, hmm⟩, hvw⟩ := h.ex
  subst hbs
  have HAR := Lib.hid har
  have HTD := Lib.hid (told_view hin hvw)
  have HIN := Lib.hid hin
  clear har hin hvw
  have HM := Lib.hid hm
  obtain ⟨su, hsu⟩ : ∃ su, sumC (lsP P) = su := ⟨_, rfl⟩
  have HU1 := Lib.hid (fun W (hb : Below w.heap.size w W) => (by have k := used_x x A B (lsP P) n0 W (HX0.out W hb); rw [hsu] at k; exact k))
  have HU2 := Lib.hid (fun W (hb : Below w.heap.size w W) => (by have k := mused_any y m B P W (hm.below hb) (by omega) (by omega) hbl; rw [hsu] at k; exact k))
  have HL1 := Lib.hid (fun W (hb : Below w.heap.size w W) => (by have k := left_x x A B (lsP P) n0 W (HX0.out W hb); rw [hsu] at k; exact k))
  have HL2 := Lib.hid (fun W (hb : Below w.heap.size w W) => (by have k := mleft_any y m B P W (hm.below hb) hB hsum (by omega) hbl; rw [hsu] at k; exact k))
  obtain ⟨ao, cap, c0, c1, hcap, _, hrow⟩ := hm.box
  have HROW := Lib.hid hrow
  have HC0 := Lib.hid c0
  have HC1 := Lib.hid c1
  clear hm h hrow hbl
  refine (callsIn_wide (n := 20)).1 ?_
  refine callsIn_of_wp_marks Tryd.func27 rfl trivial ?_ rfl
  simp only [Tryd.ntmps27, List.size_toArray, List.length_cons, List.length_nil, Nat.reduceAdd, Nat.reduceSub, Array.replicate_succ, Array.replicate_zero, List.push_toArray, List.append_toArray, List.nil_append, List.cons_append]
  refine wpIn_wide.2 ?_
  go_wp2
  obtain ⟨W0, hW0⟩ : ∃ W0, (w.alloc (.cells #[.pointer (some ⟨m, 0, none⟩)] 30)).alloc (.cells #[.bool false] 4) = W0 := ⟨_, rfl⟩
  have s1 : (w.alloc (.cells #[.pointer (some ⟨m, 0, none⟩)] 30)).heap.size = w.heap.size + 1 := World.size_alloc _ _
  have s0 : W0.heap.size = w.heap.size + 2 := by rw [← hW0, World.size_alloc, s1]
  have B0 : Below w.heap.size w W0 := by rw [← hW0]; exact (((Below.refl _ _).alloc (Nat.le_refl _) _).alloc (by simp) _)
  have k3 : Blk W0 w.heap.size [.pointer (some ⟨m, 0, none⟩)] 30 := by rw [← hW0]; exact (Blk.new w _ _).alloc _
  have k4 : Blk W0 (w.heap.size + 1) [.bool false] 4 := by rw [← hW0, ← s1]; exact Blk.new _ _ _
  rw [hW0]
  clear hW0 s1
  have HB0 := Lib.hid B0
  have HK3 := Lib.hid k3
  have HK4 := Lib.hid k4
  clear B0 k3 k4
  have p3 := HK3.out.cell (i := 0) rfl
  have p0 := (HB0.out.cell (p := ⟨m, 0, none⟩) (cell_lt HC0.out)).trans HC0.out
  have HQ := Lib.hid (fun n => HB0.out.trans (below_drewN w.heap.size W0 n))
  go_quiet ((first
    | (go_at_call 31; exact Calls.quiet_of_same ((HU1.out _ (HQ.out _)).mono fun _ _ h => ⟨h.1, h.2.symm⟩))
    | (go_at_call 67; exact Calls.quiet_of_same ((HU2.out _ (HQ.out _)).mono fun _ _ h => ⟨h.1, h.2.symm⟩))
    | (go_at_call 29; exact Calls.quiet_of_same ((HL1.out _ (HQ.out _)).mono fun _ _ h => ⟨h.1, h.2.symm⟩))
    | (go_at_call 26; exact Calls.quiet_of (HL2.out _ (HQ.out _)))
    | (go_at_call 68; exact Calls.quiet_of_same ((budget_x x A B (lsP P) n0 _ (HX0.out _ (HQ.out _))).mono fun _ _ h => ⟨h.1, h.2.symm⟩))))
  have HB1 := Lib.hid (HQ.out nq)
  have HK31 := Lib.hid (HK3.out.kept (W' := W0.drewN nq) rfl)
  have HK41 := Lib.hid (HK4.out.kept (W' := W0.drewN nq) rfl)
  have s1 : (W0.drewN nq).heap.size = w.heap.size + 2 := s0
  clear HB0 HK3 HK4 p3 p0 HQ s0
  generalize W0.drewN nq = W1 at HB1 HK31 HK41 s1 ⊢
  have hnil := eql_nilH
  go_wp2_with (go_at_call 69; refine (handles_any _ _).mono ?_; rintro e w' ⟨rfl, rfl⟩)
  obtain ⟨W2, hW2⟩ : ∃ W2, (W1.alloc (.cells #[.pointer (some ⟨A, 0, none⟩)] 25)).alloc (.cells #[.int .i64 0] 3) = W2 := ⟨_, rfl⟩
  have s11 : (W1.alloc (.cells #[.pointer (some ⟨A, 0, none⟩)] 25)).heap.size = w.heap.size + 3 := by rw [World.size_alloc, s1]
  have s2 : W2.heap.size = w.heap.size + 4 := by rw [← hW2, World.size_alloc, s11]
  have B2 : Below w.heap.size w W2 := by rw [← hW2]; exact (HB1.out.alloc HB1.out.size _).alloc (by omega) _
  have k3 : Blk W2 w.heap.size [.pointer (some ⟨m, 0, none⟩)] 30 := by rw [← hW2]; exact (HK31.out.alloc _).alloc _
  have k4 : Blk W2 (w.heap.size + 1) [.bool false] 4 := by rw [← hW2]; exact (HK41.out.alloc _).alloc _
  have kn : Blk W2 (w.heap.size + 2) [.pointer (some ⟨A, 0, none⟩)] 25 := by rw [← hW2, ← s1]; exact (Blk.new W1 _ _).alloc _
  have ki : Blk W2 (w.heap.size + 2 + 1) [.int .i64 ((0 : Nat) : Int)] 3 := by rw [← hW2, ← s11]; exact Blk.new _ _ _
  rw [hW2]
  have HB2 := Lib.hid B2
  have HK3 := Lib.hid k3
  have HK4 := Lib.hid k4
  have HA2 := Lib.hid (HAR.out.below B2)
  have hsane : Ar.Sane S := HIN.out.sane
  have htp := HIN.out.told_place
  have h0 : Shr (w.heap.size + 3) (w.heap.size + 2 + 1) 0 W2 W2 := ⟨Below.refl _ _, ki⟩
  clear hW2 s11 s1 HB1 HK31 HK41 HU1 HU2 HL1 HL2 B2 k3 k4 ki hnil
  refine (wpIn_wide (n := 20)).1 ?_
  refine wpIn_rangeFunc_ownB rfl (by omega) (gf := 93) (lb := #[.pointer (some ⟨w.heap.size + 2, 0, none⟩)]) (by rfl) trivial (enters_of Tryd.func93 (by kernel_rfl) rfl)
    (handles_stops2 _ (by omega) (w.heap.size + 2) A L' S _ hsane htp W2 kn HA2.out) kh2_t kh2_b (Below.refl _ _) (fun _ => rfl)
    (fun pre W' => Shr (w.heap.size + 3) (w.heap.size + 2 + 1) pre.length W2 W')
    (fun c pre W' => False)
    (fun s X Y row hs hg hr => hs.grown (by omega) hg hr)
    (fun c s X Y row hs hg hr => hs)
    h0 ?a1 ?assign ?body ?done ?stop
  case assign =>
    intro l x W K hK
    unfold encHP
    gi_wp2
    exact hK
  case body =>
    rintro l1 pre x W hsh hlen hsp
    have hsp2 : pre ++ [x] <+: (lsP P).map (fun b => (b.1, b.2.length)) := by rw [← HTD.out]; exact hsp
    obtain ⟨hi, hx⟩ := pre_at hsp2
    have HEX := Lib.hid (HM.out.each P[pre.length] (List.getElem_mem hi)).2
    obtain ⟨b, off, rfl, _, d0, d1⟩ := HROW.out pre.length hi
    obtain ⟨ao2, c2, hv⟩ := Rp.form HEX.out
    rw [hv] at d1
    obtain ⟨k, hk⟩ : ∃ k, pre.length = k := ⟨_, rfl⟩
    have HKL := Lib.hid hk
    obtain ⟨hh, hhe⟩ : ∃ hh, P[pre.length].2.1 = hh := ⟨_, rfl⟩
    obtain ⟨nn, hne⟩ : ∃ nn, P[pre.length].2.2.length = nn := ⟨_, rfl⟩
    rw [hhe] at d0
    rw [hne] at d1
    rw [hhe, hne] at hx
    subst hx
    have bw : Below w.heap.size w W := HB2.out.trans (hsh.bel.mono (by omega))
    have e0 := (bw.cell (cell_lt d0)).trans d0
    have e1 := (bw.cell (cell_lt d1)).trans d1
    have e2 := (bw.cell (cell_lt HC1.out)).trans HC1.out
    have p3 := (HK3.out.kept (hsh.bel.block w.heap.size (by omega))).cell (i := 0) rfl
    rw [hk] at hsh e0 e1 hi
    have pi := hsh.num.cell (i := 0) rfl
    have fi := hsh.num.frozen 0
    have HSH := Lib.hid hsh
    have hnl : ¬ P.length ≤ k := by omega
    clear hsh hsp hsp2 hhe hne hk hlen hv d0 d1 bw
    simp only
    gi_wp2
    refine wpIn_region_quiet_rlit (by kernel_rfl) (by kernel_rfl) (by kernel_rfl) ?_
    repeat (gi_big_quiet_step (fail))
    refine wpQuietIn_nil ?_
    intro _ hw'
    obtain ⟨nq, hw''⟩ := hw'
    subst hw''
    gi_wp2
    have hW3 : ∀ q, q ≠ w.heap.size + 2 + 1 → ((W.drewN nq).setCell ⟨w.heap.size + 2 + 1, 0, none⟩ (.int .i64 ((k : Int) + 1))).heap[q]? = W.heap[q]? := fun q hq => Below.heap_setCell (W.drewN nq) ⟨w.heap.size + 2 + 1, 0, none⟩ _ q hq
    have hs3 : ((W.drewN nq).setCell ⟨w.heap.size + 2 + 1, 0, none⟩ (.int .i64 ((k : Int) + 1))).heap.size = W.heap.size := by simp [World.setCell]
    refine ⟨⟨by rw [hs3]; exact Nat.le_refl _, fun q o hq ho _ => (hW3 q (by omega)).trans ho⟩, ⟨fun q l t hq hb => hb.kept (hW3 q (by omega)), fun f ha => are_keep ha HAR.out (Nat.le_refl _) (by rw [hs3]; exact Nat.le_refl _) fun q hq => hW3 q (by omega)⟩, (HSH.out.bel.trans (below_drewN _ _ nq)).setCell (p := ⟨w.heap.size + 2 + 1, 0, none⟩) (by show w.heap.size + 3 ≤ w.heap.size + 2 + 1; omega) _, ?_⟩
    have hbk : Blk (W.drewN nq) (w.heap.size + 2 + 1) [.int .i64 (k : Int)] 3 := HSH.out.num
    have h9 := hbk.set 0 (.int .i64 ((k : Int) + 1))
    rw [List.length_append, List.length_singleton, HKL.out, show ((k + 1 : Nat) : Int) = (k : Int) + 1 by norm_cast]
    exact h9
  case done =>
    rintro D ys W hD hS hsh hK
    have hyl : ys.length = P.length := by
      have e : ys = Ar.told S := hS
      rw [e, HTD.out, List.length_map]; simp [lsP]
    rw [hyl] at hsh
    have bw : Below w.heap.size w W := HB2.out.trans (hsh.bel.mono (by omega))
    have e2 := (bw.cell (cell_lt HC1.out)).trans HC1.out
    have p3 := (HK3.out.kept (hsh.bel.block w.heap.size (by omega))).cell (i := 0) rfl
    have k4 := HK4.out.kept (hsh.bel.block (w.heap.size + 1) (by omega))
    have p4 := k4.cell (i := 0) rfl
    have f4 := k4.frozen 0
    have pi := hsh.num.cell (i := 0) rfl
    have HK4W := Lib.hid k4
    have HBW := Lib.hid bw
    have HKD := Lib.hid hK
    clear hyl hS hsh bw k4 hK
    go_wp2
    go_region
    have hDn : D ≠ w.heap.size + 1 := by omega
    have hDd : (W.setCell ⟨w.heap.size + 1, 0, none⟩ (.bool true)).drew.heap[D]? = some (.deferred (some [])) := (Below.heap_setCell W ⟨w.heap.size + 1, 0, none⟩ _ D hDn).trans HKD.out
    have hk4 : Blk (W.setCell ⟨w.heap.size + 1, 0, none⟩ (.bool true)).drew (w.heap.size + 1) [.bool true] 4 := HK4W.out.set 0 (.bool true)
    have hb4 : Below w.heap.size w (W.setCell ⟨w.heap.size + 1, 0, none⟩ (.bool true)).drew := (HBW.out.setCell (p := ⟨w.heap.size + 1, 0, none⟩) (by show w.heap.size ≤ w.heap.size + 1; omega) (.bool true)).trans ((Below.refl _ _).drew)
    generalize (W.setCell ⟨w.heap.size + 1, 0, none⟩ (.bool true)).drew = W4 at hDd hk4 hb4 ⊢
    have HR4 := Lib.hid (show Blk (W4.putObj D (.deferred none)) (w.heap.size + 1) [.bool true] 4 from hk4.kept (World.putObj_heap_other (Ne.symm hDn)))
    have HB4 := Lib.hid (hb4.grown (grownBy_putObj' W4 D (.deferred none)) hb4.size (fun q e => by cases e; omega))
    have HDD := Lib.hid hDd
    clear hDd hk4 hb4
    go_wp2
    refine ⟨by simp, .inl ⟨_, _, rfl, run_takeDeferred HDD.out, ?_⟩⟩
    refine ⟨_, res_show _ _ (w.heap.size + 1) true rfl (HR4.out.cell (i := 0) rfl), ?_⟩
    exact ⟨rfl, HB4.out⟩
  case stop =>
    rintro D c pre W hD hSp hF hK
    exact hF.elim
end Go.Proofs.YtdbaocphglijbaaDoor

/- ArenaActs: the arena and the document's own, side by side; Alloc and Free by both. -/
set_option maxRecDepth 100000
namespace Go.Proofs.YtdbaocphglijbaaDoor
open Go Go.RowKit Go.Shelf
attribute [local go_sem] Oper.semAt_some
structure AaM (K : Nat → Prop) (A m B n0 : Nat) (L L' : List Bl) (w W : World) : Prop where
  ex : ∃ x y P, HX x A B L n0 W ∧ MA y m B P W ∧ lsP P = L' ∧ (∀ b, y b → x b) ∧ (∀ b, K b → x b ∧ ¬ y b)
  bel : Below w.heap.size w W
section
variable {K : Nat → Prop} {A m B n0 : Nat} {L L' : List Bl} {w w1 w2 : World}
theorem AaM.after (h : AaM K A m B n0 L L' w w1) (hb : Below w1.heap.size w1 w2) : AaM K A m B n0 L L' w w2 := by
  obtain ⟨⟨x, y, P, h1, h2, h3, h4, h5⟩, hbel⟩ := h
  exact ⟨⟨x, y, P, h1.after hb, h2.below hb, h3, h4, h5⟩, hbel.trans (hb.mono hbel.size)⟩
/-- Behind a call of the code's arena. -/
theorem AaM.code {L2 : List Bl} (hn : w.heap.size ≤ n0) {x y : Nat → Prop} {P : List Rp} (h2 : MA y m B P w1) (h3 : lsP P = L') (h4 : ∀ b, y b → x b) (h5 : ∀ b, K b → x b ∧ ¬ y b) (hbel : Below w.heap.size w w1) (k : LX x A B L2 n0 w1 w2) : AaM K A m B n0 L2 L' w w2 ∧ ∀ b, K b → w2.heap[b]? = w1.heap[b]? :=
  ⟨⟨⟨x, y, P, k.at_, h2.same fun b hb => k.own b (h4 b hb), h3, h4, h5⟩, hbel.trans (k.below.mono hn)⟩, fun b hb => k.own b (h5 b hb).1⟩
/-- Behind an act of the document's own. -/
theorem AaM.model {P2 : List Rp} (hn : w.heap.size ≤ n0) {x y : Nat → Prop} {P : List Rp} (h1 : HX x A B L n0 w1) (h2 : MA y m B P w1) (h4 : ∀ b, y b → x b) (h5 : ∀ b, K b → x b ∧ ¬ y b) (hbel : Below w.heap.size w w1) (k : MRet y m B P2 w1 w2) : AaM K A m B n0 L (lsP P2) w w2 ∧ ∀ b, K b → w2.heap[b]? = w1.heap[b]? := by
  obtain ⟨k1, k2⟩ := k
  have hxm := h4 m h2.mine
  have hb : Below n0 w1 w2 := k2.below (fun b e => by rw [e]; exact h1.xlow m hxm) h1.low
  refine ⟨⟨⟨plus x w1 w2, plus y w1 w2, P2, h1.turn (fun q hq hx => k2.block q hq fun e => hx (e ▸ hxm)) hb fun q hq => ?_, k1, rfl, fun b hb => hb.imp (h4 b) id, fun b hb => ⟨.inl (h5 b hb).1, fun e => e.elim (h5 b hb).2 fun e => by have := h1.xlt b (h5 b hb).1; omega⟩⟩, hbel.trans (hb.mono hn)⟩, fun b hb => k2.block b (h1.xlt b (h5 b hb).1) fun e => (h5 b hb).2 (e ▸ h2.mine)⟩
  rcases hq with hq | hq
  · exact ⟨h1.xlow q hq, Nat.lt_of_lt_of_le (h1.xlt q hq) k2.size, .inl hq⟩
  · exact ⟨Nat.le_trans h1.low hq.1, hq.2, .inr (.inl hq.1)⟩
/-- A box of the law's own. -/
theorem AaM.box (h : AaM (fun _ => False) A m B n0 L L' w w1) (o : Obj) : AaM (fun b => b = w1.heap.size) A m B n0 L L' w (w1.alloc o) := by
  obtain ⟨⟨x, y, P, h1, h2, h3, h4, _⟩, hbel⟩ := h
  have hb : Below w1.heap.size w1 (w1.alloc o) := (Below.refl _ _).alloc (Nat.le_refl _) o
  exact ⟨⟨fun k => x k ∨ k = w1.heap.size, y, P, h1.mine o, h2.below hb, h3, fun b hb => .inl (h4 b hb), fun b hb => ⟨.inr hb, fun e => by have := h1.xlt b (h4 b e); omega⟩⟩, hbel.trans (hb.mono hbel.size)⟩
theorem AaM.bare (h : AaM K A m B n0 L L' w w1) : AaM (fun _ => False) A m B n0 L L' w w1 := by
  obtain ⟨⟨x, y, P, h1, h2, h3, h4, _⟩, hbel⟩ := h
  exact ⟨⟨x, y, P, h1, h2, h3, h4, fun b hb => hb.elim⟩, hbel⟩
end
/-- What Alloc does, of both. -/
inductive AlAct (B : Nat) (L : List Bl) (z : Int) : List Bl → Nat → Nat → Prop
  | big : Ar.costI z = 0 → AlAct B L z L 0 3
  | full : Ar.costI z ≠ 0 → B - sumC L < Ar.costI z → AlAct B L z L 0 4
  | new (L1 L2 : List Bl) (k : Nat) : z = (k : Int) → Ar.costI z ≠ 0 → Ar.costI z ≤ B - sumC L → L = L1 ++ L2 → Least L1 L2 → AlAct B L z (L1 ++ (L1.length + 1, Ar.zeros k) :: L2) (L1.length + 1) 0
theorem aa_alloc1 (K : Nat → Prop) (A m B n0 : Nat) (L : List Bl) (z : Int) (w W : World) (hn : w.heap.size ≤ n0) (h : AaM K A m B n0 L L w W) :
    Calls Tryd.prog 17 #[.pointer (some ⟨A, 0, none⟩), .int .i64 z] W fun e w' => ∃ (L2 : List Bl) (r er : Nat), e = .returned (.tuple #[.int .i64 (r : Int), .int .i64 (er : Int)]) ∧ AlAct B L z L2 r er ∧ AaM K A m B n0 L2 L w w' ∧ ∀ b, K b → w'.heap[b]? = W.heap[b]? := by
  have hsafe := h
  obtain ⟨⟨x, y, P, h1, h2, h3, h4, h5⟩, hbel⟩ := h
  refine (alloc_x x A B L n0 z W h1).mono fun e w' hk => ?_
  rcases hk with ⟨k1, he, hw⟩ | ⟨k1, k2, he, hw⟩ | ⟨k1, k2, k, L1, L2, hz, _, hL, hl, he, hx⟩
  · exact ⟨L, 0, 3, he, .big k1, hw ▸ hsafe, fun b _ => by rw [hw]⟩
  · exact ⟨L, 0, 4, he, .full k1 k2, hw ▸ hsafe, fun b _ => by rw [hw]⟩
  · exact ⟨_, _, 0, he, .new L1 L2 k hz k1 k2 hL hl, AaM.code hn h2 h3 h4 h5 hbel hx⟩
theorem least_k {L1 L2 : List Bl} {k : Nat} (hl : Least L1 L2) (hk : k ≤ (L1 ++ L2).length) (h1 : ∀ i (h : i < (L1 ++ L2).length), i < k → (L1 ++ L2)[i].1 = i + 1) (h2 : ∀ h : k < (L1 ++ L2).length, (L1 ++ L2)[k].1 ≠ k + 1) : k = L1.length := by
  rcases Nat.lt_trichotomy k L1.length with h | h | h
  · have := h2 (by rw [List.length_append]; omega)
    rw [List.getElem_append_left h] at this
    exact absurd (hl.1 k h) this
  · exact h
  · have hlt : L1.length < (L1 ++ L2).length := by omega
    have h3 := h1 L1.length hlt h
    rw [List.getElem_append_right (Nat.le_refl _)] at h3
    have := hl.2 _ (List.getElem_mem (by rw [List.length_append] at hlt; omega : L1.length - L1.length < L2.length))
    omega
theorem AaM.facts {K : Nat → Prop} {A m B n0 : Nat} {L L' : List Bl} {w W : World} (h : AaM K A m B n0 L L' w W) : sumC L ≤ B ∧ B ≤ 1048576 ∧ (∀ b ∈ L, b.2.length ≤ 4096) ∧ L.length ≤ 65536 ∧ L.Pairwise (fun x y => x.1 < y.1) := by
  obtain ⟨⟨x, y, P, h1, _⟩, _⟩ := h
  exact ⟨h1.sum_le.1, h1.sum_le.2, fun b hb => (h1.each.2 b hb).2, least_le (L1 := L) (L2 := []) (by rw [List.append_nil]; exact h1), h1.each.1⟩
theorem lsP_len (P : List Rp) : (lsP P).length = P.length := by simp [lsP]
theorem lsP_at {P : List Rp} {i : Nat} (h : i < P.length) : (lsP P)[i]'(by rw [lsP_len]; exact h) = P[i].2 := by simp [lsP]
theorem AlAct.facts {B : Nat} {L L2 : List Bl} {z : Int} {r er : Nat} (h : AlAct B L z L2 r er) : L.length ≤ L2.length := by
  cases h with
  | big _ => exact Nat.le_refl _
  | full _ _ => exact Nat.le_refl _
  | new L1 L3 k _ _ _ e _ => subst e; simp
theorem aa_alloc2 (K : Nat → Prop) (A m B n0 : Nat) (L L2 : List Bl) (z : Int) (r er : Nat) (w W : World) (hn : w.heap.size ≤ n0) (hz : -9223372036854775808 ≤ z ∧ z ≤ 9223372036854775807) (hs : sumC L ≤ B) (hB : B ≤ 1048576) (he4 : ∀ b ∈ L, b.2.length ≤ 4096) (hl : L.length ≤ 65536) (h : AaM K A m B n0 L2 L w W) (ha : AlAct B L z L2 r er) :
    Calls Tryd.prog 18 #[.pointer (some ⟨m, 0, none⟩), .int .i64 z] W fun e w' => e = .returned (.tuple #[.int .i64 (r : Int), .int .i64 (er : Int)]) ∧ AaM K A m B n0 L2 L2 w w' ∧ ∀ b, K b → w'.heap[b]? = W.heap[b]? := by
  have hsafe := h
  obtain ⟨⟨x, y, P, h1, h2, rfl, h4, h5⟩, hbel⟩ := h
  have hK : ∀ w', Below W.heap.size W w' → ∀ b, K b → w'.heap[b]? = W.heap[b]? := fun w' hb b hk => hb.block b (h1.xlt b (h5 b hk).1)
  refine (malloc_any y m B P z W h2 hz hB hs (by rw [lsP_len] at hl; omega) he4).mono fun e w' hk => ?_
  rcases hk with ⟨k1, he, hb⟩ | ⟨k1, k2, he, hb⟩ | ⟨k1, k2, k, rw_, hk, g1, g2, he, hR⟩
  · cases ha with
    | big _ => exact ⟨he, hsafe.after hb, hK w' hb⟩
    | full c _ => exact absurd k1 c
    | new _ _ _ _ c _ _ _ => exact absurd k1 c
  · cases ha with
    | big c => exact absurd c k1
    | full _ _ => exact ⟨he, hsafe.after hb, hK w' hb⟩
    | new _ _ _ _ _ c _ _ => omega
  · cases ha with
    | big c => exact absurd c k1
    | full _ c => omega
    | new L1 L3 kk hzk _ _ e hl2 =>
      have hkk : k = L1.length := least_k hl2 (by rw [← e, lsP_len]; exact hk) (fun i h hi => by
        have h9 : i < P.length := by rw [← e, lsP_len] at h; exact h
        have := g1 i h9 hi
        rw [← lsP_at h9] at this
        simpa [e] using this) (fun h => by
        have h9 : k < P.length := by rw [← e, lsP_len] at h; exact h
        have := g2 h9
        rw [← lsP_at h9] at this
        simpa [e] using this)
      have hm := AaM.model hn h1 h2 h4 h5 hbel hR
      have hls : lsP (P.take k ++ (rw_, (k + 1, Ar.zeros z.toNat)) :: P.drop k) = L1 ++ (L1.length + 1, Ar.zeros kk) :: L3 := by
        have e1 : (lsP P).take k = L1 := by rw [e, hkk, List.take_left' rfl]
        have e2 : (lsP P).drop k = L3 := by rw [e, hkk, List.drop_left' rfl]
        unfold lsP at e1 e2 ⊢
        rw [List.map_append, List.map_cons, List.map_take, List.map_drop, e1, e2, hkk, hzk, Int.toNat_natCast]
      rw [hls] at hm
      refine ⟨?_, hm⟩
      rw [he, hkk]
      rfl
/-- What Free does, of both. -/
inductive FrAct (L : List Bl) (z : Int) : List Bl → Nat → Prop
  | none : (∀ b ∈ L, (b.1 : Int) ≠ z) → FrAct L z L 5
  | one (L1 : List Bl) (b : Bl) (L2 : List Bl) : L = L1 ++ b :: L2 → (b.1 : Int) = z → FrAct L z (L1 ++ L2) 0
theorem aa_free1 (K : Nat → Prop) (A m B n0 : Nat) (L : List Bl) (z : Int) (w W : World) (hn : w.heap.size ≤ n0) (h : AaM K A m B n0 L L w W) :
    Calls Tryd.prog 19 #[.pointer (some ⟨A, 0, none⟩), .int .i64 z] W fun e w' => ∃ (L2 : List Bl) (er : Nat), e = .returned (.int .i64 (er : Int)) ∧ FrAct L z L2 er ∧ AaM K A m B n0 L2 L w w' ∧ ∀ b, K b → w'.heap[b]? = W.heap[b]? := by
  obtain ⟨⟨x, y, P, h1, h2, h3, h4, h5⟩, hbel⟩ := h
  refine (free_x x A B L n0 z W h1).mono fun e w' hk => ?_
  rcases hk with ⟨k1, he, hx⟩ | ⟨L1, b, L2, hL, hz, he, hx⟩
  · exact ⟨L, 5, he, .none k1, AaM.code hn h2 h3 h4 h5 hbel hx⟩
  · exact ⟨_, 0, he, .one L1 b L2 hL hz, AaM.code hn h2 h3 h4 h5 hbel hx⟩
theorem aa_free2 (K : Nat → Prop) (A m B n0 : Nat) (L L2 : List Bl) (z : Int) (er : Nat) (w W : World) (hn : w.heap.size ≤ n0) (hl : L.length ≤ 65536) (hsrt : L.Pairwise (fun x y => x.1 < y.1)) (h : AaM K A m B n0 L2 L w W) (ha : FrAct L z L2 er) :
    Calls Tryd.prog 20 #[.pointer (some ⟨m, 0, none⟩), .int .i64 z] W fun e w' => e = .returned (.int .i64 (er : Int)) ∧ AaM K A m B n0 L2 L2 w w' ∧ ∀ b, K b → w'.heap[b]? = W.heap[b]? := by
  have hsafe := h
  obtain ⟨⟨x, y, P, h1, h2, rfl, h4, h5⟩, hbel⟩ := h
  refine (mfree_any y m B P z W h2 (by rw [lsP_len] at hl; omega)).mono fun e w' hk => ?_
  rcases hk with ⟨he, k1, hw⟩ | ⟨he, P1, p, P2, rfl, hz, hR⟩
  · cases ha with
    | none _ => exact ⟨he, hw ▸ hsafe, fun b _ => by rw [hw]⟩
    | one L1 b L2 e c =>
      have hb : b ∈ lsP P := by rw [e]; simp
      obtain ⟨p, hp, rfl⟩ := List.mem_map.1 hb
      exact absurd c (k1 p hp)
  · cases ha with
    | none c => exact absurd hz (c p.2 (by simp [lsP]))
    | one L1 b L2 e c =>
      have e2 : lsP P1 ++ p.2 :: lsP P2 = L1 ++ b :: L2 := by rw [← e]; simp [lsP]
      have hs : (lsP P1 ++ p.2 :: lsP P2).Pairwise (fun x y => x.1 < y.1) := by rw [e2, ← e]; exact hsrt
      obtain ⟨q1, _, q2⟩ := srt_uniq hs e2 (by omega)
      have hm := AaM.model hn h1 h2 h4 h5 hbel hR
      have hls : lsP (P1 ++ P2) = L1 ++ L2 := by rw [← q1, ← q2]; simp [lsP]
      rw [hls] at hm
      exact ⟨he, hm⟩
end Go.Proofs.YtdbaocphglijbaaDoor

/- ArenaActs: Read, Write, Compact by both. -/
set_option maxRecDepth 100000
namespace Go.Proofs.YtdbaocphglijbaaDoor
open Go Go.RowKit Go.Shelf
attribute [local go_sem] Oper.semAt_some
theorem rk_rdB {x : Nat → Prop} {v : Value} {l : List UInt8} {W : World} (h : RK encC x v l W) : RdB v l W := by
  obtain ⟨ao, cap, rfl, hc, hf⟩ := h.form
  refine ⟨ao, cap, rfl, fun j hj => ?_⟩
  obtain ⟨b, off, e, _, c⟩ := hf j (encB l[j]) (by rw [flatC]; simp [hj])
  exact ⟨b, off, e, c⟩
/-- What Read tells, of both. -/
inductive RdAct (L : List Bl) (z a n : Int) : List UInt8 → Nat → Prop
  | none : (∀ b ∈ L, (b.1 : Int) ≠ z) → RdAct L z a n [] 5
  | bad (b : Bl) : b ∈ L → (b.1 : Int) = z → ¬ Within b.2.length a n → RdAct L z a n [] 1
  | ok (b : Bl) : b ∈ L → (b.1 : Int) = z → Within b.2.length a n → RdAct L z a n ((b.2.drop a.toNat).take n.toNat) 0
theorem aa_read1 (K : Nat → Prop) (A m B n0 : Nat) (L L' : List Bl) (z a n : Int) (w W : World) (h : AaM K A m B n0 L L' w W)
    (hI1 : -9223372036854775808 ≤ a) (hI2 : a ≤ 9223372036854775807) (hI3 : -9223372036854775808 ≤ n) (hI4 : n ≤ 9223372036854775807) :
    Calls Tryd.prog 21 #[.pointer (some ⟨A, 0, none⟩), .int .i64 z, .int .i64 a, .int .i64 n] W fun e w' => ∃ (v : Value) (l : List UInt8) (er : Nat), e = .returned (.tuple #[v, .int .i64 (er : Int)]) ∧ RdAct L z a n l er ∧ RK encC (fun _ => True) v l w' ∧ Below W.heap.size W w' := by
  obtain ⟨⟨x, y, P, h1, h2, h3, h4, h5⟩, hbel⟩ := h
  refine (read_x x A B L n0 z a n W h1 hI1 hI2 hI3 hI4).mono fun e w' ⟨_, hb, hk⟩ => ?_
  rcases hk with ⟨k1, he⟩ | ⟨b, hbm, hz, ⟨k1, he⟩ | ⟨k1, v, l, rfl, he, hr⟩⟩
  · exact ⟨_, [], 5, he, .none k1, RK.nil _ _ _, hb⟩
  · exact ⟨_, [], 1, he, .bad b hbm hz k1, RK.nil _ _ _, hb⟩
  · have ho : OwnK encC 1 5 W.heap.size v ((b.2.drop a.toNat).take n.toNat) w' := by unfold OwnK; rw [flatC]; exact hr
    exact ⟨v, _, 0, he, .ok b hbm hz k1, RK.own ho fun _ _ => trivial, hb⟩
theorem aa_read2 (K : Nat → Prop) (A m B n0 : Nat) (L L' : List Bl) (z a n : Int) (l : List UInt8) (er : Nat) (w W : World) (hl : L.length ≤ 65536) (he4 : ∀ b ∈ L, b.2.length ≤ 4096) (hsrt : L.Pairwise (fun x y => x.1 < y.1)) (h : AaM K A m B n0 L' L w W) (ha : RdAct L z a n l er)
    (hI1 : -9223372036854775808 ≤ a) (hI2 : a ≤ 9223372036854775807) (hI3 : -9223372036854775808 ≤ n) (hI4 : n ≤ 9223372036854775807) :
    Calls Tryd.prog 22 #[.pointer (some ⟨m, 0, none⟩), .int .i64 z, .int .i64 a, .int .i64 n] W fun e w' => ∃ (v : Value), e = .returned (.tuple #[v, .int .i64 (er : Int)]) ∧ RK encC (fun _ => True) v l w' ∧ Below W.heap.size W w' := by
  obtain ⟨⟨x, y, P, h1, h2, rfl, h4, h5⟩, hbel⟩ := h
  have hmem : ∀ (i : Nat) (hi : i < P.length), P[i].2 ∈ lsP P := fun i hi => List.mem_map.2 ⟨P[i], List.getElem_mem hi, rfl⟩
  refine (mread_any y m B P z a n W h2 (by rw [lsP_len] at hl; omega) (fun p hp => he4 p.2 (List.mem_map.2 ⟨p, hp, rfl⟩)) hI1 hI2 hI3 hI4).mono fun e w' ⟨hb, hk⟩ => ?_
  rcases hk with ⟨k1, he⟩ | ⟨i, hi, hz, hk⟩
  · have hno : ∀ b ∈ lsP P, (b.1 : Int) ≠ z := fun b hb => by obtain ⟨p, hp, rfl⟩ := List.mem_map.1 hb; exact k1 p hp
    cases ha with
    | none _ => exact ⟨_, he, RK.nil _ _ _, hb⟩
    | bad b hbm c _ => exact absurd c (hno b hbm)
    | ok b hbm c _ => exact absurd c (hno b hbm)
  · rcases hk with ⟨k1, he⟩ | ⟨k1, v, l', rfl, he, ho⟩
    · cases ha with
      | none c => exact absurd hz (c _ (hmem i hi))
      | bad b hbm c _ => exact ⟨_, he, RK.nil _ _ _, hb⟩
      | ok b hbm c c2 =>
        have e := srt_mem hsrt hbm (hmem i hi) (by omega)
        subst e
        exact absurd c2 k1
    · cases ha with
      | none c => exact absurd hz (c _ (hmem i hi))
      | bad b hbm c c2 =>
        have e := srt_mem hsrt hbm (hmem i hi) (by omega)
        subst e
        exact absurd k1 c2
      | ok b hbm c c2 =>
        have e := srt_mem hsrt hbm (hmem i hi) (by omega)
        subst e
        exact ⟨v, he, RK.own ho fun _ _ => trivial, hb⟩
/-- What Write does, of both. -/
inductive WrAct (L : List Bl) (z a : Int) (l : List UInt8) : List Bl → Nat → Prop
  | none : (∀ b ∈ L, (b.1 : Int) ≠ z) → WrAct L z a l L 5
  | bad (b : Bl) : b ∈ L → (b.1 : Int) = z → ¬ Within b.2.length a l.length → WrAct L z a l L 1
  | ok (L1 : List Bl) (b : Bl) (L2 : List Bl) : L = L1 ++ b :: L2 → (b.1 : Int) = z → Within b.2.length a l.length → WrAct L z a l (L1 ++ (b.1, Ar.put b.2 a.toNat l) :: L2) 0
theorem aa_write1 (K : Nat → Prop) (A m B n0 : Nat) (L L' : List Bl) (z a : Int) (v : Value) (l : List UInt8) (w W : World) (hn : w.heap.size ≤ n0) (h : AaM K A m B n0 L L' w W) (hv : RK encC (fun _ => True) v l W) (hl : l.length ≤ 1000)
    (hI1 : -9223372036854775808 ≤ a) (hI2 : a ≤ 9223372036854775807) :
    Calls Tryd.prog 23 #[.pointer (some ⟨A, 0, none⟩), .int .i64 z, .int .i64 a, v] W fun e w' => ∃ (L2 : List Bl) (er : Nat), e = .returned (.int .i64 (er : Int)) ∧ WrAct L z a l L2 er ∧ AaM K A m B n0 L2 L' w w' ∧ ∀ b, K b → w'.heap[b]? = W.heap[b]? := by
  obtain ⟨⟨x, y, P, h1, h2, h3, h4, h5⟩, hbel⟩ := h
  refine (write_x x A B L n0 z a v l W h1 (rk_rdB hv) (by omega) hI1 hI2).mono fun e w' hk => ?_
  rcases hk with ⟨k1, he, hx⟩ | ⟨L1, b, L2, hL, hz, ⟨k1, he, hx⟩ | ⟨k1, he, hx⟩⟩
  · exact ⟨L, 5, he, .none k1, AaM.code hn h2 h3 h4 h5 hbel hx⟩
  · exact ⟨L, 1, he, .bad b (by rw [hL]; simp) hz k1, AaM.code hn h2 h3 h4 h5 hbel hx⟩
  · exact ⟨_, 0, he, .ok L1 b L2 hL hz k1, AaM.code hn h2 h3 h4 h5 hbel hx⟩
theorem aa_write2 (K : Nat → Prop) (A m B n0 : Nat) (L L2 : List Bl) (z a : Int) (v : Value) (l : List UInt8) (er : Nat) (w W : World) (hn : w.heap.size ≤ n0) (hll : L.length ≤ 65536) (he4 : ∀ b ∈ L, b.2.length ≤ 4096) (hsrt : L.Pairwise (fun x y => x.1 < y.1)) (h : AaM K A m B n0 L2 L w W) (hv : RK encC (fun _ => True) v l W) (hl : l.length ≤ 1000) (ha : WrAct L z a l L2 er)
    (hI1 : -9223372036854775808 ≤ a) (hI2 : a ≤ 9223372036854775807) :
    Calls Tryd.prog 24 #[.pointer (some ⟨m, 0, none⟩), .int .i64 z, .int .i64 a, v] W fun e w' => e = .returned (.int .i64 (er : Int)) ∧ AaM K A m B n0 L2 L2 w w' ∧ ∀ b, K b → w'.heap[b]? = W.heap[b]? := by
  have hsafe := h
  obtain ⟨⟨x, y, P, h1, h2, rfl, h4, h5⟩, hbel⟩ := h
  have hmem : ∀ (i : Nat) (hi : i < P.length), P[i].2 ∈ lsP P := fun i hi => List.mem_map.2 ⟨P[i], List.getElem_mem hi, rfl⟩
  refine (mwrite_any y m B P z a v l W h2 hv (by rw [lsP_len] at hll; omega) (by omega) (fun p hp => he4 p.2 (List.mem_map.2 ⟨p, hp, rfl⟩)) hI1 hI2).mono fun e w' hk => ?_
  rcases hk with ⟨k1, he, hw⟩ | ⟨i, hi, hz, hk⟩
  · have hno : ∀ b ∈ lsP P, (b.1 : Int) ≠ z := fun b hb => by obtain ⟨p, hp, rfl⟩ := List.mem_map.1 hb; exact k1 p hp
    cases ha with
    | none _ => exact ⟨he, hw ▸ hsafe, fun b _ => by rw [hw]⟩
    | bad b hbm c _ => exact absurd c (hno b hbm)
    | ok L1 b L3 e c _ => exact absurd c (hno b (by rw [e]; simp))
  · rcases hk with ⟨k1, he, hw⟩ | ⟨k1, he, r, hR⟩
    · cases ha with
      | none c => exact absurd hz (c _ (hmem i hi))
      | bad b hbm c _ => exact ⟨he, hw ▸ hsafe, fun b _ => by rw [hw]⟩
      | ok L1 b L3 e c c2 =>
        have e9 := srt_mem hsrt (show b ∈ lsP P by rw [e]; simp) (hmem i hi) (by omega)
        subst e9
        exact absurd c2 k1
    · cases ha with
      | none c => exact absurd hz (c _ (hmem i hi))
      | bad b hbm c c2 =>
        have e := srt_mem hsrt hbm (hmem i hi) (by omega)
        subst e
        exact absurd k1 c2
      | ok L1 b L3 e c c2 =>
        have e9 := srt_mem hsrt (show b ∈ lsP P by rw [e]; simp) (hmem i hi) (by omega)
        subst e9
        have e2 : lsP P = (lsP P).take i ++ P[i].2 :: (lsP P).drop (i + 1) := by
          have hi2 : i < (lsP P).length := by rw [lsP_len]; exact hi
          rw [← lsP_at hi, ← List.drop_eq_getElem_cons hi2, List.take_append_drop]
        have hs : ((lsP P).take i ++ P[i].2 :: (lsP P).drop (i + 1)).Pairwise (fun x y => x.1 < y.1) := by rw [← e2]; exact hsrt
        obtain ⟨q1, _, q2⟩ := srt_uniq hs (e2.symm.trans e) rfl
        have hm := AaM.model hn h1 h2 h4 h5 hbel hR
        have hls : lsP (P.set i (r, (P[i].2.1, Ar.put P[i].2.2 a.toNat l))) = L1 ++ (P[i].2.1, Ar.put P[i].2.2 a.toNat l) :: L3 := by
          have hi2 : i < (lsP P).length := by rw [lsP_len]; exact hi
          unfold lsP at q1 q2 hi2 ⊢
          rw [List.map_set, List.set_eq_take_append_cons_drop, if_pos hi2, q1, q2]
        rw [hls] at hm
        exact ⟨he, hm⟩
theorem aa_left1 (K : Nat → Prop) (A m B n0 : Nat) (L L' : List Bl) (w W : World) (hn : w.heap.size ≤ n0) (h : AaM K A m B n0 L L' w W) :
    Calls Tryd.prog 25 #[.pointer (some ⟨A, 0, none⟩)] W fun e w' => e = .returned (.int .i64 ((B - sumC L : Nat) : Int)) ∧ AaM K A m B n0 L L' w w' ∧ ∀ b, K b → w'.heap[b]? = W.heap[b]? := by
  obtain ⟨⟨x, y, P, h1, h2, h3, h4, h5⟩, hbel⟩ := h
  exact (compact_x x A B L n0 W h1).mono fun e w' ⟨he, hx⟩ => ⟨he, AaM.code hn h2 h3 h4 h5 hbel hx⟩
theorem aa_left2 (K : Nat → Prop) (A m B n0 : Nat) (L L' : List Bl) (w W : World) (hs : sumC L ≤ B) (hB : B ≤ 1048576) (hl : L.length ≤ 65536) (he4 : ∀ b ∈ L, b.2.length ≤ 4096) (h : AaM K A m B n0 L' L w W) :
    Calls Tryd.prog 26 #[.pointer (some ⟨m, 0, none⟩)] W fun e w' => e = .returned (.int .i64 ((B - sumC L : Nat) : Int)) ∧ Below W.heap.size W w' := by
  obtain ⟨⟨x, y, P, h1, h2, rfl, h4, h5⟩, hbel⟩ := h
  exact (mleft_any y m B P W h2 hB hs (by rw [lsP_len] at hl; omega) he4).mono fun e w' ⟨he, q, hw⟩ => ⟨he, by rw [hw]; exact below_drewN _ _ q⟩
theorem aa_shows (K : Nat → Prop) (A m B n0 : Nat) (L : List Bl) (w W : World) (hl : L.length ≤ 65536) (h : AaM K A m B n0 L L w W) :
    Calls Tryd.prog 27 #[.pointer (some ⟨A, 0, none⟩), .pointer (some ⟨m, 0, none⟩)] W fun e w' => e = .returned (.bool true) ∧ Below W.heap.size W w' := by
  obtain ⟨⟨x, y, P, h1, h2, h3, h4, h5⟩, hbel⟩ := h
  subst h3
  exact shows6_any x y A m B P n0 W h1 h2 (by rw [lsP_len] at hl; omega)
end Go.Proofs.YtdbaocphglijbaaDoor

/- ArenaActs: few. -/
set_option maxRecDepth 100000
namespace Go.Proofs.YtdbaocphglijbaaDoor
open Go Go.RowKit Go.Shelf
attribute [local go_sem] Oper.semAt_some
structure Axc where
  kind : Int
  h : Int
  at_ : Int
  n : Int
  ao : Option Addr
  c : Nat
  b : List UInt8
def encAx (a : Axc) : List Value := [.int .i64 a.kind, .int .i64 a.h, .int .i64 a.at_, .int .i64 a.n, .slice a.ao a.b.length a.c]
theorem encAx_len (a : Axc) : (encAx a).length = 5 := rfl
def fewB6 (l : List Axc) : Bool := decide (l.length ≤ 60 ∧ ∀ a ∈ l, a.b.length ≤ 200)
def FewRet6 (l : List Axc) (w : World) (e : Ending) (w' : World) : Prop := e = .returned (.bool (fewB6 l)) ∧ w = w'
set_option maxHeartbeats 4000000 in
theorem few6_any (l : List Axc) (v : Value) (w : World) (h : RK encAx (fun _ => True) v l w) (hl : l.length ≤ 9223372036854775807) (hs : ∀ a ∈ l, a.b.length ≤ 9223372036854775807) :
    Calls Tryd.prog 13 #[v] w (FewRet6 l w) := by
  obtain ⟨ao, cap, rfl, hcap, hf⟩ := h.form
  have HS := Lib.hid hs
  have HAT := Lib.hid (fun (i : Nat) (hi : i < l.length) => h.at_ encAx_len (i := i) (f := 4) hi (by omega))
  clear h hf hs
  go_enter Tryd.func13, Tryd.ntmps13
  go_wp2
  go_loop [3] (fun i => ∃ k : Nat, i = .int .i64 (k : Int) ∧ k ≤ l.length ∧ k ≤ 70 ∧ Hid (∀ i (h : i < l.length), i < k → l[i].b.length ≤ 200)) (fun i => l.length + 1 - (intOf i).toNat)
  case atStart => exact ⟨0, rfl, Nat.zero_le _, by omega, Lib.hid fun i h h2 => by omega⟩
  case round =>
    obtain ⟨k, rfl, hk, hk70, HN⟩ := hrel
    by_cases hgo : k < l.length ∧ k < 70
    · obtain ⟨hlt, h70⟩ := hgo
      obtain ⟨b, off, rfl, _, d1⟩ := HAT.out k hlt
      have hsl := HS.out _ (List.getElem_mem hlt)
      obtain ⟨q, hq⟩ : ∃ q, l[k].b = q := ⟨_, rfl⟩
      simp only [encAx, List.getElem?_cons_succ, List.getElem?_cons_zero, hq] at d1
      rw [← Nat.add_assoc] at d1
      rw [hq] at hsl
      by_cases hlong : 200 < q.length
      · have hfb : fewB6 l = false := decide_eq_false fun h => by have := h.2 _ (List.getElem_mem hlt); rw [hq] at this; omega
        clear hq HN
        go_wp2
        go_ret
        exact ⟨(show Ending.returned (.bool false) = Ending.returned (.bool (fewB6 l)) by rw [hfb]), rfl⟩
      · have HQ : Hid (∀ i (h : i < l.length), i < k + 1 → l[i].b.length ≤ 200) := Lib.hid fun i h h2 => by
          by_cases e : i = k
          · subst e; rw [hq]; omega
          · exact HN.out i h (by omega)
        clear hq HN
        go_wp2
        go_round
        case rel => exact ⟨k + 1, by go_num, by omega, by omega, HQ⟩
        case measure => simp [intOf]; omega
    · have HFIN : Hid (l.length ≤ 60 → ∀ a ∈ l, a.b.length ≤ 200) := Lib.hid fun h60 a ha => by
        obtain ⟨i, hi, rfl⟩ := List.mem_iff_getElem.1 ha
        exact HN.out i hi (by omega)
      by_cases hlt : k < l.length
      · have h70 : k = 70 := by omega
        subst h70
        have h60 : ¬ ((l.length : Int) ≤ 60) := by omega
        have hfb : fewB6 l = false := decide_eq_false fun h => by omega
        clear HN
        go_wp2
        go_ret
        exact ⟨(show Ending.returned (.bool false) = Ending.returned (.bool (fewB6 l)) by rw [hfb]), rfl⟩
      · have hfb : decide ((l.length : Int) ≤ 60) = fewB6 l := by
          by_cases h : l.length ≤ 60
          · rw [decide_eq_true (show (l.length : Int) ≤ 60 by omega)]
            exact (decide_eq_true ⟨h, HFIN.out h⟩).symm
          · rw [decide_eq_false (show ¬ (l.length : Int) ≤ 60 by omega)]
            exact (decide_eq_false fun h2 => h h2.1).symm
        clear HN HFIN
        go_wp2
        go_ret
        exact ⟨rfl, rfl⟩
end Go.Proofs.YtdbaocphglijbaaDoor
