/- ArenaMoves of package freshetlaw6 (however blocks of unlike sizes come and go, what is free can be had, in whatever pieces it lies; no block's bytes are another's) returns true at every list of numbers, list of booleans and number, and they read as they did: the given card.
   Conditions: those of the row and of its card, none beside. -/
import Derived.Maps.AppendAt
import Derived.Deep.CutBlock
import Derived.Test.YtdbaocphglijbaaDoorJB20
import Derived.Test.YtdbaocphglijbaaDoorJB18
import Derived.Test.YtdbaocphglijbaaDoorJB26
/- Rows of a law's own beside its arena: what they hold, through the arena's calls, stores and appends. -/
set_option maxRecDepth 100000
namespace Go.Proofs.YtdbaocphglijbaaDoor
open Go.RowKit Go.Shelf
/-- A block that can be none of an arena's. -/
def Foreign (w : World) (k : Nat) : Prop := ∃ c e z, w.heap[k]? = some (.cells c e z) ∧ e ≠ 95 ∧ e ≠ 5 ∧ e ≠ 21 ∧ e ≠ 126 ∧ e ≠ 142
theorem Foreign.not {w : World} {k : Nat} {l : List Value} {t : TypeId} (h : Foreign w k) (hb : Blk w k l t) (ht : t = 95 ∨ t = 5 ∨ t = 21 ∨ t = 126 ∨ t = 142) : False := by
  obtain ⟨c, e, z, h1, h2, h3, h4, h5, h6⟩ := h
  have := (show w.heap[k]? = _ from hb).symm.trans h1
  injection this with this
  injection this with _ this
  subst this
  rcases ht with ht | ht | ht | ht | ht <;> contradiction
theorem HX.turn {x y : Nat → Prop} {A B : Nat} {L : List Bl} {n0 : Nat} {w w' : World} (h : HX x A B L n0 w) (hk : ∀ k, k < w.heap.size → ¬ x k → w'.heap[k]? = w.heap[k]?) (hb : Below n0 w w')
    (hy : ∀ k, y k → n0 ≤ k ∧ k < w'.heap.size ∧ (x k ∨ w.heap.size ≤ k ∨ Foreign w' k)) : HX y A B L n0 w' := by
  obtain ⟨bs, ⟨L', S, pcs, a, I, e, m⟩, hv⟩ := h.ex
  have hs := hb.size
  have one : ∀ (K : Nat) (l : List Value) (t : TypeId), (t = 95 ∨ t = 5 ∨ t = 21 ∨ t = 126 ∨ t = 142) → Blk w K l t → fx x n0 w K → Blk w' K l t ∧ fx y n0 w' K := fun K l t ht hbk hf => by
    have hB := hbk.kept (hk K hf.2.1 hf.2.2)
    refine ⟨hB, hf.1, Nat.lt_of_lt_of_le hf.2.1 hs, fun e => ?_⟩
    rcases (hy K e).2.2 with h1 | h1 | h1
    · exact hf.2.2 h1
    · have := hf.2.1; omega
    · exact h1.not hB ht
  obtain ⟨b1, f1⟩ := one _ _ _ (.inl rfl) a.box a.fA
  obtain ⟨b2, f2⟩ := one _ _ _ (.inr (.inl rfl)) a.mem a.fM
  obtain ⟨b3, f3⟩ := one _ _ _ (.inr (.inr (.inl rfl))) a.pl a.fP
  obtain ⟨b4, f4⟩ := one _ _ _ (.inr (.inr (.inr (.inl rfl)))) a.us a.fU
  obtain ⟨b5, f5⟩ := one _ _ _ (.inr (.inr (.inr (.inr rfl)))) a.nd a.fN
  exact ⟨⟨bs, ⟨L', S, pcs, ⟨b1, b2, b3, b4, b5, a.cap, a.cm, f1, f2, f3, f4, f5, fun k e => e.2.1⟩, I, e, m⟩, hv⟩, Nat.le_trans h.low hs, fun k e => (hy k e).2.1, fun k e => (hy k e).1, h.tab.below h.tlt hb, h.tlt⟩
/-- A row of the law's own. -/
structure RowIn (x : Nat → Prop) (n0 : Nat) (e : TypeId) (v : Value) (cs : List Value) (w : World) : Prop where
  own : w.ownsRow n0 e 1 v cs.length cs
  isIn : ∀ k, v.ownBlock = some k → x k
theorem ownsRow_same {w w' : World} {n0 : Nat} {e : TypeId} {v : Value} {n : Nat} {cs : List Value} (h : w.ownsRow n0 e 1 v n cs) (hk : ∀ k, v.ownBlock = some k → w'.heap[k]? = w.heap[k]?) : w'.ownsRow n0 e 1 v n cs := by
  refine ⟨h.1, ?_⟩
  rcases h.2 with h2 | ⟨g, cap, cur, rfl, h3, h4, h5⟩
  · exact .inl h2
  · exact .inr ⟨g, cap, cur, rfl, h3, (hk g rfl).trans h4, h5⟩
theorem RowIn.lx {x : Nat → Prop} {A B : Nat} {L : List Bl} {n0 : Nat} {e : TypeId} {v : Value} {cs : List Value} {w w' : World} (h : RowIn x n0 e v cs w) (k : LX x A B L n0 w w') : RowIn x n0 e v cs w' :=
  ⟨ownsRow_same h.own fun j hj => k.own j (h.isIn j hj), h.isIn⟩
theorem RowIn.below {x : Nat → Prop} {n0 : Nat} {e : TypeId} {v : Value} {cs : List Value} {w w' : World} (h : RowIn x n0 e v cs w) (hb : Below w.heap.size w w') : RowIn x n0 e v cs w' :=
  ⟨ownsRow_same h.own fun j hj => hb.block j (h.own.lt j hj).2, h.isIn⟩
theorem RowIn.same {x : Nat → Prop} {n0 : Nat} {e : TypeId} {v : Value} {cs : List Value} {w w' : World} (h : RowIn x n0 e v cs w) (hk : ∀ k, v.ownBlock = some k → w'.heap[k]? = w.heap[k]?) : RowIn x n0 e v cs w' := ⟨ownsRow_same h.own hk, h.isIn⟩
theorem RowIn.more {x y : Nat → Prop} {n0 : Nat} {e : TypeId} {v : Value} {cs : List Value} {w : World} (h : RowIn x n0 e v cs w) (hy : ∀ k, x k → y k) : RowIn y n0 e v cs w := ⟨h.own, fun k hk => hy k (h.isIn k hk)⟩
theorem RowIn.nil (x : Nat → Prop) (n0 : Nat) (e : TypeId) (w : World) : RowIn x n0 e (.slice none 0 0) [] w := ⟨World.ownsRow_nil w n0 e 1, fun k hk => by cases hk⟩
theorem RowIn.form {x : Nat → Prop} {n0 : Nat} {e : TypeId} {v : Value} {cs : List Value} {w : World} (h : RowIn x n0 e v cs w) : ∃ ao c, v = .slice ao cs.length c ∧ cs.length ≤ c := by
  rcases h.own.2 with ⟨rfl, hn⟩ | ⟨g, cap, cur, rfl, _, _, h5, _⟩
  · exact ⟨none, 0, by rw [hn], by omega⟩
  · exact ⟨_, cap, rfl, h5⟩
theorem RowIn.at_ {x : Nat → Prop} {n0 : Nat} {e : TypeId} {ao : Option Addr} {n c : Nat} {cs : List Value} {w : World} (h : RowIn x n0 e (.slice ao n c) cs w) {i : Nat} {u : Value} (hu : cs[i]? = some u) : ∃ g, ao = some ⟨g, 0, none⟩ ∧ w.cell? ⟨g, i, none⟩ = some u ∧ w.frozen? ⟨g, i, none⟩ = false ∧ n0 ≤ g ∧ x g := by
  have hlt : i < cs.length := (List.getElem?_eq_some_iff.1 hu).1
  have ho := h.own
  rcases ho.2 with ⟨e1, hn⟩ | ⟨g, cap, cur, e1, h3, _⟩
  · omega
  · cases e1
    refine ⟨g, rfl, ?_, World.ownsRow.frozenAt ho i, h3, h.isIn g rfl⟩
    have := World.ownsRow.cellAt ho i (by omega)
    rw [this, hu]
theorem ownBlock_slice (g n c : Nat) : (Value.slice (some ⟨g, 0, none⟩) n c).ownBlock = some g := rfl
/-- A store into a row. -/
theorem RowIn.put {x : Nat → Prop} {n0 : Nat} {e : TypeId} {g n c : Nat} {cs : List Value} {w : World} (h : RowIn x n0 e (.slice (some ⟨g, 0, none⟩) n c) cs w) (i : Nat) (u : Value) : RowIn x n0 e (.slice (some ⟨g, 0, none⟩) n c) (cs.set i u) (w.setCell ⟨g, i, none⟩ u) := by
  refine ⟨?_, h.isIn⟩
  have hn : n = cs.length := by
    rcases h.own.2 with ⟨e1, _⟩ | ⟨g', cap, cur, e1, _⟩
    · cases e1
    · cases e1; rfl
  have ho := h.own
  rw [← hn] at ho
  have := World.ownsRow.stored ho i u
  rw [List.length_set, ← hn]
  exact this.1
theorem RowIn.other {x : Nat → Prop} {n0 : Nat} {e : TypeId} {v : Value} {cs : List Value} {w : World} (h : RowIn x n0 e v cs w) {g : Nat} (hg : v.ownBlock ≠ some g) (i : Nat) (u : Value) : RowIn x n0 e v cs (w.setCell ⟨g, i, none⟩ u) :=
  h.same fun k hk => Below.heap_setCell w ⟨g, i, none⟩ u k (fun e => hg (by rw [hk]; exact congrArg some e))
/-- Rows of unlike types are not one. -/
theorem rows_apart {x y : Nat → Prop} {n0 n1 : Nat} {e e' : TypeId} {v v' : Value} {cs cs' : List Value} {w : World} (h : RowIn x n0 e v cs w) (h' : RowIn y n1 e' v' cs' w) (he : e ≠ e') {g : Nat} (hg : v'.ownBlock = some g) : v.ownBlock ≠ some g := fun e0 => by
  rcases h.own.2 with ⟨rfl, _⟩ | ⟨a, cap, cur, rfl, _, h4, _⟩
  · cases e0
  · rcases h'.own.2 with ⟨rfl, _⟩ | ⟨b, cap', cur', rfl, _, h4', _⟩
    · cases hg
    · cases e0
      cases hg
      rw [h4] at h4'
      injection h4' with h4'
      injection h4' with _ h4'
      exact he h4'
theorem rowMono {w : World} {n0 n1 : Nat} {e : TypeId} {v : Value} {n : Nat} {cs : List Value} (h : w.ownsRow n1 e 1 v n cs) (hb : n0 ≤ n1) : w.ownsRow n0 e 1 v n cs := by
  refine ⟨h.1, ?_⟩
  rcases h.2 with h2 | ⟨g, cap, cur, rfl, h3, h4⟩
  · exact .inl h2
  · exact .inr ⟨g, cap, cur, rfl, Nat.le_trans hb h3, h4⟩
/-- A row that Read told, or that was made: it is the law's own from then on. -/
theorem HX.take {x : Nat → Prop} {A B : Nat} {L : List Bl} {n0 : Nat} {e : TypeId} {v : Value} {n : Nat} {cs : List Value} {w w' : World} (h : HX x A B L n0 w) (hb : Below w.heap.size w w') (hr : w'.ownsRow w.heap.size e 1 v n cs) (hn : n = cs.length) :
    HX (fun k => x k ∨ v.ownBlock = some k) A B L n0 w' ∧ RowIn (fun k => x k ∨ v.ownBlock = some k) n0 e v cs w' := by
  subst hn
  refine ⟨h.turn (fun k hk _ => hb.block k hk) (hb.mono h.low) fun k hk => ?_, rowMono hr h.low, fun k hk => .inr hk⟩
  rcases hk with hk | hk
  · exact ⟨h.xlow k hk, Nat.lt_of_lt_of_le (h.xlt k hk) hb.size, .inl hk⟩
  · have := hr.lt k hk
    exact ⟨Nat.le_trans h.low this.1, this.2, .inr (.inl this.1)⟩
/-- An append to a row of numbers. -/
theorem apd_int {x : Nat → Prop} {A B : Nat} {L : List Bl} {n0 : Nat} {v : Value} {l : List Nat} {w : World} (h : HX x A B L n0 w) (hr : RowIn x n0 3 v (l.map encI) w) (hl : l.length ≤ 900000) (k : Nat) :
    ∃ v' w', (Builtin.append_ #[54, 54] 54 #[v, .slice (some ⟨w.heap.size, 0, none⟩) 1 1]).run Tryd.prog (w.alloc (.cells #[encI k] 3)) = .ok v' w' ∧ HX (fun j => x j ∨ v'.ownBlock = some j) A B L n0 w' ∧ RowIn (fun j => x j ∨ v'.ownBlock = some j) n0 3 v' ((l ++ [k]).map encI) w' ∧ Below n0 w w' ∧ (∀ j, j < w.heap.size → v.ownBlock ≠ some j → w'.heap[j]? = w.heap[j]?) ∧ (∀ g, v'.ownBlock = some g → Foreign w' g) := by
  have hown : OwnE encI 3 n0 v l w := by unfold OwnE; have := hr.own; rwa [List.length_map] at this
  have hown2 : OwnE encI 3 n0 v l (w.alloc (.cells #[encI k] 3)) := ownE_alloc hown _
  have hlow : n0 ≤ (w.alloc (.cells #[encI k] 3)).heap.size := by rw [World.size_alloc]; exact Nat.le_succ_of_le h.low
  obtain ⟨v', w', hrun, ho, ha, _⟩ := run_apd (P := Tryd.prog) encI encI_one (w.alloc (.cells #[encI k] 3)) n0 54 54 3 (.int .i64 0) 8 Tryd.underlying54 infoInt rfl v l hown2 ⟨w.heap.size, 0, none⟩ 1 1 [k] rfl (fun j u hj => cells_new w [encI k] 3 j u hj) (by omega) (by omega) hlow
  have hb : Below n0 w w' := ((Below.refl n0 w).alloc h.low _).trans ha.below
  have hsm : ∀ j, j < w.heap.size → v.ownBlock ≠ some j → w'.heap[j]? = w.heap[j]? := fun j hj hne => by
    have e1 := Below.heap_alloc w (.cells #[encI k] 3) j hj
    obtain ⟨o, ho⟩ : ∃ o, w.heap[j]? = some o := ⟨w.heap[j], Array.getElem?_eq_getElem hj⟩
    rw [ho]
    exact ha.other j o (fun e => hne e.symm) (e1.trans ho)
  have ho' : w'.ownsRow n0 3 1 v' ((l ++ [k]).map encI).length ((l ++ [k]).map encI) := by rw [List.length_map]; exact ho
  have hfor : ∀ g, v'.ownBlock = some g → Foreign w' g := fun g hg => by
    rcases ho'.2 with ⟨rfl, _⟩ | ⟨g', cap, cur, rfl, _, h4, _⟩
    · cases hg
    · cases hg
      exact ⟨_, _, _, h4, by decide, by decide, by decide, by decide, by decide⟩
  refine ⟨v', w', hrun, h.turn (fun j hj hne => hsm j hj (fun e => hne (hr.isIn j e))) hb fun j hj => ?_, ⟨ho', fun j hj => .inr hj⟩, hb, hsm, hfor⟩
  rcases hj with hj | hj
  · exact ⟨h.xlow j hj, Nat.lt_of_lt_of_le (h.xlt j hj) hb.size, .inl hj⟩
  · have hlt := ho.lt j hj
    exact ⟨hlt.1, hlt.2, .inr (.inr (hfor j hj))⟩
theorem wpList_apdI {w : World} {ops : Array Oper} {rest : List Oper} {o : Oper} {a : Act} {Q : Exit → Act → World → Prop} (hg : o.guard = none) (s z : Operand)
    (hop : o.op = Op.call { callee := Callee.builtin Builtin.append, args := #[s, z], argTypes := #[54, 54] }) (hty : o.type = 54) {x : Nat → Prop} {A B : Nat} {L : List Bl} {n0 : Nat} {v : Value} {l : List Nat} (w0 : World) (hs : a.eval s = v)
    (h : HX x A B L n0 w0) (hr : RowIn x n0 3 v (l.map encI) w0) (hl : l.length ≤ 900000) (k : Nat) (u : Value) (hw : w = w0.alloc (.cells #[u] 3)) (hu : u = encI k) (hz : a.eval z = .slice (some ⟨w0.heap.size, 0, none⟩) 1 1)
    (hK : ∀ v' w', HX (fun j => x j ∨ v'.ownBlock = some j) A B L n0 w' → RowIn (fun j => x j ∨ v'.ownBlock = some j) n0 3 v' ((l ++ [k]).map encI) w' → Below n0 w0 w' → (∀ j, j < w0.heap.size → v.ownBlock ≠ some j → w'.heap[j]? = w0.heap[j]?) → (∀ g, v'.ownBlock = some g → Foreign w' g) → wpList Tryd.prog ops Q rest (a.put o.dst v') w') :
    wpList Tryd.prog ops Q (o :: rest) a w := by
  subst hw hu
  refine wpList_plain hg fun K hK' => ?_
  obtain ⟨v', w', hrun, r1, r2, r3, r4, r5⟩ := apd_int h hr hl k
  unfold Oper.wp
  simp [execOp, hop, hty, resolve, invoke, builtin, hs, hz, hrun, Result.andThen]
  exact hK' _ _ (hK v' w' r1 r2 r3 r4 r5)
end Go.Proofs.YtdbaocphglijbaaDoor

/- ArenaReuse: what its calls do. -/
set_option maxRecDepth 100000
namespace Go.Proofs.YtdbaocphglijbaaDoor
open Go.RowKit Go.Shelf
attribute [local go_sem] Oper.semAt_some
/-- The handles from 1 on, one behind the other. -/
structure Cs (m q : Nat) (L : List Bl) : Prop where
  len : L.length = m
  at_ : ∀ i (h : i < L.length), L[i].1 = i + 1
  sz : ∀ b ∈ L, b.2.length ≤ q
theorem Cs.nil (q : Nat) : Cs 0 q [] := ⟨rfl, (fun i h => by cases h), (fun b h => by cases h)⟩
theorem Cs.add {m q : Nat} {L : List Bl} (h : Cs m q L) {d : List UInt8} (hd : d.length ≤ q) : Cs (m + 1) q (L ++ [(m + 1, d)]) := by
  refine ⟨by simp [h.len], fun i hi => ?_, fun b hb => ?_⟩
  · by_cases e : i < L.length
    · rw [List.getElem_append_left e]; exact h.at_ i e
    · have : i = L.length := by simp at hi; omega
      subst this
      rw [List.getElem_append_right (Nat.le_refl _)]
      simp [h.len]
  · rcases List.mem_append.1 hb with hb | hb
    · exact h.sz b hb
    · rw [List.mem_singleton] at hb
      subst hb
      exact hd
theorem Cs.cut {m q : Nat} {L1 L2 : List Bl} (h : Cs m q (L1 ++ L2)) (hl : Least L1 L2) : L2 = [] ∧ L1.length = m := by
  have h2 : L2 = [] := by
    cases L2 with
    | nil => rfl
    | cons b r =>
      have h1 := h.at_ L1.length (by simp)
      have h2 := hl.2 b (by simp)
      simp at h1
      omega
  subst h2
  have := h.len
  simp at this
  exact ⟨rfl, this⟩
theorem Cs.le {m q : Nat} {L : List Bl} (h : Cs m q L) : ∀ b ∈ L, b.1 ≤ m := fun b hb => by
  obtain ⟨i, hi, rfl⟩ := List.mem_iff_getElem.1 hb
  have := h.at_ i hi
  have := h.len
  omega
theorem Cs.sum {q c : Nat} (hc : ∀ k, k ≤ q → Ar.cost k ≤ c) : ∀ {L : List Bl}, (∀ b ∈ L, b.2.length ≤ q) → sumC L ≤ c * L.length
  | [], _ => by simp [sumC]
  | b :: L, h => by
    rw [sumC_cons, List.length_cons]
    have h1 := hc _ (h b (by simp))
    have h2 := Cs.sum hc (fun x hx => h x (List.mem_cons_of_mem _ hx)) (L := L)
    rw [Nat.mul_succ]
    omega
theorem cost_248 : ∀ k, k ≤ 248 → Ar.cost k ≤ 256 := fun k hk => by unfold Ar.cost; (repeat' split) <;> omega
theorem ru_alloc (x : Nat → Prop) (A m n : Nat) (L : List Bl) (n0 : Nat) (w : World) (h : HX x A 4096 L n0 w) (hc : Cs m 248 L) (hm : m ≤ 12) (hn : n ≤ 248) (hm2 : m < 12) :
    Calls Tryd.prog 17 #[.pointer (some ⟨A, 0, none⟩), .int .i64 (n : Int)] w fun e w' => e = .returned (.tuple #[.int .i64 ((m : Int) + 1), .int .i64 0]) ∧ LX x A 4096 (L ++ [(m + 1, Ar.zeros n)]) n0 w w' := by
  have hs := Cs.sum cost_248 hc.sz
  have hcn := cost_248 n hn
  have hlen := hc.len
  refine (alloc_ok x A 4096 L n0 _ n w rfl h (by omega) (by omega)).mono fun e w' ⟨L1, L2, e1, hl, he, hL⟩ => ?_
  subst e1
  obtain ⟨rfl, e2⟩ := hc.cut hl
  rw [List.append_nil]
  rw [e2] at he hL
  exact ⟨by rw [he]; norm_cast, hL⟩
theorem ru_free (x : Nat → Prop) (A B : Nat) (L : List Bl) (n0 : Nat) (z : Int) (w : World) (h : HX x A B L n0 w) :
    Calls Tryd.prog 19 #[.pointer (some ⟨A, 0, none⟩), .int .i64 z] w fun e w' => ∃ (r : Int) (L' : List Bl), e = .returned (.int .i64 r) ∧ LX x A B L' n0 w w' ∧ ∀ b ∈ L', b ∈ L ∧ (b.1 : Int) ≠ z := by
  refine (free_x x A B L n0 z w h).mono fun e w' hk => ?_
  rcases hk with ⟨k1, he, hL⟩ | ⟨L1, b, L2, rfl, e2, he, hL⟩
  · exact ⟨5, L, he, hL, fun b hb => ⟨hb, k1 b hb⟩⟩
  · refine ⟨0, L1 ++ L2, he, hL, fun c hc => ⟨by rcases List.mem_append.1 hc with hc | hc <;> simp [hc], fun e => ?_⟩⟩
    have hs := h.each.1
    rw [List.pairwise_append, List.pairwise_cons] at hs
    rcases List.mem_append.1 hc with hc | hc
    · have := hs.2.2 c hc b (by simp); omega
    · have := hs.2.1.1 c hc; omega
theorem rdB_row {x : Nat → Prop} {n0 : Nat} {v : Value} {l : List UInt8} {w : World} (h : RowIn x n0 5 v (l.map encB) w) : RdB v l w := by
  have := h.own
  rw [List.length_map] at this
  exact RdB.own this
/-- A slice of so many bytes 0 that was just made. -/
def MkZ (n : Nat) (v : Value) (W : World) : Prop := ∃ B, v = .slice (some ⟨B, 0, none⟩) n n ∧ RdB (.slice (some ⟨B, 0, none⟩) n n) (Ar.zeros n) W
theorem MkZ.below {n : Nat} {v : Value} {x y : World} (h : MkZ n v x) (hb : slotLe x y) : MkZ n v y := by
  obtain ⟨B, e, hr⟩ := h
  exact ⟨B, e, hr.below hb⟩
theorem MkZ.new (n : Nat) (W : World) : MkZ n (.slice (some ⟨W.heap.size, 0, none⟩) n n) (W.alloc (.cells (Array.replicate n (.int .u8 0)) 5)) :=
  ⟨W.heap.size, rfl, rdB_block (l := Ar.zeros n) (by have := Blk.new W ((Ar.zeros n).map encB) 5; unfold Ar.zeros at this ⊢; rw [List.map_replicate, List.toArray_replicate] at this; rw [List.map_replicate]; exact this) (zeros_len n).symm⟩
theorem zz_step {k n : Nat} {u : UInt8} (h : k < n) : ((List.replicate k u ++ List.replicate (n - k) 0).map encB).set k (encB u) = (List.replicate (k + 1) u ++ List.replicate (n - (k + 1)) 0).map encB := by
  rw [← List.map_set]
  congr 1
  rw [List.set_append_right _ _ (by simp)]
  obtain ⟨m, hm⟩ : ∃ m, n - k = m + 1 := ⟨n - k - 1, by omega⟩
  rw [hm, show n - (k + 1) = m by omega, List.replicate_succ (n := m)]
  simp [List.replicate_succ']
theorem zz_at {k n : Nat} {u : UInt8} (h : k < n) : ((List.replicate k u ++ List.replicate (n - k) 0).map encB)[k]? = some (.int .u8 0) := by
  rw [List.getElem?_map, List.getElem?_append_right (by simp), List.getElem?_replicate, if_pos (by simp; omega)]
  rfl
theorem rg_at {k m : Nat} (h : k < m) : ((List.range' 1 m).map encI)[k]? = some (.int .i64 ((k : Int) + 1)) := by
  rw [List.getElem?_map, List.getElem?_range' (by omega)]
  show some (encI _) = _
  unfold encI
  congr 2
  omega
theorem rg_len (m : Nat) : ((List.range' 1 m).map encI).length = m := by simp
theorem rg_add (m : Nat) : List.range' 1 m ++ [m + 1] = List.range' 1 (m + 1) := by rw [List.range'_1_concat, Nat.add_comm 1 m]
theorem ru_new (w : World) (hT : TabOk w) : Calls Tryd.prog 15 #[.int .i64 4096] w fun e w' => ∃ A, e = .returned (.tuple #[.pointer (some ⟨A, 0, none⟩), .int .i64 0]) ∧ HX (fun _ => False) A 4096 [] w.heap.size w' ∧ Below w.heap.size w w' :=
  new_x 4096 w (by decide) (by decide) hT
theorem ru_read (x : Nat → Prop) (A m n : Nat) (L : List Bl) (n0 : Nat) (z : Int) (w : World) (hz : z = (m : Int) + 1) (h : HX x A 4096 (L ++ [(m + 1, Ar.zeros n)]) n0 w) :
    Calls Tryd.prog 21 #[.pointer (some ⟨A, 0, none⟩), .int .i64 z, .int .i64 0, .int .i64 (n : Int)] w fun e w' => ∃ (v : Value) (y : Nat → Prop), e = .returned (.tuple #[v, .int .i64 0]) ∧ HX y A 4096 (L ++ [(m + 1, Ar.zeros n)]) n0 w' ∧ RowIn y n0 5 v ((Ar.zeros n).map encB) w' ∧ (∀ k, x k → y k) ∧ Below w.heap.size w w' := by
  refine (read_ok x A 4096 _ (m + 1, Ar.zeros n) n0 z 0 (n : Int) 0 n w (by rw [hz]; norm_cast) rfl rfl (by simp) h (by rw [zeros_len]; omega)).mono fun e w' ⟨v, he, hr, hL, hb⟩ => ?_
  have e1 : ((Ar.zeros n).drop 0).take n = Ar.zeros n := by rw [List.drop_zero, List.take_of_length_le (by rw [zeros_len]; omega)]
  rw [e1] at hr
  obtain ⟨h1, h2⟩ := h.take hb hr (by rw [List.length_map, zeros_len])
  exact ⟨v, _, he, h1, h2, fun k hk => .inl hk, hb⟩
theorem put_all (d l : List UInt8) (h : l.length = d.length) : Ar.put d 0 l = l := by
  unfold Ar.put
  rw [Nat.zero_add, h, List.drop_length]
  simp
theorem ru_write (x : Nat → Prop) (A m n : Nat) (L : List Bl) (n0 : Nat) (z : Int) (v : Value) (l : List UInt8) (w : World) (hz : z = (m : Int) + 1) (h : HX x A 4096 (L ++ [(m + 1, Ar.zeros n)]) n0 w) (hv : RowIn x n0 5 v (l.map encB) w) (hl : l.length = n) :
    Calls Tryd.prog 23 #[.pointer (some ⟨A, 0, none⟩), .int .i64 z, .int .i64 0, v] w fun e w' => e = .returned (.int .i64 0) ∧ LX x A 4096 (L ++ [(m + 1, l)]) n0 w w' := by
  refine (write_ok x A 4096 L [] (m + 1, Ar.zeros n) n0 z 0 0 v l w (by rw [hz]; norm_cast) rfl h (rdB_row hv) (by rw [zeros_len]; omega)).mono fun e w' ⟨he, hL⟩ => ⟨he, ?_⟩
  rw [put_all _ _ (by rw [zeros_len, hl])] at hL
  exact hL
end Go.Proofs.YtdbaocphglijbaaDoor

/- ArenaMoves: what its calls do. -/
set_option maxRecDepth 100000
namespace Go.Proofs.YtdbaocphglijbaaDoor
open Go.RowKit Go.Shelf
attribute [local go_sem] Oper.semAt_some
theorem apd_int_loc {n0 : Nat} {v v' : Value} {l : List Nat} {w w' : World} (hr : w.ownsRow n0 3 1 v l.length (l.map encI)) (hl : l.length ≤ 900000) (hlow : n0 ≤ w.heap.size) (k : Nat)
    (hrun : (Builtin.append_ #[54, 54] 54 #[v, .slice (some ⟨w.heap.size, 0, none⟩) 1 1]).run Tryd.prog (w.alloc (.cells #[encI k] 3)) = .ok v' w') : v'.ownBlock = v.ownBlock ∨ v'.ownBlock = some (w.heap.size + 1) := by
  obtain ⟨i, hi, hz0, hz1, hz2⟩ := info_parts infoInt
  have hown := World.ownsRow.alloc hr (.cells #[encI k] 3)
  have hs : (w.alloc (.cells #[encI k] 3)).heap.size = w.heap.size + 1 := World.size_alloc _ _
  obtain ⟨v2, w2, hr2, _, _, _, hloc⟩ := run_append_own_at (P := Tryd.prog) (w.alloc (.cells #[encI k] 3)) n0 54 54 3 i (.int .i64 0) 1 8 Tryd.underlying54 hi hz0 hz1 hz2 rfl (by omega) v l.length (l.map encI) hown ⟨w.heap.size, 0, none⟩ 1 1 [encI k] rfl (fun j u hj => cells_new w [encI k] 3 j u hj) (fun u hu => by rw [List.mem_singleton] at hu; subst hu; rfl) (by unfold maxLen; omega) (by omega) (by rw [hs]; omega)
  rw [hrun] at hr2
  obtain ⟨rfl, rfl⟩ : v' = v2 ∧ w' = w2 := ⟨(Result.ok.inj hr2).1, (Result.ok.inj hr2).2⟩
  rw [hs] at hloc
  exact hloc
theorem wpList_apdI2 {w : World} {ops : Array Oper} {rest : List Oper} {o : Oper} {a : Act} {Q : Exit → Act → World → Prop} (hg : o.guard = none) (s z : Operand)
    (hop : o.op = Op.call { callee := Callee.builtin Builtin.append, args := #[s, z], argTypes := #[54, 54] }) (hty : o.type = 54) {x : Nat → Prop} {A B : Nat} {L : List Bl} {n0 : Nat} {v : Value} {l : List Nat} (w0 : World) (hs : a.eval s = v)
    (h : HX x A B L n0 w0) (hr : RowIn x n0 3 v (l.map encI) w0) (hl : l.length ≤ 900000) (k : Nat) (u : Value) (hw : w = w0.alloc (.cells #[u] 3)) (hu : u = encI k) (hz : a.eval z = .slice (some ⟨w0.heap.size, 0, none⟩) 1 1)
    (hK : ∀ v' w', HX (fun j => x j ∨ v'.ownBlock = some j) A B L n0 w' → RowIn (fun j => x j ∨ v'.ownBlock = some j) n0 3 v' ((l ++ [k]).map encI) w' → Below n0 w0 w' → (∀ j, j < w0.heap.size → v.ownBlock ≠ some j → w'.heap[j]? = w0.heap[j]?) → (v'.ownBlock = v.ownBlock ∨ v'.ownBlock = some (w0.heap.size + 1)) → wpList Tryd.prog ops Q rest (a.put o.dst v') w') :
    wpList Tryd.prog ops Q (o :: rest) a w := by
  subst hw hu
  refine wpList_plain hg fun K hK' => ?_
  obtain ⟨v', w', hrun, r1, r2, r3, r4, _⟩ := apd_int h hr hl k
  have hloc := apd_int_loc (by have := hr.own; rwa [List.length_map] at this) hl h.low k hrun
  unfold Oper.wp
  simp [execOp, hop, hty, resolve, invoke, builtin, hs, hz, hrun, Result.andThen]
  exact hK' _ _ (hK v' w' r1 r2 r3 r4 hloc)
def chr (s : Nat) : UInt8 := UInt8.ofNat (97 + s)
theorem chr_nat {s : Nat} (h : s ≤ 60) : (chr s).toNat = 97 + s := by unfold chr; rw [UInt8.toNat_ofNat']; omega
theorem encB_chr {s : Nat} (h : s ≤ 60) : encB (chr s) = .int .u8 (97 + (s : Int)) := by unfold encB; rw [chr_nat h]; norm_cast
/-- The blocks of these sizes, from a handle on. -/
def mvL : Nat → List Nat → List Bl
  | _, [] => []
  | s, n :: N => (s + 1, List.replicate n (chr s)) :: mvL (s + 1) N
theorem mvL_add : ∀ (N : List Nat) (s n : Nat), mvL s (N ++ [n]) = mvL s N ++ [(s + N.length + 1, List.replicate n (chr (s + N.length)))]
  | [], s, n => by simp [mvL]
  | m :: N, s, n => by
    simp only [List.cons_append, mvL, List.length_cons]
    rw [mvL_add N (s + 1) n]
    rw [show s + 1 + N.length = s + (N.length + 1) by omega]
theorem mvL_len : ∀ (N : List Nat) (s : Nat), (mvL s N).length = N.length
  | [], _ => rfl
  | _ :: N, s => by simp [mvL, mvL_len N]
theorem mvL_at : ∀ (N : List Nat) (s i : Nat) (h : i < N.length), (mvL s N)[i]? = some (s + i + 1, List.replicate N[i] (chr (s + i)))
  | n :: N, s, 0, _ => by simp [mvL]
  | n :: N, s, i + 1, h => by
    simp only [mvL, List.getElem?_cons_succ, List.getElem_cons_succ]
    rw [mvL_at N (s + 1) i (by simpa using h)]
    rw [show s + 1 + i = s + (i + 1) by omega]
theorem mvL_cs {N : List Nat} (h : ∀ n ∈ N, n ≤ 119) : Cs N.length 119 (mvL 0 N) := by
  refine ⟨mvL_len N 0, fun i hi => ?_, fun b hb => ?_⟩
  · have hi' : i < N.length := by rwa [mvL_len] at hi
    have := mvL_at N 0 i hi'
    rw [List.getElem?_eq_getElem hi] at this
    rw [Option.some.inj this]
    simp
  · obtain ⟨i, hi, rfl⟩ := List.mem_iff_getElem.1 hb
    have hi' : i < N.length := by rwa [mvL_len] at hi
    have e := mvL_at N 0 i hi'
    rw [List.getElem?_eq_getElem hi] at e
    rw [Option.some.inj e]
    simp only [List.length_replicate]
    exact h _ (List.getElem_mem _)
/-- An Alloc of what is small: there is room, or there is none. -/
theorem mv_alloc (x : Nat → Prop) (A n : Nat) (N : List Nat) (n0 : Nat) (w : World) (h : HX x A 2048 (mvL 0 N) n0 w) (hN : ∀ n ∈ N, n ≤ 119) (hn : n ≤ 119) :
    Calls Tryd.prog 17 #[.pointer (some ⟨A, 0, none⟩), .int .i64 (n : Int)] w fun e w' => (e = .returned (.tuple #[.int .i64 0, .int .i64 4]) ∧ w = w') ∨ (e = .returned (.tuple #[.int .i64 ((N.length : Int) + 1), .int .i64 0]) ∧ LX x A 2048 (mvL 0 N ++ [(N.length + 1, Ar.zeros n)]) n0 w w') := by
  by_cases hc : sumC (mvL 0 N) + Ar.cost n ≤ 2048
  · refine (alloc_ok x A 2048 _ n0 _ n w rfl h (by omega) hc).mono fun e w' ⟨L1, L2, e1, hl, he, hL⟩ => .inr ?_
    obtain ⟨rfl, e2⟩ := (e1 ▸ mvL_cs hN : Cs N.length 119 (L1 ++ L2)).cut hl
    rw [List.append_nil] at e1
    subst e1
    rw [e2] at he hL
    exact ⟨by rw [he]; norm_cast, hL⟩
  · exact (alloc_no x A 2048 _ n0 _ n w rfl h (by omega) (by omega)).mono fun e w' hk => .inl hk
theorem mv_write (x : Nat → Prop) (A n : Nat) (N : List Nat) (n0 : Nat) (z : Int) (v : Value) (l : List UInt8) (w : World) (hz : z = (N.length : Int) + 1) (h : HX x A 2048 (mvL 0 N ++ [(N.length + 1, Ar.zeros n)]) n0 w) (hv : RowIn x n0 5 v (l.map encB) w) (hl : l = List.replicate n (chr N.length)) :
    Calls Tryd.prog 23 #[.pointer (some ⟨A, 0, none⟩), .int .i64 z, .int .i64 0, v] w fun e w' => e = .returned (.int .i64 0) ∧ LX x A 2048 (mvL 0 (N ++ [n])) n0 w w' := by
  have hlen : l.length = n := by rw [hl, List.length_replicate]
  refine (write_ok x A 2048 (mvL 0 N) [] (N.length + 1, Ar.zeros n) n0 z 0 0 v l w (by rw [hz]; norm_cast) rfl h (rdB_row hv) (by rw [zeros_len]; omega)).mono fun e w' ⟨he, hL⟩ => ⟨he, ?_⟩
  rw [put_all _ _ (by rw [zeros_len, hlen])] at hL
  rw [mvL_add, Nat.zero_add, ← hl]
  exact hL
/-- What is left of the blocks: those that were not given back. -/
def Stays (gone : List Bool) (k : Nat) (j : Nat) : Prop := ¬ (j < k ∧ gone[j]? = some true)
structure Rest (N : List Nat) (gone : List Bool) (k : Nat) (L : List Bl) : Prop where
  mem : ∀ b, b ∈ L ↔ ∃ j, j < N.length ∧ Stays gone k j ∧ (mvL 0 N)[j]? = some b
theorem Rest.start (N : List Nat) (gone : List Bool) : Rest N gone 0 (mvL 0 N) := by
  refine ⟨fun b => ?_⟩
  constructor
  · intro hb
    obtain ⟨j, hj, rfl⟩ := List.mem_iff_getElem.1 hb
    exact ⟨j, by rwa [mvL_len] at hj, fun h => by have := h.1; omega, List.getElem?_eq_getElem hj⟩
  · rintro ⟨j, _, _, h⟩
    exact List.mem_of_getElem? h
theorem Rest.skip {N : List Nat} {gone : List Bool} {k : Nat} {L : List Bl} (h : Rest N gone k L) (hk : gone[k]? ≠ some true) : Rest N gone (k + 1) L := by
  refine ⟨fun b => (h.mem b).trans ⟨?_, ?_⟩⟩
  · rintro ⟨j, h1, h2, h3⟩
    refine ⟨j, h1, fun e => ?_, h3⟩
    by_cases e2 : j = k
    · subst e2; exact hk e.2
    · exact h2 ⟨by have := e.1; omega, e.2⟩
  · rintro ⟨j, h1, h2, h3⟩
    exact ⟨j, h1, fun e => h2 ⟨by have := e.1; omega, e.2⟩, h3⟩
theorem mvL_fst {N : List Nat} {j : Nat} {b : Bl} (h : (mvL 0 N)[j]? = some b) : b.1 = j + 1 ∧ j < N.length := by
  have hj : j < N.length := by rw [← mvL_len N 0]; exact (List.getElem?_eq_some_iff.1 h).1
  rw [mvL_at N 0 j hj] at h
  cases h
  exact ⟨by simp, hj⟩
theorem Rest.free {N : List Nat} {gone : List Bool} {k : Nat} {L1 L2 : List Bl} {b : Bl} (h : Rest N gone k (L1 ++ b :: L2)) (hs : (L1 ++ b :: L2).Pairwise (fun x y => x.1 < y.1)) (hk : gone[k]? = some true) (hb : b.1 = k + 1) : Rest N gone (k + 1) (L1 ++ L2) := by
  have hne : ∀ c ∈ L1 ++ L2, c.1 ≠ b.1 := fun c hc e => by
    rw [List.pairwise_append, List.pairwise_cons] at hs
    rcases List.mem_append.1 hc with hc | hc
    · have := hs.2.2 c hc b (by simp); omega
    · have := hs.2.1.1 c hc; omega
  refine ⟨fun c => ⟨fun hc => ?_, ?_⟩⟩
  · obtain ⟨j, h1, h2, h3⟩ := (h.mem c).1 (by rcases List.mem_append.1 hc with hc | hc <;> simp [hc])
    refine ⟨j, h1, fun e => h2 ⟨?_, e.2⟩, h3⟩
    have := (mvL_fst h3).1
    have := hne c hc
    have := e.1
    omega
  · rintro ⟨j, h1, h2, h3⟩
    have hc := (h.mem c).2 ⟨j, h1, fun e => h2 ⟨by have := e.1; omega, e.2⟩, h3⟩
    have hjk : j ≠ k := fun e => h2 ⟨by omega, by rw [e]; exact hk⟩
    have := (mvL_fst h3).1
    rcases List.mem_append.1 hc with hc | hc
    · simp [hc]
    · rcases List.mem_cons.1 hc with rfl | hc
      · omega
      · simp [hc]
theorem mv_free (x : Nat → Prop) (A : Nat) (N : List Nat) (gone : List Bool) (k : Nat) (L : List Bl) (n0 : Nat) (z : Int) (w : World) (hz : z = (k : Int) + 1) (h : HX x A 2048 L n0 w) (hr : Rest N gone k L) (hk : k < N.length) (hg : gone[k]? = some true) :
    Calls Tryd.prog 19 #[.pointer (some ⟨A, 0, none⟩), .int .i64 z] w fun e w' => e = .returned (.int .i64 0) ∧ ∃ L', LX x A 2048 L' n0 w w' ∧ Rest N gone (k + 1) L' := by
  obtain ⟨b, hb⟩ : ∃ b, (mvL 0 N)[k]? = some b := ⟨_, mvL_at N 0 k hk⟩
  have hmem := (hr.mem b).2 ⟨k, hk, fun e => by have := e.1; omega, hb⟩
  have hb1 := (mvL_fst hb).1
  obtain ⟨L1, L2, rfl⟩ := List.append_of_mem hmem
  refine (free_ok x A 2048 L1 L2 b n0 z w (by rw [hz, hb1]; norm_cast) h).mono fun e w' ⟨he, hL⟩ => ⟨he, L1 ++ L2, hL, hr.free h.each.1 hg hb1⟩
theorem mv_new (w : World) (hT : TabOk w) : Calls Tryd.prog 15 #[.int .i64 2048] w fun e w' => ∃ A, e = .returned (.tuple #[.pointer (some ⟨A, 0, none⟩), .int .i64 0]) ∧ HX (fun _ => False) A 2048 [] w.heap.size w' ∧ Below w.heap.size w w' :=
  new_x 2048 w (by decide) (by decide) hT
end Go.Proofs.YtdbaocphglijbaaDoor

/- ArenaEdges: the walk. -/
set_option maxRecDepth 100000
namespace Go.Proofs.YtdbaocphglijbaaDoor
open Go.RowKit Go.Shelf
attribute [local go_sem] Oper.semAt_some
theorem wanted_undef {ops : Array Oper} {o : Oper} {a : Act} {g d : Nat} {b : Bool} (h : o.guard = some (g, b)) (hd : dstAt ops g = some d) (he : a.tmps[d]?.getD undef = undef) : Region.wanted o (yielded ops a.tmps) = false := by
  unfold Region.wanted
  rw [h]
  simp only
  unfold dstAt at hd
  unfold yielded
  rw [hd]
  simp only [Option.bind_some]
  cases hx : a.tmps[d]? with
  | none => rfl
  | some v =>
    rw [hx] at he
    have hv : v = undef := he
    subst hv
    rfl
/-- A slice of twenty bytes 0 that was just made. -/
def EdMk (v : Value) (W : World) : Prop := ∃ B, v = .slice (some ⟨B, 0, none⟩) 20 20 ∧ RdB (.slice (some ⟨B, 0, none⟩) 20 20) (Ar.zeros 20) W
theorem EdMk.below {v : Value} {x y : World} (h : EdMk v x) (hb : slotLe x y) : EdMk v y := by
  obtain ⟨B, e, hr⟩ := h
  exact ⟨B, e, hr.below hb⟩
theorem EdMk.new (W : World) : EdMk (.slice (some ⟨W.heap.size, 0, none⟩) 20 20) (W.alloc (.cells (List.replicate 20 (.int .u8 0)).toArray 5)) :=
  ⟨W.heap.size, rfl, rdB_block (l := Ar.zeros 20) (Blk.new W _ _) (zeros_len 20).symm⟩
theorem eqz20 : ((⟨(Ar.zeros 20).toArray⟩ : ByteArray) == ⟨(Ar.zeros 20).toArray⟩) = true := by decide +kernel
theorem ed_step {k size : Nat} (h : k < size) : ((List.replicate k (120 : UInt8) ++ List.replicate (size - k) 0).map encB).set k (.int .u8 120) = (List.replicate (k + 1) (120 : UInt8) ++ List.replicate (size - (k + 1)) 0).map encB := by
  rw [show (.int .u8 120 : Value) = encB 120 from rfl, ← List.map_set]
  congr 1
  rw [List.set_append_right _ _ (by simp)]
  obtain ⟨m, hm⟩ : ∃ m, size - k = m + 1 := ⟨size - k - 1, by omega⟩
  rw [hm, show size - (k + 1) = m by omega, List.replicate_succ (n := m)]
  simp [List.replicate_succ']
theorem rdB_at {ao : Option Addr} {n c : Nat} {l : List UInt8} {W : World} (h : RdB (.slice ao n c) l W) {k : Nat} (hk : k < l.length) : ∃ b off, ao = some ⟨b, off, none⟩ ∧ W.cell? ⟨b, off + k, none⟩ = some (encB l[k]) := by
  obtain ⟨ao', cap', e, hc⟩ := h.form
  cases e
  exact hc k hk
theorem edD_at {n : Nat} (k size p : Nat) (hp : p < n) (hk : k + size ≤ n) : (edD n (k : Int) size true)[p]? = some (if k ≤ p ∧ p < k + size then 120 else 0) := by
  unfold edD Ar.put
  rw [Int.toNat_natCast, xs_len]
  have h1 : ((Ar.zeros n).take k).length = k := by simp [Ar.zeros]; omega
  by_cases g1 : k ≤ p
  · by_cases g2 : p < k + size
    · rw [if_pos ⟨g1, g2⟩, List.append_assoc, List.getElem?_append_right (by omega), List.getElem?_append_left (by rw [xs_len]; omega), h1]
      unfold xsB
      rw [List.getElem?_replicate, if_pos (by omega)]
    · rw [if_neg (fun e => g2 e.2), List.getElem?_append_right (by rw [List.length_append, h1, xs_len]; omega), List.length_append, h1, xs_len, List.getElem?_drop]
      unfold Ar.zeros
      rw [List.getElem?_replicate, if_pos (by omega)]
  · rw [if_neg (fun e => g1 e.1), List.append_assoc, List.getElem?_append_left (by omega), List.getElem?_take_of_lt (by omega)]
    unfold Ar.zeros
    rw [List.getElem?_replicate, if_pos hp]
theorem ed_start {A n : Nat} {w0 w : World} (size : Nat) (h : HX (fun _ => False) A 2048 [(1, Ar.zeros n), (2, Ar.zeros 20)] w0.heap.size w) (hb : Below w0.heap.size w0 w) : Mn A 2048 w.heap.size ((List.replicate 0 (120 : UInt8) ++ List.replicate (size - 0) 0).map encB) 5 [(1, Ar.zeros n), (2, Ar.zeros 20)] w0 (w.alloc (.cells (Array.replicate size (.int .u8 0)) 5)) := by
  have := Mn.start h hb (List.replicate size (.int .u8 0)) 5
  rw [List.toArray_replicate] at this
  rw [List.replicate_zero, List.nil_append, Nat.sub_zero, List.map_replicate]
  exact this
theorem ed_full {A I n k size : Nat} {w w' : World} (h : Mn A 2048 I ((List.replicate k (120 : UInt8) ++ List.replicate (size - k) 0).map encB) 5 [(1, Ar.zeros n), (2, Ar.zeros 20)] w w') (hk : k = size) : Mn A 2048 I ((xsB size).map encB) 5 [(1, Ar.zeros n), (2, Ar.zeros 20)] w w' := by
  subst hk
  rw [Nat.sub_self, List.replicate_zero, List.append_nil] at h
  exact h
set_option maxHeartbeats 64000000 in
theorem edges_in (n size : Nat) (a : Int) (w : World) (hT : TabOk w) (hn : n ≤ 500) (hs : size ≤ 1000) (hI1 : -9223372036854775808 ≤ a) (hI2 : a ≤ 9223372036854775807) :
    Calls Tryd.prog 7 #[.int .i64 (n : Int), .int .i64 a, .int .i64 (size : Int)] w fun e w' => e = .returned (.bool true) ∧ Below w.heap.size w w' := by
  have HT := Lib.hid hT
  clear hT
  have n1 : ¬ (n : Int) < 0 := by omega
  have n2 : ¬ (500 : Int) < n := by omega
  have n3 : ¬ (size : Int) < 0 := by omega
  have n4 : ¬ (1000 : Int) < size := by omega
  have hmk0 := fun W => make_one (e := 5) Tryd.underlying34 infoU8 (by decide) rfl (size : Int) size rfl (by omega) W
  have HMK := Lib.hid (fun W => make_one (e := 5) Tryd.underlying34 infoU8 (by decide) rfl 20 20 rfl (by decide) W)
  go_enter Tryd.func7, Tryd.ntmps7
  go_wp2_with (first
    | (go_at_call 15; with_reducible refine (ed_new _ HT.out).mono ?_; rintro e w1 ⟨A, rfl, hA1, hb1⟩; have HA1 := Lib.hid hA1; have HB1 := Lib.hid hb1; clear hA1 hb1)
    | (go_at_call 17; with_reducible refine (ed_alloc1 A n w _ HA1.out HB1.out hn).mono ?_; rintro e w2 ⟨rfl, hA2, hb2⟩; have HA2 := Lib.hid hA2; have HB2 := Lib.hid hb2; clear hA2 hb2)
    | (go_at_call 17; with_reducible refine (ed_alloc2 A n w _ HA2.out HB2.out hn).mono ?_; rintro e w3 ⟨rfl, hA3, hb3⟩; have H0 := Lib.hid (ed_start size hA3 hb3); clear hA3 hb3))
  clear hmk0
  generalize World.alloc w3 _ = W0 at H0 ⊢
  generalize w3.heap.size = I at H0 ⊢
  go_loopw [14] (fun i wr => ∃ k : Nat, i = .int .i64 (k : Int) ∧ k ≤ size ∧ Hid (Mn A 2048 I ((List.replicate k (120 : UInt8) ++ List.replicate (size - k) 0).map encB) 5 [(1, Ar.zeros n), (2, Ar.zeros 20)] w wr)) (fun i _ => size + 1 - (intOf i).toNat)
  case atStart => exact ⟨0, rfl, Nat.zero_le _, H0⟩
  case round =>
    obtain ⟨k, rfl, hk, HH⟩ := hrel
    clear H0
    by_cases hlt : k < size
    · have hcell := HH.out.blk.cell (i := k) (v := .int .u8 0) (by rw [List.getElem?_map, List.getElem?_append_right (by simp), List.getElem?_replicate, if_pos (by simp; omega)]; rfl)
      have hfr := HH.out.blk.frozen k
      go_wp2
      go_roundw
      case rel => exact ⟨k + 1, by go_num, by omega, Lib.hid (by have := HH.out.put k (.int .u8 120); rw [ed_step hlt] at this; exact this)⟩
      case measure => simp [intOf]; omega
    · have H1 := Lib.hid (ed_full HH.out (by omega))
      clear HH
      go_upto_region 15 with (fail)
      obtain ⟨fb, hfb⟩ : ∃ fb, fb = fitsB n a size := ⟨_, rfl⟩
      have HFB := Lib.hid hfb
      clear hfb
      obtain ⟨jv, hjv⟩ : ∃ jv, jv = jOf fb := ⟨_, rfl⟩
      have HJ := Lib.hid hjv
      clear hjv
      obtain ⟨ln, hln⟩ : ∃ ln, ln = (edC size fb).length := ⟨_, rfl⟩
      have HLN := Lib.hid hln
      clear hln
      go_cut [15] from 77 to 90 (fun f wx => f = .bool fb ∧ wx = wr)
      case first =>
        have hc := HFB.out
        by_cases h1 : a < 0
        · have : fitsB n a size = false := by unfold fitsB; rw [decide_eq_false_iff_not]; omega
          rw [this] at hc
          subst hc
          go_wp2
          go_meet
          case rel => exact ⟨rfl, rfl⟩
        by_cases h2 : (n : Int) < a
        · have : fitsB n a size = false := by unfold fitsB; rw [decide_eq_false_iff_not]; omega
          rw [this] at hc
          subst hc
          go_wp2
          go_meet
          case rel => exact ⟨rfl, rfl⟩
        have hd : fitsB n a size = decide ((size : Int) ≤ (n : Int) - a) := by
          unfold fitsB
          rw [decide_eq_decide]
          omega
        rw [hd] at hc
        subst hc
        go_wp2
        go_meet
        case rel => exact ⟨rfl, rfl⟩
      case rest =>
        obtain ⟨rfl, rfl⟩ := hcut
        go_wp2_with (first
          | (go_at_call 23; with_reducible refine (ed_write A I n size a w _ fb jv HJ.out HFB.out H1.out hs hI1 hI2).mono ?_; rintro e w6 ⟨rfl, h6⟩; have H6 := Lib.hid h6; clear h6)
          | (go_at_call 21; with_reducible refine (ed_read1 A I n size a w _ fb jv ln HJ.out HLN.out HFB.out H6.out hI1 hI2 hs).mono ?_; rintro e w7 ⟨ao1, c1, rfl, r1, h7⟩; have H7 := Lib.hid h7; have HR1 := Lib.hid r1; clear h7 r1)
          | (go_at_call 21; with_reducible refine (ed_read2 A I n size a w _ fb HFB.out H7.out).mono ?_; rintro e w8 ⟨ao2, c2, rfl, r2, h8, b8⟩; have H8 := Lib.hid h8; have HR2 := Lib.hid r2; replace HR1 := Lib.hid (HR1.out.below b8); clear h8 r2 b8)
          | (go_at_call 21; with_reducible refine (ed_read3 A I n size a w _ fb H8.out).mono ?_; rintro e w9 ⟨ao3, c3, rfl, r3, h9, b9⟩; have H9 := Lib.hid h9; have HR3 := Lib.hid r3; replace HR1 := Lib.hid (HR1.out.below b9); replace HR2 := Lib.hid (HR2.out.below b9); clear h9 r3 b9))
        go_cut [164] from 117 to 164 (fun f wx => f = .bool false ∧ Below w9.heap.size w9 wx)
        case first =>
          cases fb
          · obtain rfl : jv = 1 := HJ.out
            obtain rfl : ln = 0 := HLN.out
            refine wp_region_slots slotLe (slotPhi ((fun v _ => v = ?b117) :: (fun v _ => v = ?b118) :: (fun v _ => v = ?b119) :: (fun v _ => v = ?b120) :: (fun v _ => v = ?b121) :: (fun v _ => v = ?b122) :: (fun v _ => v = ?b123) :: (fun v _ => v = ?b124) :: (fun v _ => v = ?b125) :: (fun v _ => v = ?b126) :: (fun v _ => v = ?b127) :: (fun v _ => v = ?b128) :: (fun v _ => v = ?b129) :: (fun v _ => v = ?b130) :: (fun v _ => v = ?b131) :: (fun v _ => v = ?b132) :: (fun v _ => v = ?b133) :: (fun v _ => v = ?b134) :: (fun v _ => v = ?b135) :: (fun v _ => v = ?b136) :: (fun v _ => v = ?b137) :: (fun v _ => v = ?b138) :: (fun v _ => v = ?b139) :: (fun v _ => v = ?b140) :: (fun v _ => v = ?b141) :: (fun v _ => v = ?b142) :: (fun v _ => v = ?b143) :: (fun v _ => v = ?b144) :: (fun v _ => v = ?b145) :: (fun v _ => v = ?b146) :: (fun v _ => v = ?b147) :: (fun v _ => v = ?b148) :: (fun v _ => v = ?b149) :: (fun v _ => v = ?b150) :: (fun v _ => v = ?b151) :: (fun v _ => v = ?b152) :: (fun v _ => v = ?b153) :: (fun v _ => v = .string ⟨(Ar.zeros 20).toArray⟩) :: (EdMk) :: (fun v _ => v = .string ⟨(Ar.zeros 20).toArray⟩) :: (fun v _ => v = .bool false) :: (fun v _ => v = ?b158) :: (fun v _ => v = ?b159) :: (fun v _ => v = ?b160) :: (fun v _ => v = ?b161) :: (fun v _ => v = ?b162) :: (fun v _ => v = ?b163) :: (fun v _ => v = ?b164) :: [])) slotLe_refl slotLe_trans (slotPhi_stable ?stb) (by kernel_rfl) (by kernel_rfl) (by kernel_rfl) ?steps ?fin
            case stb =>
              refine ⟨by intro _ _ _ _ h; exact h, ?_⟩
              refine ⟨by intro _ _ _ _ h; exact h, ?_⟩
              refine ⟨by intro _ _ _ _ h; exact h, ?_⟩
              refine ⟨by intro _ _ _ _ h; exact h, ?_⟩
              refine ⟨by intro _ _ _ _ h; exact h, ?_⟩
              refine ⟨by intro _ _ _ _ h; exact h, ?_⟩
              refine ⟨by intro _ _ _ _ h; exact h, ?_⟩
              refine ⟨by intro _ _ _ _ h; exact h, ?_⟩
              refine ⟨by intro _ _ _ _ h; exact h, ?_⟩
              refine ⟨by intro _ _ _ _ h; exact h, ?_⟩
              refine ⟨by intro _ _ _ _ h; exact h, ?_⟩
              refine ⟨by intro _ _ _ _ h; exact h, ?_⟩
              refine ⟨by intro _ _ _ _ h; exact h, ?_⟩
              refine ⟨by intro _ _ _ _ h; exact h, ?_⟩
              refine ⟨by intro _ _ _ _ h; exact h, ?_⟩
              refine ⟨by intro _ _ _ _ h; exact h, ?_⟩
              refine ⟨by intro _ _ _ _ h; exact h, ?_⟩
              refine ⟨by intro _ _ _ _ h; exact h, ?_⟩
              refine ⟨by intro _ _ _ _ h; exact h, ?_⟩
              refine ⟨by intro _ _ _ _ h; exact h, ?_⟩
              refine ⟨by intro _ _ _ _ h; exact h, ?_⟩
              refine ⟨by intro _ _ _ _ h; exact h, ?_⟩
              refine ⟨by intro _ _ _ _ h; exact h, ?_⟩
              refine ⟨by intro _ _ _ _ h; exact h, ?_⟩
              refine ⟨by intro _ _ _ _ h; exact h, ?_⟩
              refine ⟨by intro _ _ _ _ h; exact h, ?_⟩
              refine ⟨by intro _ _ _ _ h; exact h, ?_⟩
              refine ⟨by intro _ _ _ _ h; exact h, ?_⟩
              refine ⟨by intro _ _ _ _ h; exact h, ?_⟩
              refine ⟨by intro _ _ _ _ h; exact h, ?_⟩
              refine ⟨by intro _ _ _ _ h; exact h, ?_⟩
              refine ⟨by intro _ _ _ _ h; exact h, ?_⟩
              refine ⟨by intro _ _ _ _ h; exact h, ?_⟩
              refine ⟨by intro _ _ _ _ h; exact h, ?_⟩
              refine ⟨by intro _ _ _ _ h; exact h, ?_⟩
              refine ⟨by intro _ _ _ _ h; exact h, ?_⟩
              refine ⟨by intro _ _ _ _ h; exact h, ?_⟩
              refine ⟨by intro _ _ _ _ h; exact h, ?_⟩
              refine ⟨fun _ _ _ h q => EdMk.below q h, ?_⟩
              refine ⟨by intro _ _ _ _ h; exact h, ?_⟩
              refine ⟨by intro _ _ _ _ h; exact h, ?_⟩
              refine ⟨by intro _ _ _ _ h; exact h, ?_⟩
              refine ⟨by intro _ _ _ _ h; exact h, ?_⟩
              refine ⟨by intro _ _ _ _ h; exact h, ?_⟩
              refine ⟨by intro _ _ _ _ h; exact h, ?_⟩
              refine ⟨by intro _ _ _ _ h; exact h, ?_⟩
              refine ⟨by intro _ _ _ _ h; exact h, ?_⟩
              refine ⟨by intro _ _ _ _ h; exact h, ?_⟩
              exact trivial
            case steps =>
              refine ⟨?_, ?_⟩
              · intro a W K N hK
                have e16 : a.tmps[16]?.getD undef = .int .i64 1 := N.was' 16 _ (by kernel_rfl) rfl
                rw [if_pos (wanted_no rfl)]
                go_simp
                refine hK _ _ (slotLe_refl _) ?_
                exact rfl
              refine ⟨?_, ?_⟩
              · intro a W K N hK
                have e117 : a.tmps[117]?.getD undef = _ := N.dep' 0 117 (by kernel_rfl)
                rw [if_pos (wanted_no rfl)]
                go_simp
                refine hK _ _ (slotLe_refl _) ?_
                exact rfl
              refine ⟨?_, ?_⟩
              · intro a W K N hK
                have e15 : a.tmps[15]?.getD undef = .bool false := N.was' 15 _ (by kernel_rfl) rfl
                rw [if_pos (wanted_no rfl)]
                go_simp
                refine hK _ _ (slotLe_refl _) ?_
                exact rfl
              refine ⟨?_, ?_⟩
              · intro a W K N hK
                have e118 : a.tmps[118]?.getD undef = _ := N.dep' 1 118 (by kernel_rfl)
                have e119 : a.tmps[119]?.getD undef = _ := N.dep' 2 119 (by kernel_rfl)
                rw [if_pos (wanted_no rfl)]
                go_simp
                refine hK _ _ (slotLe_refl _) ?_
                exact rfl
              refine ⟨?_, ?_⟩
              · intro a W K N hK
                have e120 : a.tmps[120]?.getD undef = _ := N.dep' 3 120 (by kernel_rfl)
                rw [if_pos (wanted_no rfl)]
                go_simp
                refine hK _ _ (slotLe_refl _) ?_
                exact rfl
              refine ⟨?_, ?_⟩
              · intro a W K N hK
                have e18 : a.tmps[18]?.getD undef = .int .i64 1 := N.was' 18 _ (by kernel_rfl) rfl
                have eg : a.tmps[121]?.getD undef = .bool false := N.dep' 4 121 (by kernel_rfl)
                rw [if_pos (by rw [wanted_get (g := 4) (d := 121) rfl rfl eg]; decide)]
                clear eg
                go_simp
                refine hK _ _ (slotLe_refl _) ?_
                exact rfl
              refine ⟨?_, ?_⟩
              · intro a W K N hK
                have e122 : a.tmps[122]?.getD undef = _ := N.dep' 5 122 (by kernel_rfl)
                have eg : a.tmps[121]?.getD undef = .bool false := N.dep' 4 121 (by kernel_rfl)
                rw [if_pos (by rw [wanted_get (g := 4) (d := 121) rfl rfl eg]; decide)]
                clear eg
                go_simp
                refine hK _ _ (slotLe_refl _) ?_
                exact rfl
              refine ⟨?_, ?_⟩
              · intro a W K N hK
                have e15 : a.tmps[15]?.getD undef = .bool false := N.was' 15 _ (by kernel_rfl) rfl
                have eg : a.tmps[121]?.getD undef = .bool false := N.dep' 4 121 (by kernel_rfl)
                rw [if_pos (by rw [wanted_get (g := 4) (d := 121) rfl rfl eg]; decide)]
                clear eg
                go_simp
                refine hK _ _ (slotLe_refl _) ?_
                exact rfl
              refine ⟨?_, ?_⟩
              · intro a W K N hK
                have e123 : a.tmps[123]?.getD undef = _ := N.dep' 6 123 (by kernel_rfl)
                have e124 : a.tmps[124]?.getD undef = _ := N.dep' 7 124 (by kernel_rfl)
                have eg : a.tmps[121]?.getD undef = .bool false := N.dep' 4 121 (by kernel_rfl)
                rw [if_pos (by rw [wanted_get (g := 4) (d := 121) rfl rfl eg]; decide)]
                clear eg
                go_simp
                refine hK _ _ (slotLe_refl _) ?_
                exact rfl
              refine ⟨?_, ?_⟩
              · intro a W K N hK
                have e121 : a.tmps[121]?.getD undef = _ := N.dep' 4 121 (by kernel_rfl)
                have e125 : a.tmps[125]?.getD undef = _ := N.dep' 8 125 (by kernel_rfl)
                rw [if_pos (wanted_no rfl)]
                go_simp
                refine hK _ _ (slotLe_refl _) ?_
                exact rfl
              refine ⟨?_, ?_⟩
              · intro a W K N hK
                have e126 : a.tmps[126]?.getD undef = _ := N.dep' 9 126 (by kernel_rfl)
                rw [if_pos (wanted_no rfl)]
                go_simp
                refine hK _ _ (slotLe_refl _) ?_
                exact rfl
              refine ⟨?_, ?_⟩
              · intro a W K N hK
                have e15 : a.tmps[15]?.getD undef = .bool false := N.was' 15 _ (by kernel_rfl) rfl
                have eg : a.tmps[127]?.getD undef = .bool false := N.dep' 10 127 (by kernel_rfl)
                rw [if_pos (by rw [wanted_get (g := 10) (d := 127) rfl rfl eg]; decide)]
                clear eg
                go_simp
                refine hK _ _ (slotLe_refl _) ?_
                exact rfl
              refine ⟨?_, ?_⟩
              · intro a W K N hK
                have e128 : a.tmps[128]?.getD undef = _ := N.dep' 11 128 (by kernel_rfl)
                have eg : a.tmps[127]?.getD undef = .bool false := N.dep' 10 127 (by kernel_rfl)
                rw [if_pos (by rw [wanted_get (g := 10) (d := 127) rfl rfl eg]; decide)]
                clear eg
                go_simp
                refine hK _ _ (slotLe_refl _) ?_
                exact rfl
              refine ⟨?_, ?_⟩
              · intro a W K N hK
                have e129 : a.tmps[129]?.getD undef = _ := N.dep' 12 129 (by kernel_rfl)
                have eg : a.tmps[127]?.getD undef = .bool false := N.dep' 10 127 (by kernel_rfl)
                rw [if_pos (by rw [wanted_get (g := 10) (d := 127) rfl rfl eg]; decide)]
                clear eg
                go_simp
                refine hK _ _ (slotLe_refl _) ?_
                exact rfl
              refine ⟨?_, ?_⟩
              · intro a W K N hK
                have e16 : a.tmps[16]?.getD undef = .int .i64 1 := N.was' 16 _ (by kernel_rfl) rfl
                have eg : a.tmps[130]?.getD undef = .bool true := N.dep' 13 130 (by kernel_rfl)
                rw [if_pos (by rw [wanted_get (g := 13) (d := 130) rfl rfl eg]; decide)]
                clear eg
                go_simp
                refine hK _ _ (slotLe_refl _) ?_
                exact rfl
              refine ⟨?_, ?_⟩
              · intro a W K N hK
                have e131 : a.tmps[131]?.getD undef = _ := N.dep' 14 131 (by kernel_rfl)
                have eg : a.tmps[130]?.getD undef = .bool true := N.dep' 13 130 (by kernel_rfl)
                rw [if_pos (by rw [wanted_get (g := 13) (d := 130) rfl rfl eg]; decide)]
                clear eg
                go_simp
                refine hK _ _ (slotLe_refl _) ?_
                exact rfl
              refine ⟨?_, ?_⟩
              · intro a W K N hK
                have e132 : a.tmps[132]?.getD undef = _ := N.dep' 15 132 (by kernel_rfl)
                have eg : a.tmps[130]?.getD undef = .bool true := N.dep' 13 130 (by kernel_rfl)
                rw [if_pos (by rw [wanted_get (g := 13) (d := 130) rfl rfl eg]; decide)]
                clear eg
                go_simp
                refine hK _ _ (slotLe_refl _) ?_
                exact rfl
              refine ⟨?_, ?_⟩
              · intro a W K N hK
                have e18 : a.tmps[18]?.getD undef = .int .i64 1 := N.was' 18 _ (by kernel_rfl) rfl
                have eg : a.tmps[133]?.getD undef = .bool false := N.dep' 16 133 (by kernel_rfl)
                rw [if_pos (by rw [wanted_get (g := 16) (d := 133) rfl rfl eg]; decide)]
                clear eg
                go_simp
                refine hK _ _ (slotLe_refl _) ?_
                exact rfl
              refine ⟨?_, ?_⟩
              · intro a W K N hK
                have e134 : a.tmps[134]?.getD undef = _ := N.dep' 17 134 (by kernel_rfl)
                have eg : a.tmps[133]?.getD undef = .bool false := N.dep' 16 133 (by kernel_rfl)
                rw [if_pos (by rw [wanted_get (g := 16) (d := 133) rfl rfl eg]; decide)]
                clear eg
                go_simp
                refine hK _ _ (slotLe_refl _) ?_
                exact rfl
              refine ⟨?_, ?_⟩
              · intro a W K N hK
                have e133 : a.tmps[133]?.getD undef = _ := N.dep' 16 133 (by kernel_rfl)
                have e135 : a.tmps[135]?.getD undef = _ := N.dep' 18 135 (by kernel_rfl)
                have eg : a.tmps[130]?.getD undef = .bool true := N.dep' 13 130 (by kernel_rfl)
                rw [if_pos (by rw [wanted_get (g := 13) (d := 130) rfl rfl eg]; decide)]
                clear eg
                go_simp
                refine hK _ _ (slotLe_refl _) ?_
                exact rfl
              refine ⟨?_, ?_⟩
              · intro a W K N hK
                have e136 : a.tmps[136]?.getD undef = _ := N.dep' 19 136 (by kernel_rfl)
                have eg : a.tmps[130]?.getD undef = .bool true := N.dep' 13 130 (by kernel_rfl)
                rw [if_pos (by rw [wanted_get (g := 13) (d := 130) rfl rfl eg]; decide)]
                clear eg
                go_simp
                refine hK _ _ (slotLe_refl _) ?_
                exact rfl
              refine ⟨?_, ?_⟩
              · intro a W K N hK
                have e17 : a.tmps[17]?.getD undef = .slice ao1 0 c1 := N.was' 17 _ (by kernel_rfl) rfl
                have eg : a.tmps[137]?.getD undef = .bool false := N.dep' 20 137 (by kernel_rfl)
                rw [if_pos (by rw [wanted_get (g := 20) (d := 137) rfl rfl eg]; decide)]
                clear eg
                go_simp
                refine hK _ _ (slotLe_refl _) ?_
                exact rfl
              refine ⟨?_, ?_⟩
              · intro a W K N hK
                have e138 : a.tmps[138]?.getD undef = _ := N.dep' 21 138 (by kernel_rfl)
                have eg : a.tmps[137]?.getD undef = .bool false := N.dep' 20 137 (by kernel_rfl)
                rw [if_pos (by rw [wanted_get (g := 20) (d := 137) rfl rfl eg]; decide)]
                clear eg
                go_simp
                refine hK _ _ (slotLe_refl _) ?_
                exact rfl
              refine ⟨?_, ?_⟩
              · intro a W K N hK
                have e139 : a.tmps[139]?.getD undef = _ := N.dep' 22 139 (by kernel_rfl)
                have eg : a.tmps[137]?.getD undef = .bool false := N.dep' 20 137 (by kernel_rfl)
                rw [if_pos (by rw [wanted_get (g := 20) (d := 137) rfl rfl eg]; decide)]
                clear eg
                go_simp
                refine hK _ _ (slotLe_refl _) ?_
                exact rfl
              refine ⟨?_, ?_⟩
              · intro a W K N hK
                have e137 : a.tmps[137]?.getD undef = _ := N.dep' 20 137 (by kernel_rfl)
                have e140 : a.tmps[140]?.getD undef = _ := N.dep' 23 140 (by kernel_rfl)
                have eg : a.tmps[130]?.getD undef = .bool true := N.dep' 13 130 (by kernel_rfl)
                rw [if_pos (by rw [wanted_get (g := 13) (d := 130) rfl rfl eg]; decide)]
                clear eg
                go_simp
                refine hK _ _ (slotLe_refl _) ?_
                exact rfl
              refine ⟨?_, ?_⟩
              · intro a W K N hK
                have e130 : a.tmps[130]?.getD undef = _ := N.dep' 13 130 (by kernel_rfl)
                have e141 : a.tmps[141]?.getD undef = _ := N.dep' 24 141 (by kernel_rfl)
                have eg : a.tmps[127]?.getD undef = .bool false := N.dep' 10 127 (by kernel_rfl)
                rw [if_pos (by rw [wanted_get (g := 10) (d := 127) rfl rfl eg]; decide)]
                clear eg
                go_simp
                refine hK _ _ (slotLe_refl _) ?_
                exact rfl
              refine ⟨?_, ?_⟩
              · intro a W K N hK
                have e127 : a.tmps[127]?.getD undef = _ := N.dep' 10 127 (by kernel_rfl)
                have e142 : a.tmps[142]?.getD undef = _ := N.dep' 25 142 (by kernel_rfl)
                rw [if_pos (wanted_no rfl)]
                go_simp
                refine hK _ _ (slotLe_refl _) ?_
                exact rfl
              refine ⟨?_, ?_⟩
              · intro a W K N hK
                have e143 : a.tmps[143]?.getD undef = _ := N.dep' 26 143 (by kernel_rfl)
                rw [if_pos (wanted_no rfl)]
                go_simp
                refine hK _ _ (slotLe_refl _) ?_
                exact rfl
              refine ⟨?_, ?_⟩
              · intro a W K N hK
                have e20 : a.tmps[20]?.getD undef = .int .i64 0 := N.was' 20 _ (by kernel_rfl) rfl
                have eg : a.tmps[144]?.getD undef = .bool false := N.dep' 27 144 (by kernel_rfl)
                rw [if_pos (by rw [wanted_get (g := 27) (d := 144) rfl rfl eg]; decide)]
                clear eg
                go_simp
                refine hK _ _ (slotLe_refl _) ?_
                exact rfl
              refine ⟨?_, ?_⟩
              · intro a W K N hK
                have e145 : a.tmps[145]?.getD undef = _ := N.dep' 28 145 (by kernel_rfl)
                have eg : a.tmps[144]?.getD undef = .bool false := N.dep' 27 144 (by kernel_rfl)
                rw [if_pos (by rw [wanted_get (g := 27) (d := 144) rfl rfl eg]; decide)]
                clear eg
                go_simp
                refine hK _ _ (slotLe_refl _) ?_
                exact rfl
              refine ⟨?_, ?_⟩
              · intro a W K N hK
                have e144 : a.tmps[144]?.getD undef = _ := N.dep' 27 144 (by kernel_rfl)
                have e146 : a.tmps[146]?.getD undef = _ := N.dep' 29 146 (by kernel_rfl)
                rw [if_pos (wanted_no rfl)]
                go_simp
                refine hK _ _ (slotLe_refl _) ?_
                exact rfl
              refine ⟨?_, ?_⟩
              · intro a W K N hK
                have e147 : a.tmps[147]?.getD undef = _ := N.dep' 30 147 (by kernel_rfl)
                rw [if_pos (wanted_no rfl)]
                go_simp
                refine hK _ _ (slotLe_refl _) ?_
                exact rfl
              refine ⟨?_, ?_⟩
              · intro a W K N hK
                have e22 : a.tmps[22]?.getD undef = .int .i64 0 := N.was' 22 _ (by kernel_rfl) rfl
                have eg : a.tmps[148]?.getD undef = .bool false := N.dep' 31 148 (by kernel_rfl)
                rw [if_pos (by rw [wanted_get (g := 31) (d := 148) rfl rfl eg]; decide)]
                clear eg
                go_simp
                refine hK _ _ (slotLe_refl _) ?_
                exact rfl
              refine ⟨?_, ?_⟩
              · intro a W K N hK
                have e149 : a.tmps[149]?.getD undef = _ := N.dep' 32 149 (by kernel_rfl)
                have eg : a.tmps[148]?.getD undef = .bool false := N.dep' 31 148 (by kernel_rfl)
                rw [if_pos (by rw [wanted_get (g := 31) (d := 148) rfl rfl eg]; decide)]
                clear eg
                go_simp
                refine hK _ _ (slotLe_refl _) ?_
                exact rfl
              refine ⟨?_, ?_⟩
              · intro a W K N hK
                have e148 : a.tmps[148]?.getD undef = _ := N.dep' 31 148 (by kernel_rfl)
                have e150 : a.tmps[150]?.getD undef = _ := N.dep' 33 150 (by kernel_rfl)
                rw [if_pos (wanted_no rfl)]
                go_simp
                refine hK _ _ (slotLe_refl _) ?_
                exact rfl
              refine ⟨?_, ?_⟩
              · intro a W K N hK
                have e151 : a.tmps[151]?.getD undef = _ := N.dep' 34 151 (by kernel_rfl)
                rw [if_pos (wanted_no rfl)]
                go_simp
                refine hK _ _ (slotLe_refl _) ?_
                exact rfl
              refine ⟨?_, ?_⟩
              · intro a W K N hK
                have e21 : a.tmps[21]?.getD undef = .slice ao3 20 c3 := N.was' 21 _ (by kernel_rfl) rfl
                have eg : a.tmps[152]?.getD undef = .bool false := N.dep' 35 152 (by kernel_rfl)
                rw [if_pos (by rw [wanted_get (g := 35) (d := 152) rfl rfl eg]; decide)]
                clear eg
                go_simp
                refine hK _ _ (slotLe_refl _) ?_
                exact rfl
              refine ⟨?_, ?_⟩
              · intro a W K N hK
                have e153 : a.tmps[153]?.getD undef = _ := N.dep' 36 153 (by kernel_rfl)
                have eg : a.tmps[152]?.getD undef = .bool false := N.dep' 35 152 (by kernel_rfl)
                rw [if_pos (by rw [wanted_get (g := 35) (d := 152) rfl rfl eg]; decide)]
                clear eg
                have hcv := run_rd_any (HR3.out.below (below_undrew N.le))
                go_simp
                refine hK _ _ (slotLe_refl _) ?_
                exact rfl
              refine ⟨?_, ?_⟩
              · intro a W K N hK
                have eg : a.tmps[152]?.getD undef = .bool false := N.dep' 35 152 (by kernel_rfl)
                rw [if_pos (by rw [wanted_get (g := 35) (d := 152) rfl rfl eg]; decide)]
                clear eg
                have hmk := HMK.out W
                go_simp
                refine hK _ _ ((RowKit.Below.refl _ W).alloc (Nat.le_refl _) _) ?_
                exact EdMk.new W
              refine ⟨?_, ?_⟩
              · intro a W K N hK
                have e155 := Lib.hid (show (EdMk) (a.tmps[155]?.getD undef) W from N.dep' 38 155 (by kernel_rfl))
                have eg : a.tmps[152]?.getD undef = .bool false := N.dep' 35 152 (by kernel_rfl)
                rw [if_pos (by rw [wanted_get (g := 35) (d := 152) rfl rfl eg]; decide)]
                clear eg
                obtain ⟨B5, h5, h6⟩ := e155.out
                have hcv := run_rd_any h6
                go_simp
                refine hK _ _ (slotLe_refl _) ?_
                exact rfl
              refine ⟨?_, ?_⟩
              · intro a W K N hK
                have e154 := Lib.hid (show (fun v _ => v = .string ⟨(Ar.zeros 20).toArray⟩) (a.tmps[154]?.getD undef) W from N.dep' 37 154 (by kernel_rfl))
                have e156 := Lib.hid (show (fun v _ => v = .string ⟨(Ar.zeros 20).toArray⟩) (a.tmps[156]?.getD undef) W from N.dep' 39 156 (by kernel_rfl))
                have eg : a.tmps[152]?.getD undef = .bool false := N.dep' 35 152 (by kernel_rfl)
                rw [if_pos (by rw [wanted_get (g := 35) (d := 152) rfl rfl eg]; decide)]
                clear eg
                have e7 := e154.out
                have e8 := e156.out
                have hz := eqz20
                go_simp
                refine hK _ _ (slotLe_refl _) ?_
                exact rfl
              refine ⟨?_, ?_⟩
              · intro a W K N hK
                have e152 : a.tmps[152]?.getD undef = _ := N.dep' 35 152 (by kernel_rfl)
                have e157 := Lib.hid (show (fun v _ => v = .bool false) (a.tmps[157]?.getD undef) W from N.dep' 40 157 (by kernel_rfl))
                rw [if_pos (wanted_no rfl)]
                have e9 := e157.out
                go_simp
                refine hK _ _ (slotLe_refl _) ?_
                exact rfl
              refine ⟨?_, ?_⟩
              · intro a W K N hK
                have e158 : a.tmps[158]?.getD undef = _ := N.dep' 41 158 (by kernel_rfl)
                rw [if_pos (wanted_no rfl)]
                go_simp
                refine hK _ _ (slotLe_refl _) ?_
                exact rfl
              refine ⟨?_, ?_⟩
              · intro a W K N hK
                have e19 : a.tmps[19]?.getD undef = .slice ao2 n c2 := N.was' 19 _ (by kernel_rfl) rfl
                have eg : a.tmps[159]?.getD undef = .bool false := N.dep' 42 159 (by kernel_rfl)
                rw [if_pos (by rw [wanted_get (g := 42) (d := 159) rfl rfl eg]; decide)]
                clear eg
                go_simp
                refine hK _ _ (slotLe_refl _) ?_
                exact rfl
              refine ⟨?_, ?_⟩
              · intro a W K N hK
                have e160 : a.tmps[160]?.getD undef = _ := N.dep' 43 160 (by kernel_rfl)
                have eg : a.tmps[159]?.getD undef = .bool false := N.dep' 42 159 (by kernel_rfl)
                rw [if_pos (by rw [wanted_get (g := 42) (d := 159) rfl rfl eg]; decide)]
                clear eg
                go_simp
                refine hK _ _ (slotLe_refl _) ?_
                exact rfl
              refine ⟨?_, ?_⟩
              · intro a W K N hK
                have e0 : a.tmps[0]?.getD undef = .int .i64 (n : Int) := N.was' 0 _ (by kernel_rfl) rfl
                have eg : a.tmps[159]?.getD undef = .bool false := N.dep' 42 159 (by kernel_rfl)
                rw [if_pos (by rw [wanted_get (g := 42) (d := 159) rfl rfl eg]; decide)]
                clear eg
                go_simp
                refine hK _ _ (slotLe_refl _) ?_
                exact rfl
              refine ⟨?_, ?_⟩
              · intro a W K N hK
                have e161 : a.tmps[161]?.getD undef = _ := N.dep' 44 161 (by kernel_rfl)
                have e162 : a.tmps[162]?.getD undef = _ := N.dep' 45 162 (by kernel_rfl)
                have eg : a.tmps[159]?.getD undef = .bool false := N.dep' 42 159 (by kernel_rfl)
                rw [if_pos (by rw [wanted_get (g := 42) (d := 159) rfl rfl eg]; decide)]
                clear eg
                go_simp
                refine hK _ _ (slotLe_refl _) ?_
                exact rfl
              refine ⟨?_, ?_⟩
              · intro a W K N hK
                have e159 : a.tmps[159]?.getD undef = _ := N.dep' 42 159 (by kernel_rfl)
                have e163 : a.tmps[163]?.getD undef = _ := N.dep' 46 163 (by kernel_rfl)
                rw [if_pos (wanted_no rfl)]
                go_simp
                refine hK _ _ (slotLe_refl _) ?_
                exact rfl
              exact trivial
            case fin =>
              intro W hW
              simp only [FinAll, slotPhi, List.getD_cons_zero, List.getD_cons_succ, forall_eq, Act.put, List.setIfInBounds_toArray, List.set_cons_zero, List.set_cons_succ]
              repeat (intro _ _)
              have hbW := below_undrew hW
              go_wp2
              go_meet
              case rel => exact ⟨rfl, hbW⟩
          · obtain rfl : jv = 0 := HJ.out
            have hlns : ln = size := HLN.out.trans (xs_len size)
            clear HLN
            subst hlns
            refine wp_region_slots slotLe (slotPhi ((fun v _ => v = ?a117) :: (fun v _ => v = ?a118) :: (fun v _ => v = ?a119) :: (fun v _ => v = ?a120) :: (fun v _ => v = ?a121) :: (fun v _ => v = ?a122) :: (fun v _ => v = ?a123) :: (fun v _ => v = ?a124) :: (fun v _ => v = ?a125) :: (fun v _ => v = ?a126) :: (fun v _ => v = ?a127) :: (fun v _ => v = ?a128) :: (fun v _ => v = ?a129) :: (fun v _ => v = ?a130) :: (fun v _ => v = undef) :: (fun v _ => v = undef) :: (fun v _ => v = undef) :: (fun v _ => v = undef) :: (fun v _ => v = undef) :: (fun v _ => v = undef) :: (fun v _ => v = undef) :: (fun v _ => v = undef) :: (fun v _ => v = undef) :: (fun v _ => v = undef) :: (fun v _ => v = undef) :: (fun v _ => v = ?a142) :: (fun v _ => v = ?a143) :: (fun v _ => v = ?a144) :: (fun v _ => v = ?a145) :: (fun v _ => v = ?a146) :: (fun v _ => v = ?a147) :: (fun v _ => v = ?a148) :: (fun v _ => v = ?a149) :: (fun v _ => v = ?a150) :: (fun v _ => v = ?a151) :: (fun v _ => v = ?a152) :: (fun v _ => v = ?a153) :: (fun v _ => v = .string ⟨(Ar.zeros 20).toArray⟩) :: (EdMk) :: (fun v _ => v = .string ⟨(Ar.zeros 20).toArray⟩) :: (fun v _ => v = .bool false) :: (fun v _ => v = ?a158) :: (fun v _ => v = ?a159) :: (fun v _ => v = ?a160) :: (fun v _ => v = ?a161) :: (fun v _ => v = ?a162) :: (fun v _ => v = ?a163) :: (fun v _ => v = ?a164) :: [])) slotLe_refl slotLe_trans (slotPhi_stable ?stb) (by kernel_rfl) (by kernel_rfl) (by kernel_rfl) ?steps ?fin
            case stb =>
              refine ⟨by intro _ _ _ _ h; exact h, ?_⟩
              refine ⟨by intro _ _ _ _ h; exact h, ?_⟩
              refine ⟨by intro _ _ _ _ h; exact h, ?_⟩
              refine ⟨by intro _ _ _ _ h; exact h, ?_⟩
              refine ⟨by intro _ _ _ _ h; exact h, ?_⟩
              refine ⟨by intro _ _ _ _ h; exact h, ?_⟩
              refine ⟨by intro _ _ _ _ h; exact h, ?_⟩
              refine ⟨by intro _ _ _ _ h; exact h, ?_⟩
              refine ⟨by intro _ _ _ _ h; exact h, ?_⟩
              refine ⟨by intro _ _ _ _ h; exact h, ?_⟩
              refine ⟨by intro _ _ _ _ h; exact h, ?_⟩
              refine ⟨by intro _ _ _ _ h; exact h, ?_⟩
              refine ⟨by intro _ _ _ _ h; exact h, ?_⟩
              refine ⟨by intro _ _ _ _ h; exact h, ?_⟩
              refine ⟨by intro _ _ _ _ h; exact h, ?_⟩
              refine ⟨by intro _ _ _ _ h; exact h, ?_⟩
              refine ⟨by intro _ _ _ _ h; exact h, ?_⟩
              refine ⟨by intro _ _ _ _ h; exact h, ?_⟩
              refine ⟨by intro _ _ _ _ h; exact h, ?_⟩
              refine ⟨by intro _ _ _ _ h; exact h, ?_⟩
              refine ⟨by intro _ _ _ _ h; exact h, ?_⟩
              refine ⟨by intro _ _ _ _ h; exact h, ?_⟩
              refine ⟨by intro _ _ _ _ h; exact h, ?_⟩
              refine ⟨by intro _ _ _ _ h; exact h, ?_⟩
              refine ⟨by intro _ _ _ _ h; exact h, ?_⟩
              refine ⟨by intro _ _ _ _ h; exact h, ?_⟩
              refine ⟨by intro _ _ _ _ h; exact h, ?_⟩
              refine ⟨by intro _ _ _ _ h; exact h, ?_⟩
              refine ⟨by intro _ _ _ _ h; exact h, ?_⟩
              refine ⟨by intro _ _ _ _ h; exact h, ?_⟩
              refine ⟨by intro _ _ _ _ h; exact h, ?_⟩
              refine ⟨by intro _ _ _ _ h; exact h, ?_⟩
              refine ⟨by intro _ _ _ _ h; exact h, ?_⟩
              refine ⟨by intro _ _ _ _ h; exact h, ?_⟩
              refine ⟨by intro _ _ _ _ h; exact h, ?_⟩
              refine ⟨by intro _ _ _ _ h; exact h, ?_⟩
              refine ⟨by intro _ _ _ _ h; exact h, ?_⟩
              refine ⟨by intro _ _ _ _ h; exact h, ?_⟩
              refine ⟨fun _ _ _ h q => EdMk.below q h, ?_⟩
              refine ⟨by intro _ _ _ _ h; exact h, ?_⟩
              refine ⟨by intro _ _ _ _ h; exact h, ?_⟩
              refine ⟨by intro _ _ _ _ h; exact h, ?_⟩
              refine ⟨by intro _ _ _ _ h; exact h, ?_⟩
              refine ⟨by intro _ _ _ _ h; exact h, ?_⟩
              refine ⟨by intro _ _ _ _ h; exact h, ?_⟩
              refine ⟨by intro _ _ _ _ h; exact h, ?_⟩
              refine ⟨by intro _ _ _ _ h; exact h, ?_⟩
              refine ⟨by intro _ _ _ _ h; exact h, ?_⟩
              exact trivial
            case steps =>
              refine ⟨?_, ?_⟩
              · intro a W K N hK
                have e16 : a.tmps[16]?.getD undef = .int .i64 0 := N.was' 16 _ (by kernel_rfl) rfl
                rw [if_pos (wanted_no rfl)]
                go_simp
                refine hK _ _ (slotLe_refl _) ?_
                exact rfl
              refine ⟨?_, ?_⟩
              · intro a W K N hK
                have e117 : a.tmps[117]?.getD undef = _ := N.dep' 0 117 (by kernel_rfl)
                rw [if_pos (wanted_no rfl)]
                go_simp
                refine hK _ _ (slotLe_refl _) ?_
                exact rfl
              refine ⟨?_, ?_⟩
              · intro a W K N hK
                have e15 : a.tmps[15]?.getD undef = .bool true := N.was' 15 _ (by kernel_rfl) rfl
                rw [if_pos (wanted_no rfl)]
                go_simp
                refine hK _ _ (slotLe_refl _) ?_
                exact rfl
              refine ⟨?_, ?_⟩
              · intro a W K N hK
                have e118 : a.tmps[118]?.getD undef = _ := N.dep' 1 118 (by kernel_rfl)
                have e119 : a.tmps[119]?.getD undef = _ := N.dep' 2 119 (by kernel_rfl)
                rw [if_pos (wanted_no rfl)]
                go_simp
                refine hK _ _ (slotLe_refl _) ?_
                exact rfl
              refine ⟨?_, ?_⟩
              · intro a W K N hK
                have e120 : a.tmps[120]?.getD undef = _ := N.dep' 3 120 (by kernel_rfl)
                rw [if_pos (wanted_no rfl)]
                go_simp
                refine hK _ _ (slotLe_refl _) ?_
                exact rfl
              refine ⟨?_, ?_⟩
              · intro a W K N hK
                have e18 : a.tmps[18]?.getD undef = .int .i64 0 := N.was' 18 _ (by kernel_rfl) rfl
                have eg : a.tmps[121]?.getD undef = .bool false := N.dep' 4 121 (by kernel_rfl)
                rw [if_pos (by rw [wanted_get (g := 4) (d := 121) rfl rfl eg]; decide)]
                clear eg
                go_simp
                refine hK _ _ (slotLe_refl _) ?_
                exact rfl
              refine ⟨?_, ?_⟩
              · intro a W K N hK
                have e122 : a.tmps[122]?.getD undef = _ := N.dep' 5 122 (by kernel_rfl)
                have eg : a.tmps[121]?.getD undef = .bool false := N.dep' 4 121 (by kernel_rfl)
                rw [if_pos (by rw [wanted_get (g := 4) (d := 121) rfl rfl eg]; decide)]
                clear eg
                go_simp
                refine hK _ _ (slotLe_refl _) ?_
                exact rfl
              refine ⟨?_, ?_⟩
              · intro a W K N hK
                have e15 : a.tmps[15]?.getD undef = .bool true := N.was' 15 _ (by kernel_rfl) rfl
                have eg : a.tmps[121]?.getD undef = .bool false := N.dep' 4 121 (by kernel_rfl)
                rw [if_pos (by rw [wanted_get (g := 4) (d := 121) rfl rfl eg]; decide)]
                clear eg
                go_simp
                refine hK _ _ (slotLe_refl _) ?_
                exact rfl
              refine ⟨?_, ?_⟩
              · intro a W K N hK
                have e123 : a.tmps[123]?.getD undef = _ := N.dep' 6 123 (by kernel_rfl)
                have e124 : a.tmps[124]?.getD undef = _ := N.dep' 7 124 (by kernel_rfl)
                have eg : a.tmps[121]?.getD undef = .bool false := N.dep' 4 121 (by kernel_rfl)
                rw [if_pos (by rw [wanted_get (g := 4) (d := 121) rfl rfl eg]; decide)]
                clear eg
                go_simp
                refine hK _ _ (slotLe_refl _) ?_
                exact rfl
              refine ⟨?_, ?_⟩
              · intro a W K N hK
                have e121 : a.tmps[121]?.getD undef = _ := N.dep' 4 121 (by kernel_rfl)
                have e125 : a.tmps[125]?.getD undef = _ := N.dep' 8 125 (by kernel_rfl)
                rw [if_pos (wanted_no rfl)]
                go_simp
                refine hK _ _ (slotLe_refl _) ?_
                exact rfl
              refine ⟨?_, ?_⟩
              · intro a W K N hK
                have e126 : a.tmps[126]?.getD undef = _ := N.dep' 9 126 (by kernel_rfl)
                rw [if_pos (wanted_no rfl)]
                go_simp
                refine hK _ _ (slotLe_refl _) ?_
                exact rfl
              refine ⟨?_, ?_⟩
              · intro a W K N hK
                have e15 : a.tmps[15]?.getD undef = .bool true := N.was' 15 _ (by kernel_rfl) rfl
                have eg : a.tmps[127]?.getD undef = .bool false := N.dep' 10 127 (by kernel_rfl)
                rw [if_pos (by rw [wanted_get (g := 10) (d := 127) rfl rfl eg]; decide)]
                clear eg
                go_simp
                refine hK _ _ (slotLe_refl _) ?_
                exact rfl
              refine ⟨?_, ?_⟩
              · intro a W K N hK
                have e128 : a.tmps[128]?.getD undef = _ := N.dep' 11 128 (by kernel_rfl)
                have eg : a.tmps[127]?.getD undef = .bool false := N.dep' 10 127 (by kernel_rfl)
                rw [if_pos (by rw [wanted_get (g := 10) (d := 127) rfl rfl eg]; decide)]
                clear eg
                go_simp
                refine hK _ _ (slotLe_refl _) ?_
                exact rfl
              refine ⟨?_, ?_⟩
              · intro a W K N hK
                have e129 : a.tmps[129]?.getD undef = _ := N.dep' 12 129 (by kernel_rfl)
                have eg : a.tmps[127]?.getD undef = .bool false := N.dep' 10 127 (by kernel_rfl)
                rw [if_pos (by rw [wanted_get (g := 10) (d := 127) rfl rfl eg]; decide)]
                clear eg
                go_simp
                refine hK _ _ (slotLe_refl _) ?_
                exact rfl
              refine ⟨?_, ?_⟩
              · intro a W K N hK
                have eg : a.tmps[130]?.getD undef = .bool false := N.dep' 13 130 (by kernel_rfl)
                rw [if_neg (by rw [wanted_get (g := 13) (d := 130) rfl rfl eg]; decide)]
                refine hK _ _ (slotLe_refl _) ?_
                exact rfl
              refine ⟨?_, ?_⟩
              · intro a W K N hK
                have eg : a.tmps[130]?.getD undef = .bool false := N.dep' 13 130 (by kernel_rfl)
                rw [if_neg (by rw [wanted_get (g := 13) (d := 130) rfl rfl eg]; decide)]
                refine hK _ _ (slotLe_refl _) ?_
                exact rfl
              refine ⟨?_, ?_⟩
              · intro a W K N hK
                have eg : a.tmps[130]?.getD undef = .bool false := N.dep' 13 130 (by kernel_rfl)
                rw [if_neg (by rw [wanted_get (g := 13) (d := 130) rfl rfl eg]; decide)]
                refine hK _ _ (slotLe_refl _) ?_
                exact rfl
              refine ⟨?_, ?_⟩
              · intro a W K N hK
                have eg : a.tmps[133]?.getD undef = undef := N.dep' 16 133 (by kernel_rfl)
                rw [if_neg (by rw [wanted_undef (g := 16) (d := 133) rfl rfl eg]; decide)]
                refine hK _ _ (slotLe_refl _) ?_
                exact rfl
              refine ⟨?_, ?_⟩
              · intro a W K N hK
                have eg : a.tmps[133]?.getD undef = undef := N.dep' 16 133 (by kernel_rfl)
                rw [if_neg (by rw [wanted_undef (g := 16) (d := 133) rfl rfl eg]; decide)]
                refine hK _ _ (slotLe_refl _) ?_
                exact rfl
              refine ⟨?_, ?_⟩
              · intro a W K N hK
                have eg : a.tmps[130]?.getD undef = .bool false := N.dep' 13 130 (by kernel_rfl)
                rw [if_neg (by rw [wanted_get (g := 13) (d := 130) rfl rfl eg]; decide)]
                refine hK _ _ (slotLe_refl _) ?_
                exact rfl
              refine ⟨?_, ?_⟩
              · intro a W K N hK
                have eg : a.tmps[130]?.getD undef = .bool false := N.dep' 13 130 (by kernel_rfl)
                rw [if_neg (by rw [wanted_get (g := 13) (d := 130) rfl rfl eg]; decide)]
                refine hK _ _ (slotLe_refl _) ?_
                exact rfl
              refine ⟨?_, ?_⟩
              · intro a W K N hK
                have eg : a.tmps[137]?.getD undef = undef := N.dep' 20 137 (by kernel_rfl)
                rw [if_neg (by rw [wanted_undef (g := 20) (d := 137) rfl rfl eg]; decide)]
                refine hK _ _ (slotLe_refl _) ?_
                exact rfl
              refine ⟨?_, ?_⟩
              · intro a W K N hK
                have eg : a.tmps[137]?.getD undef = undef := N.dep' 20 137 (by kernel_rfl)
                rw [if_neg (by rw [wanted_undef (g := 20) (d := 137) rfl rfl eg]; decide)]
                refine hK _ _ (slotLe_refl _) ?_
                exact rfl
              refine ⟨?_, ?_⟩
              · intro a W K N hK
                have eg : a.tmps[137]?.getD undef = undef := N.dep' 20 137 (by kernel_rfl)
                rw [if_neg (by rw [wanted_undef (g := 20) (d := 137) rfl rfl eg]; decide)]
                refine hK _ _ (slotLe_refl _) ?_
                exact rfl
              refine ⟨?_, ?_⟩
              · intro a W K N hK
                have eg : a.tmps[130]?.getD undef = .bool false := N.dep' 13 130 (by kernel_rfl)
                rw [if_neg (by rw [wanted_get (g := 13) (d := 130) rfl rfl eg]; decide)]
                refine hK _ _ (slotLe_refl _) ?_
                exact rfl
              refine ⟨?_, ?_⟩
              · intro a W K N hK
                have e130 : a.tmps[130]?.getD undef = _ := N.dep' 13 130 (by kernel_rfl)
                have e141 : a.tmps[141]?.getD undef = undef := N.dep' 24 141 (by kernel_rfl)
                have eg : a.tmps[127]?.getD undef = .bool false := N.dep' 10 127 (by kernel_rfl)
                rw [if_pos (by rw [wanted_get (g := 10) (d := 127) rfl rfl eg]; decide)]
                clear eg
                go_simp
                refine hK _ _ (slotLe_refl _) ?_
                exact rfl
              refine ⟨?_, ?_⟩
              · intro a W K N hK
                have e127 : a.tmps[127]?.getD undef = _ := N.dep' 10 127 (by kernel_rfl)
                have e142 : a.tmps[142]?.getD undef = _ := N.dep' 25 142 (by kernel_rfl)
                rw [if_pos (wanted_no rfl)]
                go_simp
                refine hK _ _ (slotLe_refl _) ?_
                exact rfl
              refine ⟨?_, ?_⟩
              · intro a W K N hK
                have e143 : a.tmps[143]?.getD undef = _ := N.dep' 26 143 (by kernel_rfl)
                rw [if_pos (wanted_no rfl)]
                go_simp
                refine hK _ _ (slotLe_refl _) ?_
                exact rfl
              refine ⟨?_, ?_⟩
              · intro a W K N hK
                have e20 : a.tmps[20]?.getD undef = .int .i64 0 := N.was' 20 _ (by kernel_rfl) rfl
                have eg : a.tmps[144]?.getD undef = .bool false := N.dep' 27 144 (by kernel_rfl)
                rw [if_pos (by rw [wanted_get (g := 27) (d := 144) rfl rfl eg]; decide)]
                clear eg
                go_simp
                refine hK _ _ (slotLe_refl _) ?_
                exact rfl
              refine ⟨?_, ?_⟩
              · intro a W K N hK
                have e145 : a.tmps[145]?.getD undef = _ := N.dep' 28 145 (by kernel_rfl)
                have eg : a.tmps[144]?.getD undef = .bool false := N.dep' 27 144 (by kernel_rfl)
                rw [if_pos (by rw [wanted_get (g := 27) (d := 144) rfl rfl eg]; decide)]
                clear eg
                go_simp
                refine hK _ _ (slotLe_refl _) ?_
                exact rfl
              refine ⟨?_, ?_⟩
              · intro a W K N hK
                have e144 : a.tmps[144]?.getD undef = _ := N.dep' 27 144 (by kernel_rfl)
                have e146 : a.tmps[146]?.getD undef = _ := N.dep' 29 146 (by kernel_rfl)
                rw [if_pos (wanted_no rfl)]
                go_simp
                refine hK _ _ (slotLe_refl _) ?_
                exact rfl
              refine ⟨?_, ?_⟩
              · intro a W K N hK
                have e147 : a.tmps[147]?.getD undef = _ := N.dep' 30 147 (by kernel_rfl)
                rw [if_pos (wanted_no rfl)]
                go_simp
                refine hK _ _ (slotLe_refl _) ?_
                exact rfl
              refine ⟨?_, ?_⟩
              · intro a W K N hK
                have e22 : a.tmps[22]?.getD undef = .int .i64 0 := N.was' 22 _ (by kernel_rfl) rfl
                have eg : a.tmps[148]?.getD undef = .bool false := N.dep' 31 148 (by kernel_rfl)
                rw [if_pos (by rw [wanted_get (g := 31) (d := 148) rfl rfl eg]; decide)]
                clear eg
                go_simp
                refine hK _ _ (slotLe_refl _) ?_
                exact rfl
              refine ⟨?_, ?_⟩
              · intro a W K N hK
                have e149 : a.tmps[149]?.getD undef = _ := N.dep' 32 149 (by kernel_rfl)
                have eg : a.tmps[148]?.getD undef = .bool false := N.dep' 31 148 (by kernel_rfl)
                rw [if_pos (by rw [wanted_get (g := 31) (d := 148) rfl rfl eg]; decide)]
                clear eg
                go_simp
                refine hK _ _ (slotLe_refl _) ?_
                exact rfl
              refine ⟨?_, ?_⟩
              · intro a W K N hK
                have e148 : a.tmps[148]?.getD undef = _ := N.dep' 31 148 (by kernel_rfl)
                have e150 : a.tmps[150]?.getD undef = _ := N.dep' 33 150 (by kernel_rfl)
                rw [if_pos (wanted_no rfl)]
                go_simp
                refine hK _ _ (slotLe_refl _) ?_
                exact rfl
              refine ⟨?_, ?_⟩
              · intro a W K N hK
                have e151 : a.tmps[151]?.getD undef = _ := N.dep' 34 151 (by kernel_rfl)
                rw [if_pos (wanted_no rfl)]
                go_simp
                refine hK _ _ (slotLe_refl _) ?_
                exact rfl
              refine ⟨?_, ?_⟩
              · intro a W K N hK
                have e21 : a.tmps[21]?.getD undef = .slice ao3 20 c3 := N.was' 21 _ (by kernel_rfl) rfl
                have eg : a.tmps[152]?.getD undef = .bool false := N.dep' 35 152 (by kernel_rfl)
                rw [if_pos (by rw [wanted_get (g := 35) (d := 152) rfl rfl eg]; decide)]
                clear eg
                go_simp
                refine hK _ _ (slotLe_refl _) ?_
                exact rfl
              refine ⟨?_, ?_⟩
              · intro a W K N hK
                have e153 : a.tmps[153]?.getD undef = _ := N.dep' 36 153 (by kernel_rfl)
                have eg : a.tmps[152]?.getD undef = .bool false := N.dep' 35 152 (by kernel_rfl)
                rw [if_pos (by rw [wanted_get (g := 35) (d := 152) rfl rfl eg]; decide)]
                clear eg
                have hcv := run_rd_any (HR3.out.below (below_undrew N.le))
                go_simp
                refine hK _ _ (slotLe_refl _) ?_
                exact rfl
              refine ⟨?_, ?_⟩
              · intro a W K N hK
                have eg : a.tmps[152]?.getD undef = .bool false := N.dep' 35 152 (by kernel_rfl)
                rw [if_pos (by rw [wanted_get (g := 35) (d := 152) rfl rfl eg]; decide)]
                clear eg
                have hmk := HMK.out W
                go_simp
                refine hK _ _ ((RowKit.Below.refl _ W).alloc (Nat.le_refl _) _) ?_
                exact EdMk.new W
              refine ⟨?_, ?_⟩
              · intro a W K N hK
                have e155 := Lib.hid (show (EdMk) (a.tmps[155]?.getD undef) W from N.dep' 38 155 (by kernel_rfl))
                have eg : a.tmps[152]?.getD undef = .bool false := N.dep' 35 152 (by kernel_rfl)
                rw [if_pos (by rw [wanted_get (g := 35) (d := 152) rfl rfl eg]; decide)]
                clear eg
                obtain ⟨B5, h5, h6⟩ := e155.out
                have hcv := run_rd_any h6
                go_simp
                refine hK _ _ (slotLe_refl _) ?_
                exact rfl
              refine ⟨?_, ?_⟩
              · intro a W K N hK
                have e154 := Lib.hid (show (fun v _ => v = .string ⟨(Ar.zeros 20).toArray⟩) (a.tmps[154]?.getD undef) W from N.dep' 37 154 (by kernel_rfl))
                have e156 := Lib.hid (show (fun v _ => v = .string ⟨(Ar.zeros 20).toArray⟩) (a.tmps[156]?.getD undef) W from N.dep' 39 156 (by kernel_rfl))
                have eg : a.tmps[152]?.getD undef = .bool false := N.dep' 35 152 (by kernel_rfl)
                rw [if_pos (by rw [wanted_get (g := 35) (d := 152) rfl rfl eg]; decide)]
                clear eg
                have e7 := e154.out
                have e8 := e156.out
                have hz := eqz20
                go_simp
                refine hK _ _ (slotLe_refl _) ?_
                exact rfl
              refine ⟨?_, ?_⟩
              · intro a W K N hK
                have e152 : a.tmps[152]?.getD undef = _ := N.dep' 35 152 (by kernel_rfl)
                have e157 := Lib.hid (show (fun v _ => v = .bool false) (a.tmps[157]?.getD undef) W from N.dep' 40 157 (by kernel_rfl))
                rw [if_pos (wanted_no rfl)]
                have e9 := e157.out
                go_simp
                refine hK _ _ (slotLe_refl _) ?_
                exact rfl
              refine ⟨?_, ?_⟩
              · intro a W K N hK
                have e158 : a.tmps[158]?.getD undef = _ := N.dep' 41 158 (by kernel_rfl)
                rw [if_pos (wanted_no rfl)]
                go_simp
                refine hK _ _ (slotLe_refl _) ?_
                exact rfl
              refine ⟨?_, ?_⟩
              · intro a W K N hK
                have e19 : a.tmps[19]?.getD undef = .slice ao2 n c2 := N.was' 19 _ (by kernel_rfl) rfl
                have eg : a.tmps[159]?.getD undef = .bool false := N.dep' 42 159 (by kernel_rfl)
                rw [if_pos (by rw [wanted_get (g := 42) (d := 159) rfl rfl eg]; decide)]
                clear eg
                go_simp
                refine hK _ _ (slotLe_refl _) ?_
                exact rfl
              refine ⟨?_, ?_⟩
              · intro a W K N hK
                have e160 : a.tmps[160]?.getD undef = _ := N.dep' 43 160 (by kernel_rfl)
                have eg : a.tmps[159]?.getD undef = .bool false := N.dep' 42 159 (by kernel_rfl)
                rw [if_pos (by rw [wanted_get (g := 42) (d := 159) rfl rfl eg]; decide)]
                clear eg
                go_simp
                refine hK _ _ (slotLe_refl _) ?_
                exact rfl
              refine ⟨?_, ?_⟩
              · intro a W K N hK
                have e0 : a.tmps[0]?.getD undef = .int .i64 (n : Int) := N.was' 0 _ (by kernel_rfl) rfl
                have eg : a.tmps[159]?.getD undef = .bool false := N.dep' 42 159 (by kernel_rfl)
                rw [if_pos (by rw [wanted_get (g := 42) (d := 159) rfl rfl eg]; decide)]
                clear eg
                go_simp
                refine hK _ _ (slotLe_refl _) ?_
                exact rfl
              refine ⟨?_, ?_⟩
              · intro a W K N hK
                have e161 : a.tmps[161]?.getD undef = _ := N.dep' 44 161 (by kernel_rfl)
                have e162 : a.tmps[162]?.getD undef = _ := N.dep' 45 162 (by kernel_rfl)
                have eg : a.tmps[159]?.getD undef = .bool false := N.dep' 42 159 (by kernel_rfl)
                rw [if_pos (by rw [wanted_get (g := 42) (d := 159) rfl rfl eg]; decide)]
                clear eg
                go_simp
                refine hK _ _ (slotLe_refl _) ?_
                exact rfl
              refine ⟨?_, ?_⟩
              · intro a W K N hK
                have e159 : a.tmps[159]?.getD undef = _ := N.dep' 42 159 (by kernel_rfl)
                have e163 : a.tmps[163]?.getD undef = _ := N.dep' 46 163 (by kernel_rfl)
                rw [if_pos (wanted_no rfl)]
                go_simp
                refine hK _ _ (slotLe_refl _) ?_
                exact rfl
              exact trivial
            case fin =>
              intro W hW
              simp only [FinAll, slotPhi, List.getD_cons_zero, List.getD_cons_succ, forall_eq, Act.put, List.setIfInBounds_toArray, List.set_cons_zero, List.set_cons_succ]
              repeat (intro _ _)
              have hbW := below_undrew hW
              go_wp2
              go_meet
              case rel => exact ⟨rfl, hbW⟩
        case rest =>
          obtain ⟨rfl, hb9⟩ := hcut
          replace H9 := Lib.hid (H9.out.after hb9)
          replace HR1 := Lib.hid (HR1.out.below hb9)
          replace HR2 := Lib.hid (HR2.out.below hb9)
          clear HR3 hb9 H8 H7 H6 H1 HMK
          go_wp2
          have HD := Lib.hid (show (edD n a size fb).length = n from edD_len fb fun e => fitsB_iff.1 (HFB.out ▸ e))
          go_loopw [23] (fun i wr => ∃ k : Nat, i = .int .i64 (k : Int) ∧ k ≤ n ∧ Hid (Mn A 2048 I ((xsB size).map encB) 5 (edL n a size fb) w wr) ∧ Hid (RdB (.slice ao1 ln c1) (edC size fb) wr) ∧ Hid (RdB (.slice ao2 n c2) (edD n a size fb) wr)) (fun i _ => n + 1 - (intOf i).toNat)
          case atStart => exact ⟨0, rfl, Nat.zero_le _, H9, HR1, HR2⟩
          case round =>
            obtain ⟨p, rfl, hp, H5, HS1, HS2⟩ := hrel
            clear H9 HR1 HR2
            by_cases hlt2 : p < n
            · obtain ⟨b, off, hao, hc⟩ := rdB_at HS2.out (by rw [HD.out]; exact hlt2)
              subst hao
              cases fb
              · have hval : (edD n a size false)[p]'(by rw [HD.out]; exact hlt2) = 0 := by simp [edD, Ar.zeros]
                rw [hval] at hc
                unfold encB at hc
                go_wp2
                go_roundw
                case rel => exact ⟨p + 1, by go_num, by omega, H5, HS1, HS2⟩
                case measure => simp [intOf]; omega
              · obtain ⟨f1, f2, f3, f4⟩ := fitsB_iff.1 HFB.out.symm
                obtain ⟨k0, rfl⟩ : ∃ k0 : Nat, a = (k0 : Int) := ⟨a.toNat, by omega⟩
                have hval := edD_at k0 size p hlt2 (by omega)
                have hidx : (edD n (k0 : Int) size true)[p]? = some ((edD n (k0 : Int) size true)[p]'(by rw [HD.out]; exact hlt2)) := List.getElem?_eq_getElem _
                rw [hval] at hidx
                have hidx2 := (Option.some.inj hidx).symm
                rw [hidx2] at hc
                clear hidx hidx2 hval f1 f2 f3 f4
                by_cases g1 : k0 ≤ p
                · by_cases g2 : p < k0 + size
                  · rw [if_pos ⟨g1, g2⟩] at hc
                    unfold encB at hc
                    go_wp2
                    go_roundw
                    case rel => exact ⟨p + 1, by go_num, by omega, H5, HS1, HS2⟩
                    case measure => simp [intOf]; omega
                  · rw [if_neg (fun e => g2 e.2)] at hc
                    unfold encB at hc
                    go_wp2
                    go_roundw
                    case rel => exact ⟨p + 1, by go_num, by omega, H5, HS1, HS2⟩
                    case measure => simp [intOf]; omega
                · rw [if_neg (fun e => g1 e.1)] at hc
                  unfold encB at hc
                  go_wp2
                  go_roundw
                  case rel => exact ⟨p + 1, by go_num, by omega, H5, HS1, HS2⟩
                  case measure => simp [intOf]; omega
            · have HAW := Lib.hid (show ∀ W, Mn A 2048 I ((xsB size).map encB) 5 (edL n a size fb) w W → Calls Tryd.prog 14 #[] W fun e w' => e = .returned (.bool true) ∧ Below w.heap.size w w' from fun W h =>
                (awake_any W h.hx.tab).mono fun e w' ⟨he, hb⟩ => ⟨he, h.bel.trans (hb.mono h.bel.size)⟩)
              cases fb
              · go_wp2_with (first
                  | (go_at_call 23; with_reducible refine (ed_write99 A I n size a w _ false H5.out).mono ?_; rintro e w10 ⟨rfl, h10⟩; have H10 := Lib.hid h10; clear h10)
                  | (go_at_call 14; with_reducible refine (HAW.out _ H10.out).mono ?_; rintro e w' ⟨rfl, hb⟩))
                go_ret
                exact ⟨rfl, hb⟩
              · have hv1 := run_rd_any HS1.out
                have hv2 := run_rd_any (rdB_block (c := size) H5.out.blk (xs_len size).symm)
                simp only [edC] at hv1
                go_wp2_with (first
                  | (go_at_call 23; with_reducible refine (ed_write99 A I n size a w _ true H5.out).mono ?_; rintro e w10 ⟨rfl, h10⟩; have H10 := Lib.hid h10; clear h10)
                  | (go_at_call 14; with_reducible refine (HAW.out _ H10.out).mono ?_; rintro e w' ⟨rfl, hb⟩))
                go_ret
                exact ⟨rfl, hb⟩
end Go.Proofs.YtdbaocphglijbaaDoor

/- ArenaMoves: the walk. -/
set_option maxRecDepth 100000
namespace Go.Proofs.YtdbaocphglijbaaDoor
open Go.RowKit Go.Shelf
attribute [local go_sem] Oper.semAt_some
structure MvSt (x : Nat → Prop) (A : Nat) (N : List Nat) (v1 v2 : Value) (L : List Bl) (w0 w : World) : Prop where
  hx : HX x A 2048 L w0.heap.size w
  r1 : RowIn x w0.heap.size 3 v1 ((List.range' 1 N.length).map encI) w
  r2 : RowIn x w0.heap.size 3 v2 (N.map encI) w
  ap : ∀ g, v1.ownBlock = some g → v2.ownBlock ≠ some g
  bel : Below w0.heap.size w0 w
  sm : ∀ n ∈ N, n ≤ 119
theorem MvSt.to {x : Nat → Prop} {A : Nat} {N : List Nat} {v1 v2 : Value} {L L' : List Bl} {w0 w w' : World} (h : MvSt x A N v1 v2 L w0 w) (k : LX x A 2048 L' w0.heap.size w w') : MvSt x A N v1 v2 L' w0 w' :=
  ⟨k.at_, h.r1.lx k, h.r2.lx k, h.ap, h.bel.trans k.below, h.sm⟩
theorem MvSt.after {x : Nat → Prop} {A : Nat} {N : List Nat} {v1 v2 : Value} {L : List Bl} {w0 w w' : World} (h : MvSt x A N v1 v2 L w0 w) (hb : Below w.heap.size w w') : MvSt x A N v1 v2 L w0 w' := h.to (h.hx.lx hb)
structure MvF (x : Nat → Prop) (A n : Nat) (N : List Nat) (v1 v2 b : Value) (d : List UInt8) (w0 w : World) : Prop where
  st : MvSt x A N v1 v2 (mvL 0 N ++ [(N.length + 1, Ar.zeros n)]) w0 w
  bs : RowIn x w0.heap.size 5 b (d.map encB) w
theorem MvF.put {x : Nat → Prop} {A n g c q : Nat} {N : List Nat} {v1 v2 : Value} {d d' : List UInt8} {w0 w : World} (h : MvF x A n N v1 v2 (.slice (some ⟨g, 0, none⟩) q c) d w0 w) (i : Nat) (u : Value) (hd : (d.map encB).set i u = d'.map encB) : MvF x A n N v1 v2 (.slice (some ⟨g, 0, none⟩) q c) d' w0 (w.setCell ⟨g, i, none⟩ u) :=
  ⟨⟨h.st.hx.put (h.bs.isIn g rfl) i u, h.st.r1.other (rows_apart h.st.r1 h.bs (by decide) rfl) i u, h.st.r2.other (rows_apart h.st.r2 h.bs (by decide) rfl) i u, h.st.ap, h.st.bel.setCell (h.st.hx.xlow g (h.bs.isIn g rfl)) u, h.st.sm⟩, by rw [← hd]; exact h.bs.put i u⟩
theorem mv_start {x : Nat → Prop} {A n : Nat} {N : List Nat} {v1 v2 : Value} {w0 w : World} (h : MvSt x A N v1 v2 (mvL 0 N ++ [(N.length + 1, Ar.zeros n)]) w0 w) (hn : n ≤ 119) : MvF (fun k => x k ∨ k = w.heap.size) A n N v1 v2 (.slice (some ⟨w.heap.size, 0, none⟩) n n) (List.replicate 0 (chr N.length) ++ List.replicate (n - 0) 0) w0 (w.alloc (.cells (Array.replicate n (.int .u8 0)) 5)) := by
  have hb : Below w.heap.size w (w.alloc (.cells (Array.replicate n (.int .u8 0)) 5)) := (Below.refl _ w).alloc (Nat.le_refl _) _
  refine ⟨⟨h.hx.mine _, (h.r1.below hb).more (fun k e => .inl e), (h.r2.below hb).more (fun k e => .inl e), h.ap, h.bel.trans (hb.mono h.hx.low), h.sm⟩, ?_, fun k hk => by cases hk; exact .inr rfl⟩
  have := World.ownsRow_lit (base := w0.heap.size) (e := 5) (size := 1) w (Array.replicate n (.int .u8 0)) n h.hx.low (by unfold maxLen; omega) (by simp)
  rw [List.replicate_zero, List.nil_append, Nat.sub_zero, List.length_map, List.length_replicate, List.map_replicate]
  rw [Array.toList_replicate] at this
  exact this
theorem mv_begin {A : Nat} {w w1 : World} (h : HX (fun _ => False) A 2048 [] w.heap.size w1) (hb : Below w.heap.size w w1) : MvSt (fun _ => False) A [] (.slice none 0 0) (.slice none 0 0) (mvL 0 []) w w1 :=
  ⟨h, RowIn.nil _ _ _ _, RowIn.nil _ _ _ _, (fun g e => by simp [Value.ownBlock] at e), hb, (fun n hn => by cases hn)⟩
/-- Between the two appends. -/
structure MvA (x : Nat → Prop) (A n : Nat) (N : List Nat) (v1 v2 : Value) (w0 w : World) : Prop where
  hx : HX x A 2048 (mvL 0 (N ++ [n])) w0.heap.size w
  r1 : RowIn x w0.heap.size 3 v1 ((List.range' 1 (N.length + 1)).map encI) w
  r2 : RowIn x w0.heap.size 3 v2 (N.map encI) w
  ap : ∀ g, v1.ownBlock = some g → v2.ownBlock ≠ some g
  bel : Below w0.heap.size w0 w
  sm : ∀ n ∈ N, n ≤ 119
theorem mv_app1 {x : Nat → Prop} {A m n : Nat} {N : List Nat} {v1 v2 v' : Value} {w0 w w' : World} (h : MvSt x A N v1 v2 (mvL 0 (N ++ [n])) w0 w) (hm : m = N.length) (h1 : HX (fun j => x j ∨ v'.ownBlock = some j) A 2048 (mvL 0 (N ++ [n])) w0.heap.size w') (h2 : RowIn (fun j => x j ∨ v'.ownBlock = some j) w0.heap.size 3 v' ((List.range' 1 N.length ++ [m + 1]).map encI) w')
    (h3 : Below w0.heap.size w w') (h4 : ∀ j, j < w.heap.size → v1.ownBlock ≠ some j → w'.heap[j]? = w.heap[j]?) (h5 : v'.ownBlock = v1.ownBlock ∨ v'.ownBlock = some (w.heap.size + 1)) : MvA (fun j => x j ∨ v'.ownBlock = some j) A n N v' v2 w0 w' := by
  subst hm
  rw [rg_add] at h2
  refine ⟨h1, h2, (h.r2.same fun j hj => h4 j (h.r2.own.lt j hj).2 (fun e => h.ap j e hj)).more (fun k e => .inl e), fun g e e2 => ?_, h.bel.trans h3, h.sm⟩
  rcases h5 with h5 | h5
  · exact h.ap g (h5 ▸ e) e2
  · rw [h5] at e
    cases e
    have := (h.r2.own.lt _ e2).2
    omega
theorem mv_app2 {x : Nat → Prop} {A n : Nat} {N : List Nat} {v1 v2 v' : Value} {w0 w w' : World} (h : MvA x A n N v1 v2 w0 w) (hn : n ≤ 119) (h1 : HX (fun j => x j ∨ v'.ownBlock = some j) A 2048 (mvL 0 (N ++ [n])) w0.heap.size w') (h2 : RowIn (fun j => x j ∨ v'.ownBlock = some j) w0.heap.size 3 v' ((N ++ [n]).map encI) w')
    (h3 : Below w0.heap.size w w') (h4 : ∀ j, j < w.heap.size → v2.ownBlock ≠ some j → w'.heap[j]? = w.heap[j]?) (h5 : v'.ownBlock = v2.ownBlock ∨ v'.ownBlock = some (w.heap.size + 1)) : MvSt (fun j => x j ∨ v'.ownBlock = some j) A (N ++ [n]) v1 v' (mvL 0 (N ++ [n])) w0 w' := by
  refine ⟨h1, ?_, h2, fun g e e2 => ?_, h.bel.trans h3, fun k hk => ?_⟩
  · rw [List.length_append]
    exact (h.r1.same fun j hj => h4 j (h.r1.own.lt j hj).2 (fun e => h.ap j hj e)).more (fun k e => .inl e)
  · rcases h5 with h5 | h5
    · exact h.ap g e (h5 ▸ e2)
    · rw [h5] at e2
      cases e2
      have := (h.r1.own.lt _ e).2
      omega
  · rcases List.mem_append.1 hk with hk | hk
    · exact h.sm k hk
    · rw [List.mem_singleton] at hk; omega
theorem mv_len1 {m : Nat} {N : List Nat} (h : m = N.length) : ((List.range' 1 (N.length + 1)).map encI).length = m + 1 := by rw [rg_len, h]
theorem mv_len2 {m n : Nat} {N : List Nat} (h : m = N.length) : ((N ++ [n]).map encI).length = m + 1 := by simp [h]
theorem readO_below {v : Value} {l : List Bool} {W W' : World} (h : ReadO v l W) (hb : Below W.heap.size W W') : ReadO v l W' := by
  obtain ⟨ao, cap, rfl, hc⟩ := h.form
  exact ⟨ao, cap, rfl, fun j hj => by
    obtain ⟨b, off, e, c⟩ := hc j hj
    exact ⟨b, off, e, (hb.cell (cell_lt c)).trans c⟩⟩
theorem ReadO.form_at {ao : Option Addr} {cap n : Nat} {l : List Bool} {W : World} (h : ReadO (.slice ao n cap) l W) {k : Nat} (hk : k < l.length) : ∃ b off, ao = some ⟨b, off, none⟩ ∧ W.cell? ⟨b, off + k, none⟩ = some (.bool l[k]) := by
  obtain ⟨ao', cap', e, hc⟩ := h.form
  cases e
  exact hc k hk
theorem mv_big (x : Nat → Prop) (A n : Nat) (L : List Bl) (n0 : Nat) (w : World) (h : HX x A 2048 L n0 w) (hn : n ≤ 4096) (hc : sumC L + Ar.cost n ≤ 2048) :
    Calls Tryd.prog 17 #[.pointer (some ⟨A, 0, none⟩), .int .i64 (n : Int)] w fun e w' => ∃ (hh : Nat) (L' : List Bl), e = .returned (.tuple #[.int .i64 (hh : Int), .int .i64 0]) ∧ LX x A 2048 L' n0 w w' ∧ (hh, Ar.zeros n) ∈ L' ∧ sumC L' = sumC L + Ar.cost n ∧ ∀ b ∈ L, b ∈ L' := by
  refine (alloc_ok x A 2048 L n0 _ n w rfl h hn hc).mono fun e w' ⟨L1, L2, e1, _, he, hL⟩ => ?_
  subst e1
  refine ⟨_, _, he, hL, by simp, ?_, fun b hb => by rcases List.mem_append.1 hb with hb | hb <;> simp [hb]⟩
  rw [sumC_app, sumC_app, sumC_cons]
  simp only [zeros_len]
  omega
theorem mv_readz (x : Nat → Prop) (A n hh : Nat) (L : List Bl) (n0 : Nat) (w : World) (h : HX x A 2048 L n0 w) (hm : (hh, Ar.zeros n) ∈ L) :
    Calls Tryd.prog 21 #[.pointer (some ⟨A, 0, none⟩), .int .i64 (hh : Int), .int .i64 0, .int .i64 (n : Int)] w fun e w' => ∃ ao c, e = .returned (.tuple #[.slice ao n c, .int .i64 0]) ∧ RdB (.slice ao n c) (Ar.zeros n) w' ∧ LX x A 2048 L n0 w w' := by
  refine (read_ok x A 2048 L (hh, Ar.zeros n) n0 _ 0 (n : Int) 0 n w rfl rfl rfl hm h (by rw [zeros_len]; omega)).mono fun e w' ⟨v, he, hr, hL, hb⟩ => ?_
  have e1 : ((Ar.zeros n).drop 0).take n = Ar.zeros n := by rw [List.drop_zero, List.take_of_length_le (by rw [zeros_len]; omega)]
  have hr2 : RdB v (Ar.zeros n) w' := RdB.own (base := w.heap.size) (by rw [zeros_len]; rw [e1] at hr; exact hr)
  obtain ⟨ao, c, rfl, _⟩ := hr2.form
  rw [zeros_len] at he hr2
  exact ⟨ao, c, he, hr2, hL⟩
theorem mv_readq {x : Nat → Prop} {A q n : Nat} {N : List Nat} {v1 v2 : Value} {L : List Bl} {w0 w : World} (h : MvSt x A N v1 v2 L w0 w) (hm : (q + 1, List.replicate n (chr q)) ∈ L) : ∀ W, Below w.heap.size w W → Calls Tryd.prog 21 #[.pointer (some ⟨A, 0, none⟩), .int .i64 ((q : Int) + 1), .int .i64 0, .int .i64 (n : Int)] W fun e w' => ∃ ao c, e = .returned (.tuple #[.slice ao n c, .int .i64 0]) ∧ RdB (.slice ao n c) (List.replicate n (chr q)) w' ∧ Below W.heap.size W w' := fun W hb => by
  refine (read_ok x A 2048 L (q + 1, List.replicate n (chr q)) w0.heap.size _ 0 (n : Int) 0 n W (by norm_cast) rfl rfl hm (h.after hb).hx (by simp)).mono fun e w' ⟨v, he, hr, hL, hb⟩ => ?_
  have e1 : ((List.replicate n (chr q)).drop 0).take n = List.replicate n (chr q) := by rw [List.drop_zero, List.take_of_length_le (by simp)]
  have hr2 : RdB v (List.replicate n (chr q)) w' := RdB.own (base := W.heap.size) (by rw [List.length_replicate]; rw [e1] at hr; exact hr)
  obtain ⟨ao, c, rfl, _⟩ := hr2.form
  rw [List.length_replicate] at he hr2
  exact ⟨ao, c, he, hr2, hb⟩
def MvT (n : Nat) (d : List UInt8) (v : Value) (W : World) : Prop := ∃ ao c, v = .tuple #[.slice ao n c, .int .i64 0] ∧ RdB (.slice ao n c) d W
def MvV (n : Nat) (d : List UInt8) (v : Value) (W : World) : Prop := ∃ ao c, v = .slice ao n c ∧ RdB (.slice ao n c) d W
theorem MvT.below {n : Nat} {d : List UInt8} {v : Value} {x y : World} (h : MvT n d v x) (hb : slotLe x y) : MvT n d v y := by
  obtain ⟨ao, c, e, hr⟩ := h
  exact ⟨ao, c, e, hr.below hb⟩
theorem MvV.below {n : Nat} {d : List UInt8} {v : Value} {x y : World} (h : MvV n d v x) (hb : slotLe x y) : MvV n d v y := by
  obtain ⟨ao, c, e, hr⟩ := h
  exact ⟨ao, c, e, hr.below hb⟩
set_option maxHeartbeats 64000000 in
theorem moves_in (sizes : List Int) (sv : Value) (gone : List Bool) (gv : Value) (big : Int) (w : World) (hT : TabOk w) (hg : ReadI sv sizes w) (hz : ∀ z ∈ sizes, -9223372036854775808 ≤ z ∧ z ≤ 9223372036854775807) (hl : sizes.length ≤ 60) (hg2 : ReadO gv gone w) (hl2 : gone.length ≤ 80) (hb1 : -9223372036854775808 ≤ big) (hb2 : big ≤ 9223372036854775807) :
    Calls Tryd.prog 4 #[sv, gv, .int .i64 big] w fun e w' => e = .returned (.bool true) ∧ Below w.heap.size w w' := by
  have HT := Lib.hid hT
  have HG := Lib.hid hg
  have HG2 := Lib.hid hg2
  have HZ := Lib.hid hz
  obtain ⟨ao, cap, rfl, _⟩ := hg.form
  obtain ⟨ga, gcap, rfl, _⟩ := hg2.form
  clear hT hg hz hg2
  have n1 : ¬ 60 < sizes.length := by omega
  have n2 : ¬ 80 < gone.length := by omega
  go_enter Tryd.func4, Tryd.ntmps4
  go_upto_block 0 with (go_at_call 15; with_reducible refine (mv_new _ HT.out).mono ?_; rintro e w1 ⟨A, rfl, hA1, hb1⟩; have HS0 := Lib.hid (mv_begin hA1 hb1); clear hA1 hb1)
  go_cut [9, 10] from 47 to 91 (fun h n wx => ∃ (N : List Nat) (c1 c2 : Nat) (ao1 ao2 : Option Addr) (x : Nat → Prop), h = .slice ao1 N.length c1 ∧ n = .slice ao2 N.length c2 ∧ N.length ≤ 60 ∧ Hid (MvSt x A N (.slice ao1 N.length c1) (.slice ao2 N.length c2) (mvL 0 N) w wx))
  case first =>
    go_wp2_with fail
    go_loopw [9, 10, 11] (fun h nn i wr => ∃ (m : Nat) (N : List Nat) (c1 c2 : Nat) (ao1 ao2 : Option Addr) (x : Nat → Prop), h = .slice ao1 m c1 ∧ nn = .slice ao2 m c2 ∧ i = .int .i64 (m : Int) ∧ m ≤ sizes.length ∧ Hid (m = N.length) ∧ Hid (MvSt x A N (.slice ao1 m c1) (.slice ao2 m c2) (mvL 0 N) w wr)) (fun _ _ i _ => sizes.length + 1 - (intOf i).toNat)
    case atStart => exact ⟨0, [], 0, 0, none, none, _, rfl, rfl, rfl, Nat.zero_le _, Lib.hid rfl, HS0⟩
    case round =>
      obtain ⟨m, N, c1, c2, ao1, ao2, x, rfl, rfl, rfl, hm, HM, HS⟩ := hrel
      clear HS0
      by_cases hlt : m < sizes.length
      · obtain ⟨b, off, hao, hgc⟩ := (readI_below HG.out HS.out.bel).form_at hlt
        have hzk := HZ.out _ (List.getElem_mem hlt)
        have hrb := roundI_bounds sizes[m] 120 (by omega)
        obtain ⟨n, hn⟩ : ∃ n : Nat, roundI sizes[m] 120 = (n : Int) := ⟨(roundI sizes[m] 120).toNat, by omega⟩
        have HR := Lib.hid (fun W => by have h := round_any sizes[m] 120 W (by omega) (by omega) hzk.1 hzk.2; rw [hn] at h; exact h)
        have hn2 : n ≤ 119 := by omega
        clear hrb hn hzk
        subst hao
        have HAL := Lib.hid (by have h := mv_alloc x A n N _ _ HS.out.hx HS.out.sm hn2; rw [← HM.out] at h; exact h)
        have hmk := fun W => (by have h := make_one (e := 5) Tryd.underlying34 infoU8 (by decide) rfl (n : Int) n rfl (by omega) W; rw [List.toArray_replicate] at h; exact h : (Instr.makeSlice 34 (.int .i64 (n : Int)) (.int .i64 (n : Int))).run Tryd.prog W = .ok (.slice (some ⟨W.heap.size, 0, none⟩) n n) (W.alloc (.cells (Array.replicate n (.int .u8 0)) 5)))
        go_wp2_with (first
          | (go_at_call 28; with_reducible refine (HR.out _).mono ?_; rintro e w' ⟨rfl, rfl⟩)
          | (go_at_call 17; with_reducible refine HAL.out.mono ?_; rintro e w4 (⟨rfl, rfl⟩ | ⟨rfl, h4⟩)))
        · go_meet
          case rel => exact ⟨N, c1, c2, ao1, ao2, x, by rw [← HM.out], by rw [← HM.out], by have := HM.out; omega, by rw [← HM.out]; exact HS⟩
        · have H4 := Lib.hid (HS.out.to (by rw [HM.out] at h4; exact h4))
          clear h4
          have HF0 := Lib.hid (mv_start H4.out hn2)
          clear hmk HAL HR H4 HS
          generalize World.alloc w4 _ = W5 at HF0 ⊢
          generalize w4.heap.size = Bk at HF0 ⊢
          have hmn : N.length = m := HM.out.symm
          have hm60 : m ≤ 60 := by omega
          have HCH := Lib.hid (encB_chr (s := N.length) (by omega))
          rw [hmn] at HCH HF0
          clear hmn
          go_loopw [16] (fun i wr => ∃ k : Nat, i = .int .i64 (k : Int) ∧ k ≤ n ∧ Hid (MvF (fun k => x k ∨ k = Bk) A n N (.slice ao1 m c1) (.slice ao2 m c2) (.slice (some ⟨Bk, 0, none⟩) n n) (List.replicate k (chr m) ++ List.replicate (n - k) 0) w wr)) (fun i _ => n + 1 - (intOf i).toNat)
          case atStart => exact ⟨0, rfl, Nat.zero_le _, HF0⟩
          case round =>
            obtain ⟨k, rfl, hk, HF⟩ := hrel
            clear HF0
            by_cases hlt3 : k < n
            · obtain ⟨g, hg2, hcell, hfr, _, _⟩ := HF.out.bs.at_ (zz_at hlt3)
              cases hg2
              go_wp2
              go_roundw
              case rel => exact ⟨k + 1, by go_num, by omega, Lib.hid (HF.out.put k _ (by rw [← HCH.out]; exact zz_step hlt3))⟩
              case measure => simp [intOf]; omega
            · have hkn : k = n := by omega
              subst hkn
              have HFB := Lib.hid (by have h := HF.out.bs; rw [Nat.sub_self, List.replicate_zero, List.append_nil] at h; exact h)
              have HFS := Lib.hid HF.out.st
              clear HF hk HCH
              go_upto_region 20 with (go_at_call 23; with_reducible refine (mv_write _ A k N _ _ _ _ _ (by rw [← HM.out]) HFS.out.hx HFB.out (by rw [← HM.out])).mono ?_; rintro e w7 ⟨rfl, h7⟩; have H7 := Lib.hid (HFS.out.to h7); clear h7)
              have hl1 : (List.range' 1 N.length).length ≤ 900000 := by rw [← HM.out]; simp; omega
              have hl2' : N.length ≤ 900000 := by rw [← HM.out]; omega
              have HL1 := Lib.hid hl1
              have HL2 := Lib.hid hl2'
              clear hl1 hl2'
              go_wp2_with (first
                | (at_builtin; refine wpList_apdI2 rfl _ _ rfl rfl w7 rfl H7.out.hx H7.out.r1 HL1.out (m + 1) _ rfl (by unfold encI; norm_cast) rfl ?_; intro v8 w8 hx8 r8 b8 s8 loc8; have H8 := Lib.hid (mv_app1 H7.out HM.out hx8 r8 b8 s8 loc8); obtain ⟨ao8, c8, hv8, _⟩ := H8.out.r1.form; rw [mv_len1 HM.out] at hv8; subst hv8; clear hx8 r8 b8 s8 loc8)
                | (at_builtin; refine wpList_apdI2 rfl _ _ rfl rfl w8 rfl H8.out.hx H8.out.r2 HL2.out k _ rfl rfl rfl ?_; intro v9 w9 hx9 r9 b9 s9 loc9; have H9 := Lib.hid (mv_app2 H8.out hn2 hx9 r9 b9 s9 loc9); obtain ⟨ao9, c9, hv9, _⟩ := H9.out.r2.form; rw [mv_len2 HM.out] at hv9; subst hv9; clear hx9 r9 b9 s9 loc9))
              go_roundw
              case rel => exact ⟨m + 1, N ++ [k], c8, c9, ao8, ao9, _, by go_num, by go_num, by go_num, by omega, Lib.hid (by rw [List.length_append, ← HM.out]; rfl), H9⟩
              case measure => simp [intOf]; omega
      · go_wp2
        go_meet
        case rel => exact ⟨N, c1, c2, ao1, ao2, x, by rw [← HM.out], by rw [← HM.out], by have := HM.out; omega, by rw [← HM.out]; exact HS⟩
  case rest =>
    obtain ⟨N, c1, c2, ao1, ao2, x, rfl, rfl, hN, HS⟩ := hcut
    clear HS0
    go_wp2
    go_loopw [17] (fun i wr => ∃ (q : Nat) (L' : List Bl), i = .int .i64 (q : Int) ∧ q ≤ N.length ∧ Hid (Rest N gone q L') ∧ Hid (MvSt x A N (.slice ao1 N.length c1) (.slice ao2 N.length c2) L' w wr)) (fun i _ => N.length + 1 - (intOf i).toNat)
    case atStart => exact ⟨0, mvL 0 N, rfl, Nat.zero_le _, Lib.hid (Rest.start N gone), HS⟩
    case round =>
      obtain ⟨q, L3, rfl, hq, HRE, H3⟩ := hrel
      clear HS
      by_cases hlt : q < N.length
      · by_cases hlg : q < gone.length
        · obtain ⟨b, off, hga, hgc⟩ := (readO_below HG2.out H3.out.bel).form_at hlg
          subst hga
          rcases Bool.eq_false_or_eq_true gone[q] with hgq | hgq
          · have HGQ := Lib.hid (show gone[q]? = some true by rw [List.getElem?_eq_getElem hlg, hgq])
            rw [hgq] at hgc
            clear hgq
            obtain ⟨g, hg2, hcell, _, _, _⟩ := H3.out.r1.at_ (rg_at hlt)
            subst hg2
            go_wp2_with (go_at_call 19; with_reducible refine (mv_free x A N gone q L3 _ _ _ rfl H3.out.hx HRE.out hlt HGQ.out).mono ?_; rintro e w5 ⟨rfl, L5, h5, hr5⟩; have H5 := Lib.hid (H3.out.to h5); have HR5 := Lib.hid hr5; clear h5 hr5)
            go_roundw
            case rel => exact ⟨q + 1, L5, by go_num, by omega, HR5, H5⟩
            case measure => simp [intOf]; omega
          · have HGQ := Lib.hid (show gone[q]? ≠ some true by rw [List.getElem?_eq_getElem hlg, hgq]; simp)
            rw [hgq] at hgc
            clear hgq
            go_wp2
            go_roundw
            case rel => exact ⟨q + 1, L3, by go_num, by omega, Lib.hid (HRE.out.skip HGQ.out), H3⟩
            case measure => simp [intOf]; omega
        · have HGQ := Lib.hid (show gone[q]? ≠ some true by rw [List.getElem?_eq_none (by omega)]; simp)
          go_wp2
          go_roundw
          case rel => exact ⟨q + 1, L3, by go_num, by omega, Lib.hid (HRE.out.skip HGQ.out), H3⟩
          case measure => simp [intOf]; omega
      · have hrb := roundI_bounds big 2040 (by omega)
        obtain ⟨n, hn⟩ : ∃ n : Nat, roundI big 2040 = (n : Int) := ⟨(roundI big 2040).toNat, by omega⟩
        have HR := Lib.hid (fun W => by have h := round_any big 2040 W (by omega) (by omega) hb1 hb2; rw [hn] at h; exact h)
        have hn2 : n ≤ 2039 := by omega
        clear hrb hn
        have HRE2 := Lib.hid (show Rest N gone N.length L3 by have := HRE.out; rwa [show q = N.length by omega] at this)
        obtain ⟨cc, hcc⟩ : ∃ cc, Ar.cost n = cc := ⟨_, rfl⟩
        have hcc2 : cc ≤ 2048 ∧ 16 ≤ cc := by rw [← hcc]; unfold Ar.cost; (repeat' split) <;> omega
        have HCO := Lib.hid (fun W => by have h := cost_any (n : Int) W; rw [Ar.costI_nat (by omega), hcc] at h; exact h)
        have hsl := H3.out.hx.sum_le.1
        obtain ⟨lf, hlf⟩ : ∃ lf, 2048 - sumC L3 = lf := ⟨_, rfl⟩
        have HLF := Lib.hid (fun W h => by have k := left_x x A 2048 L3 w.heap.size W h; rw [hlf] at k; exact k)
        have hlf2 : lf ≤ 2048 := by omega
        have HMK := Lib.hid (fun W => by have h := make_one (e := 5) Tryd.underlying34 infoU8 (by decide) rfl (n : Int) n rfl (by omega) W; rw [List.toArray_replicate] at h; exact h)
        by_cases hc : cc ≤ lf
        · have HAL := Lib.hid (mv_big x A n L3 _ _ H3.out.hx (by omega) (by rw [hcc]; omega))
          obtain ⟨l2, hl2'⟩ : ∃ l2 : Nat, (l2 : Int) = (lf : Int) - (cc : Int) := ⟨lf - cc, by omega⟩
          have HL2 := Lib.hid (show ∀ W L4, sumC L4 = sumC L3 + Ar.cost n → HX x A 2048 L4 w.heap.size W → Calls Tryd.prog 29 #[.pointer (some ⟨A, 0, none⟩)] W fun e w' => e = .returned (.int .i64 ((lf : Int) - (cc : Int))) ∧ W = w' from fun W L4 hs h => by have k := left_x x A 2048 L4 w.heap.size W h; rw [hs, hcc, show 2048 - (sumC L3 + cc) = lf - cc by omega, show ((lf - cc : Nat) : Int) = (lf : Int) - (cc : Int) by omega] at k; exact k)
          clear hl2' hcc hlf hsl
          go_wp2_with (first
            | (go_at_call 28; with_reducible refine (HR.out _).mono ?_; rintro e w' ⟨rfl, rfl⟩)
            | (go_at_call 29; with_reducible refine (HLF.out _ H3.out.hx).mono ?_; rintro e w' ⟨rfl, rfl⟩)
            | (go_at_call 17; with_reducible refine HAL.out.mono ?_; rintro e w4 ⟨hh, L4, rfl, h4, hm4, hs4, hq4⟩; have H4 := Lib.hid (H3.out.to h4); have HM4 := Lib.hid hm4; have HS4 := Lib.hid hs4; have HQ4 := Lib.hid hq4; clear h4 hm4 hs4 hq4)
            | (go_at_call 30; with_reducible refine (HCO.out _).mono ?_; rintro e w' ⟨rfl, rfl⟩)
            | (go_at_call 21; with_reducible refine (mv_readz x A n hh L4 _ _ H4.out.hx HM4.out).mono ?_; rintro e w5 ⟨ao5, c5, rfl, r5, h5⟩; have H5 := Lib.hid (H4.out.to h5); have HB5 := Lib.hid r5; clear h5 r5))
          have hsub : IntKind.i64.wrap ((lf : Int) - (cc : Int)) = (lf : Int) - (cc : Int) := IntWalk.i64_in _ (by omega)
          refine wp_region_slots slotLe (slotPhi ((fun v _ => v = ?v151) :: (fun v _ => v = ?v152) :: (fun v _ => v = ?v153) :: (fun v _ => v = ?v154) :: (fun v _ => v = .string ⟨(Ar.zeros n).toArray⟩) :: (fun v _ => v = ?v156) :: (MkZ n) :: (fun v _ => v = .string ⟨(Ar.zeros n).toArray⟩) :: (fun v _ => v = .bool false) :: (fun v _ => v = ?v160) :: (fun v _ => v = ?v161) :: (fun v _ => v = ?v162) :: (fun v _ => v = ?v163) :: (fun v _ => v = ?v164) :: (fun v _ => v = ?v165) :: (fun v _ => v = ?v166) :: (fun v _ => v = ?v167) :: (fun v _ => v = ?v168) :: (fun v _ => v = ?v169) :: [])) slotLe_refl slotLe_trans (slotPhi_stable ?stb) (by kernel_rfl) (by kernel_rfl) (by kernel_rfl) ?steps ?fin
          case stb =>
            refine ⟨by intro _ _ _ _ h; exact h, ?_⟩
            refine ⟨by intro _ _ _ _ h; exact h, ?_⟩
            refine ⟨by intro _ _ _ _ h; exact h, ?_⟩
            refine ⟨by intro _ _ _ _ h; exact h, ?_⟩
            refine ⟨by intro _ _ _ _ h; exact h, ?_⟩
            refine ⟨by intro _ _ _ _ h; exact h, ?_⟩
            refine ⟨fun _ _ _ h q => MkZ.below q h, ?_⟩
            refine ⟨by intro _ _ _ _ h; exact h, ?_⟩
            refine ⟨by intro _ _ _ _ h; exact h, ?_⟩
            refine ⟨by intro _ _ _ _ h; exact h, ?_⟩
            refine ⟨by intro _ _ _ _ h; exact h, ?_⟩
            refine ⟨by intro _ _ _ _ h; exact h, ?_⟩
            refine ⟨by intro _ _ _ _ h; exact h, ?_⟩
            refine ⟨by intro _ _ _ _ h; exact h, ?_⟩
            refine ⟨by intro _ _ _ _ h; exact h, ?_⟩
            refine ⟨by intro _ _ _ _ h; exact h, ?_⟩
            refine ⟨by intro _ _ _ _ h; exact h, ?_⟩
            refine ⟨by intro _ _ _ _ h; exact h, ?_⟩
            refine ⟨by intro _ _ _ _ h; exact h, ?_⟩
            exact trivial
          case steps =>
            refine ⟨?_, ?_⟩
            · intro a W K N_ hK
              have e23 : a.tmps[23]?.getD undef = .int .i64 0 := N_.was' 23 _ (by kernel_rfl) rfl
              rw [if_pos (wanted_no rfl)]
              go_simp
              refine hK _ _ (slotLe_refl _) ?_
              exact rfl
            refine ⟨?_, ?_⟩
            · intro a W K N_ hK
              have e151 : a.tmps[151]?.getD undef = _ := N_.dep' 0 151 (by kernel_rfl)
              rw [if_pos (wanted_no rfl)]
              go_simp
              refine hK _ _ (slotLe_refl _) ?_
              exact rfl
            refine ⟨?_, ?_⟩
            · intro a W K N_ hK
              have e152 : a.tmps[152]?.getD undef = _ := N_.dep' 1 152 (by kernel_rfl)
              rw [if_pos (wanted_no rfl)]
              go_simp
              refine hK _ _ (slotLe_refl _) ?_
              exact rfl
            refine ⟨?_, ?_⟩
            · intro a W K N_ hK
              have e22 : a.tmps[22]?.getD undef = .slice ao5 n c5 := N_.was' 22 _ (by kernel_rfl) rfl
              have eg : a.tmps[153]?.getD undef = .bool false := N_.dep' 2 153 (by kernel_rfl)
              rw [if_pos (by rw [wanted_get (g := 2) (d := 153) rfl rfl eg]; decide)]
              clear eg
              go_simp
              refine hK _ _ (slotLe_refl _) ?_
              exact rfl
            refine ⟨?_, ?_⟩
            · intro a W K N_ hK
              have e154 : a.tmps[154]?.getD undef = _ := N_.dep' 3 154 (by kernel_rfl)
              have eg : a.tmps[153]?.getD undef = .bool false := N_.dep' 2 153 (by kernel_rfl)
              rw [if_pos (by rw [wanted_get (g := 2) (d := 153) rfl rfl eg]; decide)]
              clear eg
              have hcv := run_rd_any (HB5.out.below (below_undrew N_.le))
              go_simp
              refine hK _ _ (slotLe_refl _) ?_
              exact rfl
            refine ⟨?_, ?_⟩
            · intro a W K N_ hK
              have e18 : a.tmps[18]?.getD undef = .int .i64 (n : Int) := N_.was' 18 _ (by kernel_rfl) rfl
              have eg : a.tmps[153]?.getD undef = .bool false := N_.dep' 2 153 (by kernel_rfl)
              rw [if_pos (by rw [wanted_get (g := 2) (d := 153) rfl rfl eg]; decide)]
              clear eg
              go_simp
              refine hK _ _ (slotLe_refl _) ?_
              exact rfl
            refine ⟨?_, ?_⟩
            · intro a W K N_ hK
              have e156 : a.tmps[156]?.getD undef = _ := N_.dep' 5 156 (by kernel_rfl)
              have eg : a.tmps[153]?.getD undef = .bool false := N_.dep' 2 153 (by kernel_rfl)
              rw [if_pos (by rw [wanted_get (g := 2) (d := 153) rfl rfl eg]; decide)]
              clear eg
              have hmk := HMK.out W
              go_simp
              refine hK _ _ ((RowKit.Below.refl _ W).alloc (Nat.le_refl _) _) ?_
              exact MkZ.new n W
            refine ⟨?_, ?_⟩
            · intro a W K N_ hK
              have e157 := Lib.hid (show (MkZ n) (a.tmps[157]?.getD undef) W from N_.dep' 6 157 (by kernel_rfl))
              have eg : a.tmps[153]?.getD undef = .bool false := N_.dep' 2 153 (by kernel_rfl)
              rw [if_pos (by rw [wanted_get (g := 2) (d := 153) rfl rfl eg]; decide)]
              clear eg
              obtain ⟨B5, h5, h6⟩ := e157.out
              have hcv := run_rd_any h6
              go_simp
              refine hK _ _ (slotLe_refl _) ?_
              exact rfl
            refine ⟨?_, ?_⟩
            · intro a W K N_ hK
              have e155 := Lib.hid (show (fun v _ => v = .string ⟨(Ar.zeros n).toArray⟩) (a.tmps[155]?.getD undef) W from N_.dep' 4 155 (by kernel_rfl))
              have e158 := Lib.hid (show (fun v _ => v = .string ⟨(Ar.zeros n).toArray⟩) (a.tmps[158]?.getD undef) W from N_.dep' 7 158 (by kernel_rfl))
              have eg : a.tmps[153]?.getD undef = .bool false := N_.dep' 2 153 (by kernel_rfl)
              rw [if_pos (by rw [wanted_get (g := 2) (d := 153) rfl rfl eg]; decide)]
              clear eg
              have e7 := e155.out
              have e8 := e158.out
              go_simp
              refine hK _ _ (slotLe_refl _) ?_
              exact rfl
            refine ⟨?_, ?_⟩
            · intro a W K N_ hK
              have e153 : a.tmps[153]?.getD undef = _ := N_.dep' 2 153 (by kernel_rfl)
              have e159 := Lib.hid (show (fun v _ => v = .bool false) (a.tmps[159]?.getD undef) W from N_.dep' 8 159 (by kernel_rfl))
              rw [if_pos (wanted_no rfl)]
              have e9 := e159.out
              go_simp
              refine hK _ _ (slotLe_refl _) ?_
              exact rfl
            refine ⟨?_, ?_⟩
            · intro a W K N_ hK
              have e160 : a.tmps[160]?.getD undef = _ := N_.dep' 9 160 (by kernel_rfl)
              rw [if_pos (wanted_no rfl)]
              go_simp
              refine hK _ _ (slotLe_refl _) ?_
              exact rfl
            refine ⟨?_, ?_⟩
            · intro a W K N_ hK
              have e7 : a.tmps[7]?.getD undef = .pointer (some ⟨A, 0, none⟩) := N_.was' 7 _ (by kernel_rfl) rfl
              have eg : a.tmps[161]?.getD undef = .bool false := N_.dep' 10 161 (by kernel_rfl)
              rw [if_pos (by rw [wanted_get (g := 10) (d := 161) rfl rfl eg]; decide)]
              clear eg
              go_simp
              refine hK _ _ (slotLe_refl _) ?_
              exact rfl
            refine ⟨?_, ?_⟩
            · intro a W K N_ hK
              have e162 : a.tmps[162]?.getD undef = _ := N_.dep' 11 162 (by kernel_rfl)
              have eg : a.tmps[161]?.getD undef = .bool false := N_.dep' 10 161 (by kernel_rfl)
              rw [if_pos (by rw [wanted_get (g := 10) (d := 161) rfl rfl eg]; decide)]
              clear eg
              go_simp
              go_at_call 29
              refine (HL2.out _ L4 HS4.out (H5.out.hx.after (below_undrew N_.le))).mono ?_
              rintro e w' ⟨rfl, rfl⟩
              refine hK _ _ (slotLe_refl _) ?_
              exact rfl
            refine ⟨?_, ?_⟩
            · intro a W K N_ hK
              have e19 : a.tmps[19]?.getD undef = .int .i64 (lf : Int) := N_.was' 19 _ (by kernel_rfl) rfl
              have eg : a.tmps[161]?.getD undef = .bool false := N_.dep' 10 161 (by kernel_rfl)
              rw [if_pos (by rw [wanted_get (g := 10) (d := 161) rfl rfl eg]; decide)]
              clear eg
              go_simp
              refine hK _ _ (slotLe_refl _) ?_
              exact rfl
            refine ⟨?_, ?_⟩
            · intro a W K N_ hK
              have e18 : a.tmps[18]?.getD undef = .int .i64 (n : Int) := N_.was' 18 _ (by kernel_rfl) rfl
              have eg : a.tmps[161]?.getD undef = .bool false := N_.dep' 10 161 (by kernel_rfl)
              rw [if_pos (by rw [wanted_get (g := 10) (d := 161) rfl rfl eg]; decide)]
              clear eg
              go_simp
              refine hK _ _ (slotLe_refl _) ?_
              exact rfl
            refine ⟨?_, ?_⟩
            · intro a W K N_ hK
              have e165 : a.tmps[165]?.getD undef = _ := N_.dep' 14 165 (by kernel_rfl)
              have eg : a.tmps[161]?.getD undef = .bool false := N_.dep' 10 161 (by kernel_rfl)
              rw [if_pos (by rw [wanted_get (g := 10) (d := 161) rfl rfl eg]; decide)]
              clear eg
              go_simp
              go_at_call 30
              refine (HCO.out _).mono ?_
              rintro e w' ⟨rfl, rfl⟩
              refine hK _ _ (slotLe_refl _) ?_
              exact rfl
            refine ⟨?_, ?_⟩
            · intro a W K N_ hK
              have e164 : a.tmps[164]?.getD undef = _ := N_.dep' 13 164 (by kernel_rfl)
              have e166 : a.tmps[166]?.getD undef = _ := N_.dep' 15 166 (by kernel_rfl)
              have eg : a.tmps[161]?.getD undef = .bool false := N_.dep' 10 161 (by kernel_rfl)
              rw [if_pos (by rw [wanted_get (g := 10) (d := 161) rfl rfl eg]; decide)]
              clear eg
              go_simp
              refine hK _ _ (slotLe_refl _) ?_
              exact rfl
            refine ⟨?_, ?_⟩
            · intro a W K N_ hK
              have e163 : a.tmps[163]?.getD undef = _ := N_.dep' 12 163 (by kernel_rfl)
              have e167 : a.tmps[167]?.getD undef = _ := N_.dep' 16 167 (by kernel_rfl)
              have eg : a.tmps[161]?.getD undef = .bool false := N_.dep' 10 161 (by kernel_rfl)
              rw [if_pos (by rw [wanted_get (g := 10) (d := 161) rfl rfl eg]; decide)]
              clear eg
              go_simp
              refine hK _ _ (slotLe_refl _) ?_
              exact rfl
            refine ⟨?_, ?_⟩
            · intro a W K N_ hK
              have e161 : a.tmps[161]?.getD undef = _ := N_.dep' 10 161 (by kernel_rfl)
              have e168 : a.tmps[168]?.getD undef = _ := N_.dep' 17 168 (by kernel_rfl)
              rw [if_pos (wanted_no rfl)]
              go_simp
              refine hK _ _ (slotLe_refl _) ?_
              exact rfl
            exact trivial
          case fin =>
            intro WX hW
            simp only [FinAll, slotPhi, List.getD_cons_zero, List.getD_cons_succ, forall_eq, Act.put, List.setIfInBounds_toArray, List.set_cons_zero, List.set_cons_succ]
            repeat (intro _ _)
            clear hsub
            have H8 := Lib.hid (H5.out.after (below_undrew hW))
            have HM8 := HQ4
            clear H5 H4 H3 HB5 hW HLF HAL HL2 HCO HMK HR HM4 HS4 HQ4
            go_wp2
            go_loopw [24] (fun i wr => ∃ q : Nat, i = .int .i64 (q : Int) ∧ q ≤ N.length ∧ Hid (MvSt x A N (.slice ao1 N.length c1) (.slice ao2 N.length c2) L4 w wr)) (fun i _ => N.length + 1 - (intOf i).toNat)
            case atStart => exact ⟨0, rfl, Nat.zero_le _, H8⟩
            case round =>
              clear H8
              obtain ⟨q, rfl, hq, H8⟩ := hrel
              by_cases hlt : q < N.length
              · by_cases hlg : q < gone.length
                · obtain ⟨b, off, hga, hgc⟩ := (readO_below HG2.out H8.out.bel).form_at hlg
                  subst hga
                  rcases Bool.eq_false_or_eq_true gone[q] with hgq | hgq
                  · rw [hgq] at hgc
                    clear hgq
                    go_wp2
                    go_roundw
                    case rel => exact ⟨q + 1, by go_num, by omega, H8⟩
                    case measure => simp [intOf]; omega
                  · have HSTAY := Lib.hid (show Stays gone N.length q from fun e => by have h2 := e.2; rw [List.getElem?_eq_getElem hlg, hgq] at h2; cases h2)
                    rw [hgq] at hgc
                    clear hgq
                    obtain ⟨nq, hnq⟩ : ∃ nq, N[q] = nq := ⟨_, rfl⟩
                    have hnq2 : N[q]? = some nq := by rw [List.getElem?_eq_getElem hlt, hnq]
                    have hn119 : nq ≤ 119 := by rw [← hnq]; exact H8.out.sm _ (List.getElem_mem _)
                    have HBM := Lib.hid (show (q + 1, List.replicate nq (chr q)) ∈ L4 from HM8.out _ ((HRE2.out.mem _).2 ⟨q, hlt, HSTAY.out, by rw [mvL_at N 0 q hlt, hnq]; simp⟩))
                    obtain ⟨g1, hg1, hcell1, _, _, _⟩ := H8.out.r1.at_ (rg_at hlt)
                    obtain ⟨g2, hg2, hcell2, _, _, _⟩ := H8.out.r2.at_ (i := q) (u := .int .i64 (nq : Int)) (by rw [List.getElem?_map, hnq2]; rfl)
                    subst hg1 hg2
                    have HC1 := Lib.hid hcell1
                    have HC2 := Lib.hid hcell2
                    have HCH := Lib.hid (encB_chr (s := q) (by omega))
                    have HRD := Lib.hid (mv_readq H8.out HBM.out)
                    clear hnq hnq2 hcell1 hcell2 HBM HSTAY
                    go_wp2
                    refine wp_region_slots slotLe (slotPhi ((fun v _ => v = ?pa187) :: (fun v _ => v = ?pa188) :: (fun v _ => v = ?pa189) :: (fun v _ => v = ?pa190) :: (fun v _ => v = ?pa191) :: (fun v _ => v = ?pa192) :: (fun v _ => v = ?pa193) :: (fun v _ => v = ?pa194) :: (fun v _ => v = ?pa195) :: (MvT nq (List.replicate nq (chr q))) :: (MvT nq (List.replicate nq (chr q))) :: (MvV nq (List.replicate nq (chr q))) :: (fun v _ => v = .int .i64 0) :: (MvV nq (List.replicate nq (chr q))) :: (fun v _ => v = .int .i64 0) :: [])) slotLe_refl slotLe_trans (slotPhi_stable ?stb) (by kernel_rfl) (by kernel_rfl) (by kernel_rfl) ?steps ?fin
                    case stb =>
                      refine ⟨by intro _ _ _ _ h; exact h, ?_⟩
                      refine ⟨by intro _ _ _ _ h; exact h, ?_⟩
                      refine ⟨by intro _ _ _ _ h; exact h, ?_⟩
                      refine ⟨by intro _ _ _ _ h; exact h, ?_⟩
                      refine ⟨by intro _ _ _ _ h; exact h, ?_⟩
                      refine ⟨by intro _ _ _ _ h; exact h, ?_⟩
                      refine ⟨by intro _ _ _ _ h; exact h, ?_⟩
                      refine ⟨by intro _ _ _ _ h; exact h, ?_⟩
                      refine ⟨by intro _ _ _ _ h; exact h, ?_⟩
                      refine ⟨fun _ _ _ h q => MvT.below q h, ?_⟩
                      refine ⟨fun _ _ _ h q => MvT.below q h, ?_⟩
                      refine ⟨fun _ _ _ h q => MvV.below q h, ?_⟩
                      refine ⟨by intro _ _ _ _ h; exact h, ?_⟩
                      refine ⟨fun _ _ _ h q => MvV.below q h, ?_⟩
                      refine ⟨by intro _ _ _ _ h; exact h, ?_⟩
                      exact trivial
                    case steps =>
                      refine ⟨?_, ?_⟩
                      · intro a W K N_ hK
                        have e7 : a.tmps[7]?.getD undef = .pointer (some ⟨A, 0, none⟩) := N_.was' 7 _ (by kernel_rfl) rfl
                        rw [if_pos (wanted_no rfl)]
                        go_simp
                        refine hK _ _ (slotLe_refl _) ?_
                        exact rfl
                      refine ⟨?_, ?_⟩
                      · intro a W K N_ hK
                        have e9 : a.tmps[9]?.getD undef = .slice (some ⟨g1, 0, none⟩) N.length c1 := N_.was' 9 _ (by kernel_rfl) rfl
                        rw [if_pos (wanted_no rfl)]
                        go_simp
                        refine hK _ _ (slotLe_refl _) ?_
                        exact rfl
                      refine ⟨?_, ?_⟩
                      · intro a W K N_ hK
                        have e24 : a.tmps[24]?.getD undef = .int .i64 (q : Int) := N_.was' 24 _ (by kernel_rfl) rfl
                        rw [if_pos (wanted_no rfl)]
                        go_simp
                        refine hK _ _ (slotLe_refl _) ?_
                        exact rfl
                      refine ⟨?_, ?_⟩
                      · intro a W K N_ hK
                        have e188 : a.tmps[188]?.getD undef = _ := N_.dep' 1 188 (by kernel_rfl)
                        have e189 : a.tmps[189]?.getD undef = _ := N_.dep' 2 189 (by kernel_rfl)
                        rw [if_pos (wanted_no rfl)]
                        go_simp
                        refine hK _ _ (slotLe_refl _) ?_
                        exact rfl
                      refine ⟨?_, ?_⟩
                      · intro a W K N_ hK
                        have e190 : a.tmps[190]?.getD undef = _ := N_.dep' 3 190 (by kernel_rfl)
                        rw [if_pos (wanted_no rfl)]
                        have hc9 := ((below_undrew N_.le).cell (p := ⟨g1, q, none⟩) (cell_lt HC1.out)).trans HC1.out
                        go_simp
                        refine hK _ _ (slotLe_refl _) ?_
                        exact rfl
                      refine ⟨?_, ?_⟩
                      · intro a W K N_ hK
                        have e10 : a.tmps[10]?.getD undef = .slice (some ⟨g2, 0, none⟩) N.length c2 := N_.was' 10 _ (by kernel_rfl) rfl
                        rw [if_pos (wanted_no rfl)]
                        go_simp
                        refine hK _ _ (slotLe_refl _) ?_
                        exact rfl
                      refine ⟨?_, ?_⟩
                      · intro a W K N_ hK
                        have e24 : a.tmps[24]?.getD undef = .int .i64 (q : Int) := N_.was' 24 _ (by kernel_rfl) rfl
                        rw [if_pos (wanted_no rfl)]
                        go_simp
                        refine hK _ _ (slotLe_refl _) ?_
                        exact rfl
                      refine ⟨?_, ?_⟩
                      · intro a W K N_ hK
                        have e192 : a.tmps[192]?.getD undef = _ := N_.dep' 5 192 (by kernel_rfl)
                        have e193 : a.tmps[193]?.getD undef = _ := N_.dep' 6 193 (by kernel_rfl)
                        rw [if_pos (wanted_no rfl)]
                        go_simp
                        refine hK _ _ (slotLe_refl _) ?_
                        exact rfl
                      refine ⟨?_, ?_⟩
                      · intro a W K N_ hK
                        have e194 : a.tmps[194]?.getD undef = _ := N_.dep' 7 194 (by kernel_rfl)
                        rw [if_pos (wanted_no rfl)]
                        have hc9 := ((below_undrew N_.le).cell (p := ⟨g2, q, none⟩) (cell_lt HC2.out)).trans HC2.out
                        go_simp
                        refine hK _ _ (slotLe_refl _) ?_
                        exact rfl
                      refine ⟨?_, ?_⟩
                      · intro a W K N_ hK
                        have e187 : a.tmps[187]?.getD undef = _ := N_.dep' 0 187 (by kernel_rfl)
                        have e191 : a.tmps[191]?.getD undef = _ := N_.dep' 4 191 (by kernel_rfl)
                        have e195 : a.tmps[195]?.getD undef = _ := N_.dep' 8 195 (by kernel_rfl)
                        rw [if_pos (wanted_no rfl)]
                        go_simp
                        go_at_call 21
                        refine (HRD.out _ (below_undrew N_.le)).mono ?_
                        rintro e w' ⟨ao6, c6, rfl, r6, hb6⟩
                        refine hK _ _ hb6 ?_
                        exact ⟨ao6, c6, rfl, r6⟩
                      refine ⟨?_, ?_⟩
                      · intro a W K N_ hK
                        have e196 := Lib.hid (show (MvT nq (List.replicate nq (chr q))) (a.tmps[196]?.getD undef) W from N_.dep' 9 196 (by kernel_rfl))
                        rw [if_pos (wanted_no rfl)]
                        obtain ⟨ao6, c6, h6, r6⟩ := e196.out
                        go_simp
                        refine hK _ _ (slotLe_refl _) ?_
                        exact ⟨ao6, c6, rfl, r6⟩
                      refine ⟨?_, ?_⟩
                      · intro a W K N_ hK
                        have e186 := Lib.hid (show (MvT nq (List.replicate nq (chr q))) (a.tmps[186]?.getD undef) W from N_.dep' 10 186 (by kernel_rfl))
                        rw [if_pos (wanted_no rfl)]
                        obtain ⟨ao6, c6, h6, r6⟩ := e186.out
                        go_simp
                        refine hK _ _ (slotLe_refl _) ?_
                        exact ⟨ao6, c6, rfl, r6⟩
                      refine ⟨?_, ?_⟩
                      · intro a W K N_ hK
                        have e186 := Lib.hid (show (MvT nq (List.replicate nq (chr q))) (a.tmps[186]?.getD undef) W from N_.dep' 10 186 (by kernel_rfl))
                        rw [if_pos (wanted_no rfl)]
                        obtain ⟨ao6, c6, h6, r6⟩ := e186.out
                        go_simp
                        refine hK _ _ (slotLe_refl _) ?_
                        exact rfl
                      refine ⟨?_, ?_⟩
                      · intro a W K N_ hK
                        have e197 := Lib.hid (show (MvV nq (List.replicate nq (chr q))) (a.tmps[197]?.getD undef) W from N_.dep' 11 197 (by kernel_rfl))
                        rw [if_pos (wanted_no rfl)]
                        obtain ⟨ao6, c6, h6, r6⟩ := e197.out
                        go_simp
                        refine hK _ _ (slotLe_refl _) ?_
                        exact ⟨ao6, c6, rfl, r6⟩
                      refine ⟨?_, ?_⟩
                      · intro a W K N_ hK
                        have e198 := Lib.hid (show (fun v _ => v = .int .i64 0) (a.tmps[198]?.getD undef) W from N_.dep' 12 198 (by kernel_rfl))
                        rw [if_pos (wanted_no rfl)]
                        have e9 := e198.out
                        go_simp
                        refine hK _ _ (slotLe_refl _) ?_
                        exact rfl
                      exact trivial
                    case fin =>
                      intro WX hW
                      simp only [FinAll, slotPhi, List.getD_cons_zero, List.getD_cons_succ, forall_eq, Act.put, List.setIfInBounds_toArray, List.set_cons_zero, List.set_cons_succ]
                      intro v196 h196 v186 h186 v197 h197 v25 h25
                      obtain ⟨ao7, c7, rfl, r7⟩ := h25
                      have H9 := Lib.hid (H8.out.after (below_undrew hW))
                      have HR7 := Lib.hid r7
                      have hc2 := ((below_undrew hW).cell (p := ⟨g2, q, none⟩) (cell_lt HC2.out)).trans HC2.out
                      have HC9 := Lib.hid hc2
                      clear h196 h186 h197 r7 hW
                      go_wp2
                      go_loopw [27] (fun i wr => ∃ k : Nat, i = .int .i64 (k : Int) ∧ k ≤ nq ∧ Hid (MvSt x A N (.slice (some ⟨g1, 0, none⟩) N.length c1) (.slice (some ⟨g2, 0, none⟩) N.length c2) L4 w wr) ∧ Hid (RdB (.slice ao7 nq c7) (List.replicate nq (chr q)) wr) ∧ Hid (wr.cell? ⟨g2, q, none⟩ = some (.int .i64 (nq : Int)))) (fun i _ => nq + 1 - (intOf i).toNat)
                      case atStart => exact ⟨0, rfl, Nat.zero_le _, H9, HR7, HC9⟩
                      case round =>
                        obtain ⟨k, rfl, hk, H10, HR10, HC10⟩ := hrel
                        clear H9 HR7 HC9 hc2
                        have hc2 := HC10.out
                        by_cases hlt5 : k < nq
                        · obtain ⟨b7, off7, hao7, hc7⟩ := rdB_at HR10.out (k := k) (by rw [List.length_replicate]; exact hlt5)
                          subst hao7
                          rw [List.getElem_replicate, HCH.out] at hc7
                          go_wp2
                          go_roundw
                          case rel => exact ⟨k + 1, by go_num, by omega, H10, HR10, HC10⟩
                          case measure => simp [intOf]; omega
                        · go_wp2
                          go_roundw
                          case rel => exact ⟨q + 1, by go_num, by omega, H10⟩
                          case measure => simp [intOf]; omega
                · have HSTAY := Lib.hid (show Stays gone N.length q from fun e => by have h2 := e.2; rw [List.getElem?_eq_none (by omega)] at h2; cases h2)
                  obtain ⟨nq, hnq⟩ : ∃ nq, N[q] = nq := ⟨_, rfl⟩
                  have hnq2 : N[q]? = some nq := by rw [List.getElem?_eq_getElem hlt, hnq]
                  have hn119 : nq ≤ 119 := by rw [← hnq]; exact H8.out.sm _ (List.getElem_mem _)
                  have HBM := Lib.hid (show (q + 1, List.replicate nq (chr q)) ∈ L4 from HM8.out _ ((HRE2.out.mem _).2 ⟨q, hlt, HSTAY.out, by rw [mvL_at N 0 q hlt, hnq]; simp⟩))
                  obtain ⟨g1, hg1, hcell1, _, _, _⟩ := H8.out.r1.at_ (rg_at hlt)
                  obtain ⟨g2, hg2, hcell2, _, _, _⟩ := H8.out.r2.at_ (i := q) (u := .int .i64 (nq : Int)) (by rw [List.getElem?_map, hnq2]; rfl)
                  subst hg1 hg2
                  have HC1 := Lib.hid hcell1
                  have HC2 := Lib.hid hcell2
                  have HCH := Lib.hid (encB_chr (s := q) (by omega))
                  have HRD := Lib.hid (mv_readq H8.out HBM.out)
                  clear hnq hnq2 hcell1 hcell2 HBM HSTAY
                  go_wp2
                  refine wp_region_slots slotLe (slotPhi ((fun v _ => v = ?pb187) :: (fun v _ => v = ?pb188) :: (fun v _ => v = ?pb189) :: (fun v _ => v = ?pb190) :: (fun v _ => v = ?pb191) :: (fun v _ => v = ?pb192) :: (fun v _ => v = ?pb193) :: (fun v _ => v = ?pb194) :: (fun v _ => v = ?pb195) :: (MvT nq (List.replicate nq (chr q))) :: (MvT nq (List.replicate nq (chr q))) :: (MvV nq (List.replicate nq (chr q))) :: (fun v _ => v = .int .i64 0) :: (MvV nq (List.replicate nq (chr q))) :: (fun v _ => v = .int .i64 0) :: [])) slotLe_refl slotLe_trans (slotPhi_stable ?stb) (by kernel_rfl) (by kernel_rfl) (by kernel_rfl) ?steps ?fin
                  case stb =>
                    refine ⟨by intro _ _ _ _ h; exact h, ?_⟩
                    refine ⟨by intro _ _ _ _ h; exact h, ?_⟩
                    refine ⟨by intro _ _ _ _ h; exact h, ?_⟩
                    refine ⟨by intro _ _ _ _ h; exact h, ?_⟩
                    refine ⟨by intro _ _ _ _ h; exact h, ?_⟩
                    refine ⟨by intro _ _ _ _ h; exact h, ?_⟩
                    refine ⟨by intro _ _ _ _ h; exact h, ?_⟩
                    refine ⟨by intro _ _ _ _ h; exact h, ?_⟩
                    refine ⟨by intro _ _ _ _ h; exact h, ?_⟩
                    refine ⟨fun _ _ _ h q => MvT.below q h, ?_⟩
                    refine ⟨fun _ _ _ h q => MvT.below q h, ?_⟩
                    refine ⟨fun _ _ _ h q => MvV.below q h, ?_⟩
                    refine ⟨by intro _ _ _ _ h; exact h, ?_⟩
                    refine ⟨fun _ _ _ h q => MvV.below q h, ?_⟩
                    refine ⟨by intro _ _ _ _ h; exact h, ?_⟩
                    exact trivial
                  case steps =>
                    refine ⟨?_, ?_⟩
                    · intro a W K N_ hK
                      have e7 : a.tmps[7]?.getD undef = .pointer (some ⟨A, 0, none⟩) := N_.was' 7 _ (by kernel_rfl) rfl
                      rw [if_pos (wanted_no rfl)]
                      go_simp
                      refine hK _ _ (slotLe_refl _) ?_
                      exact rfl
                    refine ⟨?_, ?_⟩
                    · intro a W K N_ hK
                      have e9 : a.tmps[9]?.getD undef = .slice (some ⟨g1, 0, none⟩) N.length c1 := N_.was' 9 _ (by kernel_rfl) rfl
                      rw [if_pos (wanted_no rfl)]
                      go_simp
                      refine hK _ _ (slotLe_refl _) ?_
                      exact rfl
                    refine ⟨?_, ?_⟩
                    · intro a W K N_ hK
                      have e24 : a.tmps[24]?.getD undef = .int .i64 (q : Int) := N_.was' 24 _ (by kernel_rfl) rfl
                      rw [if_pos (wanted_no rfl)]
                      go_simp
                      refine hK _ _ (slotLe_refl _) ?_
                      exact rfl
                    refine ⟨?_, ?_⟩
                    · intro a W K N_ hK
                      have e188 : a.tmps[188]?.getD undef = _ := N_.dep' 1 188 (by kernel_rfl)
                      have e189 : a.tmps[189]?.getD undef = _ := N_.dep' 2 189 (by kernel_rfl)
                      rw [if_pos (wanted_no rfl)]
                      go_simp
                      refine hK _ _ (slotLe_refl _) ?_
                      exact rfl
                    refine ⟨?_, ?_⟩
                    · intro a W K N_ hK
                      have e190 : a.tmps[190]?.getD undef = _ := N_.dep' 3 190 (by kernel_rfl)
                      rw [if_pos (wanted_no rfl)]
                      have hc9 := ((below_undrew N_.le).cell (p := ⟨g1, q, none⟩) (cell_lt HC1.out)).trans HC1.out
                      go_simp
                      refine hK _ _ (slotLe_refl _) ?_
                      exact rfl
                    refine ⟨?_, ?_⟩
                    · intro a W K N_ hK
                      have e10 : a.tmps[10]?.getD undef = .slice (some ⟨g2, 0, none⟩) N.length c2 := N_.was' 10 _ (by kernel_rfl) rfl
                      rw [if_pos (wanted_no rfl)]
                      go_simp
                      refine hK _ _ (slotLe_refl _) ?_
                      exact rfl
                    refine ⟨?_, ?_⟩
                    · intro a W K N_ hK
                      have e24 : a.tmps[24]?.getD undef = .int .i64 (q : Int) := N_.was' 24 _ (by kernel_rfl) rfl
                      rw [if_pos (wanted_no rfl)]
                      go_simp
                      refine hK _ _ (slotLe_refl _) ?_
                      exact rfl
                    refine ⟨?_, ?_⟩
                    · intro a W K N_ hK
                      have e192 : a.tmps[192]?.getD undef = _ := N_.dep' 5 192 (by kernel_rfl)
                      have e193 : a.tmps[193]?.getD undef = _ := N_.dep' 6 193 (by kernel_rfl)
                      rw [if_pos (wanted_no rfl)]
                      go_simp
                      refine hK _ _ (slotLe_refl _) ?_
                      exact rfl
                    refine ⟨?_, ?_⟩
                    · intro a W K N_ hK
                      have e194 : a.tmps[194]?.getD undef = _ := N_.dep' 7 194 (by kernel_rfl)
                      rw [if_pos (wanted_no rfl)]
                      have hc9 := ((below_undrew N_.le).cell (p := ⟨g2, q, none⟩) (cell_lt HC2.out)).trans HC2.out
                      go_simp
                      refine hK _ _ (slotLe_refl _) ?_
                      exact rfl
                    refine ⟨?_, ?_⟩
                    · intro a W K N_ hK
                      have e187 : a.tmps[187]?.getD undef = _ := N_.dep' 0 187 (by kernel_rfl)
                      have e191 : a.tmps[191]?.getD undef = _ := N_.dep' 4 191 (by kernel_rfl)
                      have e195 : a.tmps[195]?.getD undef = _ := N_.dep' 8 195 (by kernel_rfl)
                      rw [if_pos (wanted_no rfl)]
                      go_simp
                      go_at_call 21
                      refine (HRD.out _ (below_undrew N_.le)).mono ?_
                      rintro e w' ⟨ao6, c6, rfl, r6, hb6⟩
                      refine hK _ _ hb6 ?_
                      exact ⟨ao6, c6, rfl, r6⟩
                    refine ⟨?_, ?_⟩
                    · intro a W K N_ hK
                      have e196 := Lib.hid (show (MvT nq (List.replicate nq (chr q))) (a.tmps[196]?.getD undef) W from N_.dep' 9 196 (by kernel_rfl))
                      rw [if_pos (wanted_no rfl)]
                      obtain ⟨ao6, c6, h6, r6⟩ := e196.out
                      go_simp
                      refine hK _ _ (slotLe_refl _) ?_
                      exact ⟨ao6, c6, rfl, r6⟩
                    refine ⟨?_, ?_⟩
                    · intro a W K N_ hK
                      have e186 := Lib.hid (show (MvT nq (List.replicate nq (chr q))) (a.tmps[186]?.getD undef) W from N_.dep' 10 186 (by kernel_rfl))
                      rw [if_pos (wanted_no rfl)]
                      obtain ⟨ao6, c6, h6, r6⟩ := e186.out
                      go_simp
                      refine hK _ _ (slotLe_refl _) ?_
                      exact ⟨ao6, c6, rfl, r6⟩
                    refine ⟨?_, ?_⟩
                    · intro a W K N_ hK
                      have e186 := Lib.hid (show (MvT nq (List.replicate nq (chr q))) (a.tmps[186]?.getD undef) W from N_.dep' 10 186 (by kernel_rfl))
                      rw [if_pos (wanted_no rfl)]
                      obtain ⟨ao6, c6, h6, r6⟩ := e186.out
                      go_simp
                      refine hK _ _ (slotLe_refl _) ?_
                      exact rfl
                    refine ⟨?_, ?_⟩
                    · intro a W K N_ hK
                      have e197 := Lib.hid (show (MvV nq (List.replicate nq (chr q))) (a.tmps[197]?.getD undef) W from N_.dep' 11 197 (by kernel_rfl))
                      rw [if_pos (wanted_no rfl)]
                      obtain ⟨ao6, c6, h6, r6⟩ := e197.out
                      go_simp
                      refine hK _ _ (slotLe_refl _) ?_
                      exact ⟨ao6, c6, rfl, r6⟩
                    refine ⟨?_, ?_⟩
                    · intro a W K N_ hK
                      have e198 := Lib.hid (show (fun v _ => v = .int .i64 0) (a.tmps[198]?.getD undef) W from N_.dep' 12 198 (by kernel_rfl))
                      rw [if_pos (wanted_no rfl)]
                      have e9 := e198.out
                      go_simp
                      refine hK _ _ (slotLe_refl _) ?_
                      exact rfl
                    exact trivial
                  case fin =>
                    intro WX hW
                    simp only [FinAll, slotPhi, List.getD_cons_zero, List.getD_cons_succ, forall_eq, Act.put, List.setIfInBounds_toArray, List.set_cons_zero, List.set_cons_succ]
                    intro v196 h196 v186 h186 v197 h197 v25 h25
                    obtain ⟨ao7, c7, rfl, r7⟩ := h25
                    have H9 := Lib.hid (H8.out.after (below_undrew hW))
                    have HR7 := Lib.hid r7
                    have hc2 := ((below_undrew hW).cell (p := ⟨g2, q, none⟩) (cell_lt HC2.out)).trans HC2.out
                    have HC9 := Lib.hid hc2
                    clear h196 h186 h197 r7 hW
                    go_wp2
                    go_loopw [27] (fun i wr => ∃ k : Nat, i = .int .i64 (k : Int) ∧ k ≤ nq ∧ Hid (MvSt x A N (.slice (some ⟨g1, 0, none⟩) N.length c1) (.slice (some ⟨g2, 0, none⟩) N.length c2) L4 w wr) ∧ Hid (RdB (.slice ao7 nq c7) (List.replicate nq (chr q)) wr) ∧ Hid (wr.cell? ⟨g2, q, none⟩ = some (.int .i64 (nq : Int)))) (fun i _ => nq + 1 - (intOf i).toNat)
                    case atStart => exact ⟨0, rfl, Nat.zero_le _, H9, HR7, HC9⟩
                    case round =>
                      obtain ⟨k, rfl, hk, H10, HR10, HC10⟩ := hrel
                      clear H9 HR7 HC9 hc2
                      have hc2 := HC10.out
                      by_cases hlt5 : k < nq
                      · obtain ⟨b7, off7, hao7, hc7⟩ := rdB_at HR10.out (k := k) (by rw [List.length_replicate]; exact hlt5)
                        subst hao7
                        rw [List.getElem_replicate, HCH.out] at hc7
                        go_wp2
                        go_roundw
                        case rel => exact ⟨k + 1, by go_num, by omega, H10, HR10, HC10⟩
                        case measure => simp [intOf]; omega
                      · go_wp2
                        go_roundw
                        case rel => exact ⟨q + 1, by go_num, by omega, H10⟩
                        case measure => simp [intOf]; omega
              · obtain ⟨u, hu⟩ : ∃ u, sumC L4 = u := ⟨_, rfl⟩
                have hu2 : u ≤ 2048 := by rw [← hu]; exact H8.out.hx.sum_le.1
                have HU := Lib.hid (fun W h => by have k := used_x x A 2048 L4 w.heap.size W h; rw [hu] at k; exact k)
                have HLX := Lib.hid (fun W h => by have k := left_x x A 2048 L4 w.heap.size W h; rw [hu, show ((2048 - u : Nat) : Int) = 2048 - (u : Int) by omega] at k; exact k)
                have hus : (u : Int) + (2048 - (u : Int)) = 2048 := by omega
                clear hu
                go_wp2_with (first
                  | (go_at_call 31; with_reducible refine (HU.out _ H8.out.hx).mono ?_; rintro e w' ⟨rfl, rfl⟩)
                  | (go_at_call 29; with_reducible refine (HLX.out _ H8.out.hx).mono ?_; rintro e w' ⟨rfl, rfl⟩)
                  | (go_at_call 14; with_reducible refine (awake_any _ H8.out.hx.tab).mono ?_; rintro e w' ⟨rfl, hb⟩))
                go_ret
                exact ⟨rfl, H8.out.bel.trans (hb.mono H8.out.bel.size)⟩

        · have HAL := Lib.hid (alloc_no x A 2048 L3 _ (n : Int) n _ rfl H3.out.hx (by omega) (by rw [hcc]; omega))
          clear hcc hlf hsl
          go_wp2_with (first
            | (go_at_call 28; with_reducible refine (HR.out _).mono ?_; rintro e w' ⟨rfl, rfl⟩)
            | (go_at_call 29; with_reducible refine (HLF.out _ H3.out.hx).mono ?_; rintro e w' ⟨rfl, rfl⟩)
            | (go_at_call 17; with_reducible refine HAL.out.mono ?_; rintro e w4 ⟨rfl, rfl⟩)
            | (go_at_call 30; with_reducible refine (HCO.out _).mono ?_; rintro e w' ⟨rfl, rfl⟩))
          have H8 := H3
          have HM8 := Lib.hid (fun (b : Bl) (hb : b ∈ L3) => hb)
          clear H3 HLF HAL HCO HMK HR
          go_loopw [24] (fun i wr => ∃ q : Nat, i = .int .i64 (q : Int) ∧ q ≤ N.length ∧ Hid (MvSt x A N (.slice ao1 N.length c1) (.slice ao2 N.length c2) L3 w wr)) (fun i _ => N.length + 1 - (intOf i).toNat)
          case atStart => exact ⟨0, rfl, Nat.zero_le _, H8⟩
          case round =>
            clear H8
            obtain ⟨q, rfl, hq, H8⟩ := hrel
            by_cases hlt : q < N.length
            · by_cases hlg : q < gone.length
              · obtain ⟨b, off, hga, hgc⟩ := (readO_below HG2.out H8.out.bel).form_at hlg
                subst hga
                rcases Bool.eq_false_or_eq_true gone[q] with hgq | hgq
                · rw [hgq] at hgc
                  clear hgq
                  go_wp2
                  go_roundw
                  case rel => exact ⟨q + 1, by go_num, by omega, H8⟩
                  case measure => simp [intOf]; omega
                · have HSTAY := Lib.hid (show Stays gone N.length q from fun e => by have h2 := e.2; rw [List.getElem?_eq_getElem hlg, hgq] at h2; cases h2)
                  rw [hgq] at hgc
                  clear hgq
                  obtain ⟨nq, hnq⟩ : ∃ nq, N[q] = nq := ⟨_, rfl⟩
                  have hnq2 : N[q]? = some nq := by rw [List.getElem?_eq_getElem hlt, hnq]
                  have hn119 : nq ≤ 119 := by rw [← hnq]; exact H8.out.sm _ (List.getElem_mem _)
                  have HBM := Lib.hid (show (q + 1, List.replicate nq (chr q)) ∈ L3 from HM8.out _ ((HRE2.out.mem _).2 ⟨q, hlt, HSTAY.out, by rw [mvL_at N 0 q hlt, hnq]; simp⟩))
                  obtain ⟨g1, hg1, hcell1, _, _, _⟩ := H8.out.r1.at_ (rg_at hlt)
                  obtain ⟨g2, hg2, hcell2, _, _, _⟩ := H8.out.r2.at_ (i := q) (u := .int .i64 (nq : Int)) (by rw [List.getElem?_map, hnq2]; rfl)
                  subst hg1 hg2
                  have HC1 := Lib.hid hcell1
                  have HC2 := Lib.hid hcell2
                  have HCH := Lib.hid (encB_chr (s := q) (by omega))
                  have HRD := Lib.hid (mv_readq H8.out HBM.out)
                  clear hnq hnq2 hcell1 hcell2 HBM HSTAY
                  go_wp2
                  refine wp_region_slots slotLe (slotPhi ((fun v _ => v = ?ra187) :: (fun v _ => v = ?ra188) :: (fun v _ => v = ?ra189) :: (fun v _ => v = ?ra190) :: (fun v _ => v = ?ra191) :: (fun v _ => v = ?ra192) :: (fun v _ => v = ?ra193) :: (fun v _ => v = ?ra194) :: (fun v _ => v = ?ra195) :: (MvT nq (List.replicate nq (chr q))) :: (MvT nq (List.replicate nq (chr q))) :: (MvV nq (List.replicate nq (chr q))) :: (fun v _ => v = .int .i64 0) :: (MvV nq (List.replicate nq (chr q))) :: (fun v _ => v = .int .i64 0) :: [])) slotLe_refl slotLe_trans (slotPhi_stable ?stb) (by kernel_rfl) (by kernel_rfl) (by kernel_rfl) ?steps ?fin
                  case stb =>
                    refine ⟨by intro _ _ _ _ h; exact h, ?_⟩
                    refine ⟨by intro _ _ _ _ h; exact h, ?_⟩
                    refine ⟨by intro _ _ _ _ h; exact h, ?_⟩
                    refine ⟨by intro _ _ _ _ h; exact h, ?_⟩
                    refine ⟨by intro _ _ _ _ h; exact h, ?_⟩
                    refine ⟨by intro _ _ _ _ h; exact h, ?_⟩
                    refine ⟨by intro _ _ _ _ h; exact h, ?_⟩
                    refine ⟨by intro _ _ _ _ h; exact h, ?_⟩
                    refine ⟨by intro _ _ _ _ h; exact h, ?_⟩
                    refine ⟨fun _ _ _ h q => MvT.below q h, ?_⟩
                    refine ⟨fun _ _ _ h q => MvT.below q h, ?_⟩
                    refine ⟨fun _ _ _ h q => MvV.below q h, ?_⟩
                    refine ⟨by intro _ _ _ _ h; exact h, ?_⟩
                    refine ⟨fun _ _ _ h q => MvV.below q h, ?_⟩
                    refine ⟨by intro _ _ _ _ h; exact h, ?_⟩
                    exact trivial
                  case steps =>
                    refine ⟨?_, ?_⟩
                    · intro a W K N_ hK
                      have e7 : a.tmps[7]?.getD undef = .pointer (some ⟨A, 0, none⟩) := N_.was' 7 _ (by kernel_rfl) rfl
                      rw [if_pos (wanted_no rfl)]
                      go_simp
                      refine hK _ _ (slotLe_refl _) ?_
                      exact rfl
                    refine ⟨?_, ?_⟩
                    · intro a W K N_ hK
                      have e9 : a.tmps[9]?.getD undef = .slice (some ⟨g1, 0, none⟩) N.length c1 := N_.was' 9 _ (by kernel_rfl) rfl
                      rw [if_pos (wanted_no rfl)]
                      go_simp
                      refine hK _ _ (slotLe_refl _) ?_
                      exact rfl
                    refine ⟨?_, ?_⟩
                    · intro a W K N_ hK
                      have e24 : a.tmps[24]?.getD undef = .int .i64 (q : Int) := N_.was' 24 _ (by kernel_rfl) rfl
                      rw [if_pos (wanted_no rfl)]
                      go_simp
                      refine hK _ _ (slotLe_refl _) ?_
                      exact rfl
                    refine ⟨?_, ?_⟩
                    · intro a W K N_ hK
                      have e188 : a.tmps[188]?.getD undef = _ := N_.dep' 1 188 (by kernel_rfl)
                      have e189 : a.tmps[189]?.getD undef = _ := N_.dep' 2 189 (by kernel_rfl)
                      rw [if_pos (wanted_no rfl)]
                      go_simp
                      refine hK _ _ (slotLe_refl _) ?_
                      exact rfl
                    refine ⟨?_, ?_⟩
                    · intro a W K N_ hK
                      have e190 : a.tmps[190]?.getD undef = _ := N_.dep' 3 190 (by kernel_rfl)
                      rw [if_pos (wanted_no rfl)]
                      have hc9 := ((below_undrew N_.le).cell (p := ⟨g1, q, none⟩) (cell_lt HC1.out)).trans HC1.out
                      go_simp
                      refine hK _ _ (slotLe_refl _) ?_
                      exact rfl
                    refine ⟨?_, ?_⟩
                    · intro a W K N_ hK
                      have e10 : a.tmps[10]?.getD undef = .slice (some ⟨g2, 0, none⟩) N.length c2 := N_.was' 10 _ (by kernel_rfl) rfl
                      rw [if_pos (wanted_no rfl)]
                      go_simp
                      refine hK _ _ (slotLe_refl _) ?_
                      exact rfl
                    refine ⟨?_, ?_⟩
                    · intro a W K N_ hK
                      have e24 : a.tmps[24]?.getD undef = .int .i64 (q : Int) := N_.was' 24 _ (by kernel_rfl) rfl
                      rw [if_pos (wanted_no rfl)]
                      go_simp
                      refine hK _ _ (slotLe_refl _) ?_
                      exact rfl
                    refine ⟨?_, ?_⟩
                    · intro a W K N_ hK
                      have e192 : a.tmps[192]?.getD undef = _ := N_.dep' 5 192 (by kernel_rfl)
                      have e193 : a.tmps[193]?.getD undef = _ := N_.dep' 6 193 (by kernel_rfl)
                      rw [if_pos (wanted_no rfl)]
                      go_simp
                      refine hK _ _ (slotLe_refl _) ?_
                      exact rfl
                    refine ⟨?_, ?_⟩
                    · intro a W K N_ hK
                      have e194 : a.tmps[194]?.getD undef = _ := N_.dep' 7 194 (by kernel_rfl)
                      rw [if_pos (wanted_no rfl)]
                      have hc9 := ((below_undrew N_.le).cell (p := ⟨g2, q, none⟩) (cell_lt HC2.out)).trans HC2.out
                      go_simp
                      refine hK _ _ (slotLe_refl _) ?_
                      exact rfl
                    refine ⟨?_, ?_⟩
                    · intro a W K N_ hK
                      have e187 : a.tmps[187]?.getD undef = _ := N_.dep' 0 187 (by kernel_rfl)
                      have e191 : a.tmps[191]?.getD undef = _ := N_.dep' 4 191 (by kernel_rfl)
                      have e195 : a.tmps[195]?.getD undef = _ := N_.dep' 8 195 (by kernel_rfl)
                      rw [if_pos (wanted_no rfl)]
                      go_simp
                      go_at_call 21
                      refine (HRD.out _ (below_undrew N_.le)).mono ?_
                      rintro e w' ⟨ao6, c6, rfl, r6, hb6⟩
                      refine hK _ _ hb6 ?_
                      exact ⟨ao6, c6, rfl, r6⟩
                    refine ⟨?_, ?_⟩
                    · intro a W K N_ hK
                      have e196 := Lib.hid (show (MvT nq (List.replicate nq (chr q))) (a.tmps[196]?.getD undef) W from N_.dep' 9 196 (by kernel_rfl))
                      rw [if_pos (wanted_no rfl)]
                      obtain ⟨ao6, c6, h6, r6⟩ := e196.out
                      go_simp
                      refine hK _ _ (slotLe_refl _) ?_
                      exact ⟨ao6, c6, rfl, r6⟩
                    refine ⟨?_, ?_⟩
                    · intro a W K N_ hK
                      have e186 := Lib.hid (show (MvT nq (List.replicate nq (chr q))) (a.tmps[186]?.getD undef) W from N_.dep' 10 186 (by kernel_rfl))
                      rw [if_pos (wanted_no rfl)]
                      obtain ⟨ao6, c6, h6, r6⟩ := e186.out
                      go_simp
                      refine hK _ _ (slotLe_refl _) ?_
                      exact ⟨ao6, c6, rfl, r6⟩
                    refine ⟨?_, ?_⟩
                    · intro a W K N_ hK
                      have e186 := Lib.hid (show (MvT nq (List.replicate nq (chr q))) (a.tmps[186]?.getD undef) W from N_.dep' 10 186 (by kernel_rfl))
                      rw [if_pos (wanted_no rfl)]
                      obtain ⟨ao6, c6, h6, r6⟩ := e186.out
                      go_simp
                      refine hK _ _ (slotLe_refl _) ?_
                      exact rfl
                    refine ⟨?_, ?_⟩
                    · intro a W K N_ hK
                      have e197 := Lib.hid (show (MvV nq (List.replicate nq (chr q))) (a.tmps[197]?.getD undef) W from N_.dep' 11 197 (by kernel_rfl))
                      rw [if_pos (wanted_no rfl)]
                      obtain ⟨ao6, c6, h6, r6⟩ := e197.out
                      go_simp
                      refine hK _ _ (slotLe_refl _) ?_
                      exact ⟨ao6, c6, rfl, r6⟩
                    refine ⟨?_, ?_⟩
                    · intro a W K N_ hK
                      have e198 := Lib.hid (show (fun v _ => v = .int .i64 0) (a.tmps[198]?.getD undef) W from N_.dep' 12 198 (by kernel_rfl))
                      rw [if_pos (wanted_no rfl)]
                      have e9 := e198.out
                      go_simp
                      refine hK _ _ (slotLe_refl _) ?_
                      exact rfl
                    exact trivial
                  case fin =>
                    intro WX hW
                    simp only [FinAll, slotPhi, List.getD_cons_zero, List.getD_cons_succ, forall_eq, Act.put, List.setIfInBounds_toArray, List.set_cons_zero, List.set_cons_succ]
                    intro v196 h196 v186 h186 v197 h197 v25 h25
                    obtain ⟨ao7, c7, rfl, r7⟩ := h25
                    have H9 := Lib.hid (H8.out.after (below_undrew hW))
                    have HR7 := Lib.hid r7
                    have hc2 := ((below_undrew hW).cell (p := ⟨g2, q, none⟩) (cell_lt HC2.out)).trans HC2.out
                    have HC9 := Lib.hid hc2
                    clear h196 h186 h197 r7 hW
                    go_wp2
                    go_loopw [27] (fun i wr => ∃ k : Nat, i = .int .i64 (k : Int) ∧ k ≤ nq ∧ Hid (MvSt x A N (.slice (some ⟨g1, 0, none⟩) N.length c1) (.slice (some ⟨g2, 0, none⟩) N.length c2) L3 w wr) ∧ Hid (RdB (.slice ao7 nq c7) (List.replicate nq (chr q)) wr) ∧ Hid (wr.cell? ⟨g2, q, none⟩ = some (.int .i64 (nq : Int)))) (fun i _ => nq + 1 - (intOf i).toNat)
                    case atStart => exact ⟨0, rfl, Nat.zero_le _, H9, HR7, HC9⟩
                    case round =>
                      obtain ⟨k, rfl, hk, H10, HR10, HC10⟩ := hrel
                      clear H9 HR7 HC9 hc2
                      have hc2 := HC10.out
                      by_cases hlt5 : k < nq
                      · obtain ⟨b7, off7, hao7, hc7⟩ := rdB_at HR10.out (k := k) (by rw [List.length_replicate]; exact hlt5)
                        subst hao7
                        rw [List.getElem_replicate, HCH.out] at hc7
                        go_wp2
                        go_roundw
                        case rel => exact ⟨k + 1, by go_num, by omega, H10, HR10, HC10⟩
                        case measure => simp [intOf]; omega
                      · go_wp2
                        go_roundw
                        case rel => exact ⟨q + 1, by go_num, by omega, H10⟩
                        case measure => simp [intOf]; omega
              · have HSTAY := Lib.hid (show Stays gone N.length q from fun e => by have h2 := e.2; rw [List.getElem?_eq_none (by omega)] at h2; cases h2)
                obtain ⟨nq, hnq⟩ : ∃ nq, N[q] = nq := ⟨_, rfl⟩
                have hnq2 : N[q]? = some nq := by rw [List.getElem?_eq_getElem hlt, hnq]
                have hn119 : nq ≤ 119 := by rw [← hnq]; exact H8.out.sm _ (List.getElem_mem _)
                have HBM := Lib.hid (show (q + 1, List.replicate nq (chr q)) ∈ L3 from HM8.out _ ((HRE2.out.mem _).2 ⟨q, hlt, HSTAY.out, by rw [mvL_at N 0 q hlt, hnq]; simp⟩))
                obtain ⟨g1, hg1, hcell1, _, _, _⟩ := H8.out.r1.at_ (rg_at hlt)
                obtain ⟨g2, hg2, hcell2, _, _, _⟩ := H8.out.r2.at_ (i := q) (u := .int .i64 (nq : Int)) (by rw [List.getElem?_map, hnq2]; rfl)
                subst hg1 hg2
                have HC1 := Lib.hid hcell1
                have HC2 := Lib.hid hcell2
                have HCH := Lib.hid (encB_chr (s := q) (by omega))
                have HRD := Lib.hid (mv_readq H8.out HBM.out)
                clear hnq hnq2 hcell1 hcell2 HBM HSTAY
                go_wp2
                refine wp_region_slots slotLe (slotPhi ((fun v _ => v = ?rb187) :: (fun v _ => v = ?rb188) :: (fun v _ => v = ?rb189) :: (fun v _ => v = ?rb190) :: (fun v _ => v = ?rb191) :: (fun v _ => v = ?rb192) :: (fun v _ => v = ?rb193) :: (fun v _ => v = ?rb194) :: (fun v _ => v = ?rb195) :: (MvT nq (List.replicate nq (chr q))) :: (MvT nq (List.replicate nq (chr q))) :: (MvV nq (List.replicate nq (chr q))) :: (fun v _ => v = .int .i64 0) :: (MvV nq (List.replicate nq (chr q))) :: (fun v _ => v = .int .i64 0) :: [])) slotLe_refl slotLe_trans (slotPhi_stable ?stb) (by kernel_rfl) (by kernel_rfl) (by kernel_rfl) ?steps ?fin
                case stb =>
                  refine ⟨by intro _ _ _ _ h; exact h, ?_⟩
                  refine ⟨by intro _ _ _ _ h; exact h, ?_⟩
                  refine ⟨by intro _ _ _ _ h; exact h, ?_⟩
                  refine ⟨by intro _ _ _ _ h; exact h, ?_⟩
                  refine ⟨by intro _ _ _ _ h; exact h, ?_⟩
                  refine ⟨by intro _ _ _ _ h; exact h, ?_⟩
                  refine ⟨by intro _ _ _ _ h; exact h, ?_⟩
                  refine ⟨by intro _ _ _ _ h; exact h, ?_⟩
                  refine ⟨by intro _ _ _ _ h; exact h, ?_⟩
                  refine ⟨fun _ _ _ h q => MvT.below q h, ?_⟩
                  refine ⟨fun _ _ _ h q => MvT.below q h, ?_⟩
                  refine ⟨fun _ _ _ h q => MvV.below q h, ?_⟩
                  refine ⟨by intro _ _ _ _ h; exact h, ?_⟩
                  refine ⟨fun _ _ _ h q => MvV.below q h, ?_⟩
                  refine ⟨by intro _ _ _ _ h; exact h, ?_⟩
                  exact trivial
                case steps =>
                  refine ⟨?_, ?_⟩
                  · intro a W K N_ hK
                    have e7 : a.tmps[7]?.getD undef = .pointer (some ⟨A, 0, none⟩) := N_.was' 7 _ (by kernel_rfl) rfl
                    rw [if_pos (wanted_no rfl)]
                    go_simp
                    refine hK _ _ (slotLe_refl _) ?_
                    exact rfl
                  refine ⟨?_, ?_⟩
                  · intro a W K N_ hK
                    have e9 : a.tmps[9]?.getD undef = .slice (some ⟨g1, 0, none⟩) N.length c1 := N_.was' 9 _ (by kernel_rfl) rfl
                    rw [if_pos (wanted_no rfl)]
                    go_simp
                    refine hK _ _ (slotLe_refl _) ?_
                    exact rfl
                  refine ⟨?_, ?_⟩
                  · intro a W K N_ hK
                    have e24 : a.tmps[24]?.getD undef = .int .i64 (q : Int) := N_.was' 24 _ (by kernel_rfl) rfl
                    rw [if_pos (wanted_no rfl)]
                    go_simp
                    refine hK _ _ (slotLe_refl _) ?_
                    exact rfl
                  refine ⟨?_, ?_⟩
                  · intro a W K N_ hK
                    have e188 : a.tmps[188]?.getD undef = _ := N_.dep' 1 188 (by kernel_rfl)
                    have e189 : a.tmps[189]?.getD undef = _ := N_.dep' 2 189 (by kernel_rfl)
                    rw [if_pos (wanted_no rfl)]
                    go_simp
                    refine hK _ _ (slotLe_refl _) ?_
                    exact rfl
                  refine ⟨?_, ?_⟩
                  · intro a W K N_ hK
                    have e190 : a.tmps[190]?.getD undef = _ := N_.dep' 3 190 (by kernel_rfl)
                    rw [if_pos (wanted_no rfl)]
                    have hc9 := ((below_undrew N_.le).cell (p := ⟨g1, q, none⟩) (cell_lt HC1.out)).trans HC1.out
                    go_simp
                    refine hK _ _ (slotLe_refl _) ?_
                    exact rfl
                  refine ⟨?_, ?_⟩
                  · intro a W K N_ hK
                    have e10 : a.tmps[10]?.getD undef = .slice (some ⟨g2, 0, none⟩) N.length c2 := N_.was' 10 _ (by kernel_rfl) rfl
                    rw [if_pos (wanted_no rfl)]
                    go_simp
                    refine hK _ _ (slotLe_refl _) ?_
                    exact rfl
                  refine ⟨?_, ?_⟩
                  · intro a W K N_ hK
                    have e24 : a.tmps[24]?.getD undef = .int .i64 (q : Int) := N_.was' 24 _ (by kernel_rfl) rfl
                    rw [if_pos (wanted_no rfl)]
                    go_simp
                    refine hK _ _ (slotLe_refl _) ?_
                    exact rfl
                  refine ⟨?_, ?_⟩
                  · intro a W K N_ hK
                    have e192 : a.tmps[192]?.getD undef = _ := N_.dep' 5 192 (by kernel_rfl)
                    have e193 : a.tmps[193]?.getD undef = _ := N_.dep' 6 193 (by kernel_rfl)
                    rw [if_pos (wanted_no rfl)]
                    go_simp
                    refine hK _ _ (slotLe_refl _) ?_
                    exact rfl
                  refine ⟨?_, ?_⟩
                  · intro a W K N_ hK
                    have e194 : a.tmps[194]?.getD undef = _ := N_.dep' 7 194 (by kernel_rfl)
                    rw [if_pos (wanted_no rfl)]
                    have hc9 := ((below_undrew N_.le).cell (p := ⟨g2, q, none⟩) (cell_lt HC2.out)).trans HC2.out
                    go_simp
                    refine hK _ _ (slotLe_refl _) ?_
                    exact rfl
                  refine ⟨?_, ?_⟩
                  · intro a W K N_ hK
                    have e187 : a.tmps[187]?.getD undef = _ := N_.dep' 0 187 (by kernel_rfl)
                    have e191 : a.tmps[191]?.getD undef = _ := N_.dep' 4 191 (by kernel_rfl)
                    have e195 : a.tmps[195]?.getD undef = _ := N_.dep' 8 195 (by kernel_rfl)
                    rw [if_pos (wanted_no rfl)]
                    go_simp
                    go_at_call 21
                    refine (HRD.out _ (below_undrew N_.le)).mono ?_
                    rintro e w' ⟨ao6, c6, rfl, r6, hb6⟩
                    refine hK _ _ hb6 ?_
                    exact ⟨ao6, c6, rfl, r6⟩
                  refine ⟨?_, ?_⟩
                  · intro a W K N_ hK
                    have e196 := Lib.hid (show (MvT nq (List.replicate nq (chr q))) (a.tmps[196]?.getD undef) W from N_.dep' 9 196 (by kernel_rfl))
                    rw [if_pos (wanted_no rfl)]
                    obtain ⟨ao6, c6, h6, r6⟩ := e196.out
                    go_simp
                    refine hK _ _ (slotLe_refl _) ?_
                    exact ⟨ao6, c6, rfl, r6⟩
                  refine ⟨?_, ?_⟩
                  · intro a W K N_ hK
                    have e186 := Lib.hid (show (MvT nq (List.replicate nq (chr q))) (a.tmps[186]?.getD undef) W from N_.dep' 10 186 (by kernel_rfl))
                    rw [if_pos (wanted_no rfl)]
                    obtain ⟨ao6, c6, h6, r6⟩ := e186.out
                    go_simp
                    refine hK _ _ (slotLe_refl _) ?_
                    exact ⟨ao6, c6, rfl, r6⟩
                  refine ⟨?_, ?_⟩
                  · intro a W K N_ hK
                    have e186 := Lib.hid (show (MvT nq (List.replicate nq (chr q))) (a.tmps[186]?.getD undef) W from N_.dep' 10 186 (by kernel_rfl))
                    rw [if_pos (wanted_no rfl)]
                    obtain ⟨ao6, c6, h6, r6⟩ := e186.out
                    go_simp
                    refine hK _ _ (slotLe_refl _) ?_
                    exact rfl
                  refine ⟨?_, ?_⟩
                  · intro a W K N_ hK
                    have e197 := Lib.hid (show (MvV nq (List.replicate nq (chr q))) (a.tmps[197]?.getD undef) W from N_.dep' 11 197 (by kernel_rfl))
                    rw [if_pos (wanted_no rfl)]
                    obtain ⟨ao6, c6, h6, r6⟩ := e197.out
                    go_simp
                    refine hK _ _ (slotLe_refl _) ?_
                    exact ⟨ao6, c6, rfl, r6⟩
                  refine ⟨?_, ?_⟩
                  · intro a W K N_ hK
                    have e198 := Lib.hid (show (fun v _ => v = .int .i64 0) (a.tmps[198]?.getD undef) W from N_.dep' 12 198 (by kernel_rfl))
                    rw [if_pos (wanted_no rfl)]
                    have e9 := e198.out
                    go_simp
                    refine hK _ _ (slotLe_refl _) ?_
                    exact rfl
                  exact trivial
                case fin =>
                  intro WX hW
                  simp only [FinAll, slotPhi, List.getD_cons_zero, List.getD_cons_succ, forall_eq, Act.put, List.setIfInBounds_toArray, List.set_cons_zero, List.set_cons_succ]
                  intro v196 h196 v186 h186 v197 h197 v25 h25
                  obtain ⟨ao7, c7, rfl, r7⟩ := h25
                  have H9 := Lib.hid (H8.out.after (below_undrew hW))
                  have HR7 := Lib.hid r7
                  have hc2 := ((below_undrew hW).cell (p := ⟨g2, q, none⟩) (cell_lt HC2.out)).trans HC2.out
                  have HC9 := Lib.hid hc2
                  clear h196 h186 h197 r7 hW
                  go_wp2
                  go_loopw [27] (fun i wr => ∃ k : Nat, i = .int .i64 (k : Int) ∧ k ≤ nq ∧ Hid (MvSt x A N (.slice (some ⟨g1, 0, none⟩) N.length c1) (.slice (some ⟨g2, 0, none⟩) N.length c2) L3 w wr) ∧ Hid (RdB (.slice ao7 nq c7) (List.replicate nq (chr q)) wr) ∧ Hid (wr.cell? ⟨g2, q, none⟩ = some (.int .i64 (nq : Int)))) (fun i _ => nq + 1 - (intOf i).toNat)
                  case atStart => exact ⟨0, rfl, Nat.zero_le _, H9, HR7, HC9⟩
                  case round =>
                    obtain ⟨k, rfl, hk, H10, HR10, HC10⟩ := hrel
                    clear H9 HR7 HC9 hc2
                    have hc2 := HC10.out
                    by_cases hlt5 : k < nq
                    · obtain ⟨b7, off7, hao7, hc7⟩ := rdB_at HR10.out (k := k) (by rw [List.length_replicate]; exact hlt5)
                      subst hao7
                      rw [List.getElem_replicate, HCH.out] at hc7
                      go_wp2
                      go_roundw
                      case rel => exact ⟨k + 1, by go_num, by omega, H10, HR10, HC10⟩
                      case measure => simp [intOf]; omega
                    · go_wp2
                      go_roundw
                      case rel => exact ⟨q + 1, by go_num, by omega, H10⟩
                      case measure => simp [intOf]; omega
            · obtain ⟨u, hu⟩ : ∃ u, sumC L3 = u := ⟨_, rfl⟩
              have hu2 : u ≤ 2048 := by rw [← hu]; exact H8.out.hx.sum_le.1
              have HU := Lib.hid (fun W h => by have k := used_x x A 2048 L3 w.heap.size W h; rw [hu] at k; exact k)
              have HLX := Lib.hid (fun W h => by have k := left_x x A 2048 L3 w.heap.size W h; rw [hu, show ((2048 - u : Nat) : Int) = 2048 - (u : Int) by omega] at k; exact k)
              have hus : (u : Int) + (2048 - (u : Int)) = 2048 := by omega
              clear hu
              go_wp2_with (first
                | (go_at_call 31; with_reducible refine (HU.out _ H8.out.hx).mono ?_; rintro e w' ⟨rfl, rfl⟩)
                | (go_at_call 29; with_reducible refine (HLX.out _ H8.out.hx).mono ?_; rintro e w' ⟨rfl, rfl⟩)
                | (go_at_call 14; with_reducible refine (awake_any _ H8.out.hx.tab).mono ?_; rintro e w' ⟨rfl, hb⟩))
              go_ret
              exact ⟨rfl, H8.out.bel.trans (hb.mono H8.out.bel.size)⟩
end Go.Proofs.YtdbaocphglijbaaDoor

/- ArenaMoves: all of it. -/
set_option maxRecDepth 100000
namespace Go.Proofs.YtdbaocphglijbaaDoor
open Go.RowKit Go.Shelf
attribute [local go_sem] Oper.semAt_some
set_option maxHeartbeats 8000000 in
theorem moves_any (sizes : List Int) (sv : Value) (gone : List Bool) (gv : Value) (big : Int) (w : World) (hT : TabOk w) (hg : ReadI sv sizes w) (hz : ∀ z ∈ sizes, -9223372036854775808 ≤ z ∧ z ≤ 9223372036854775807) (hl : sizes.length ≤ 9223372036854775807) (hg2 : ReadO gv gone w) (hl2 : gone.length ≤ 9223372036854775807) (hb1 : -9223372036854775808 ≤ big) (hb2 : big ≤ 9223372036854775807) :
    Calls Tryd.prog 4 #[sv, gv, .int .i64 big] w fun e w' => e = .returned (.bool true) ∧ Below w.heap.size w w' := by
  by_cases h : 60 < sizes.length ∨ 80 < gone.length
  · have HT := Lib.hid hT
    obtain ⟨ao, cap, rfl, _⟩ := hg.form
    obtain ⟨ga, gcap, rfl, _⟩ := hg2.form
    clear hT hg hz hg2
    go_enter Tryd.func4, Tryd.ntmps4
    by_cases h1 : 60 < sizes.length
    · go_wp2_with (go_at_call 14; with_reducible refine (awake_any _ HT.out).mono ?_; rintro e w' ⟨rfl, hb⟩)
      go_ret
      exact ⟨rfl, hb⟩
    have h2 : 80 < gone.length := by omega
    go_wp2_with (go_at_call 14; with_reducible refine (awake_any _ HT.out).mono ?_; rintro e w' ⟨rfl, hb⟩)
    go_ret
    exact ⟨rfl, hb⟩
  · exact moves_in sizes sv gone gv big w hT hg hz (by omega) hg2 (by omega) hb1 hb2
end Go.Proofs.YtdbaocphglijbaaDoor

/- ArenaMoves of package freshetlaw6 (however blocks of unlike sizes come and go, what is free can be had, in whatever pieces it lies; no block's bytes are another's) returns true at every list of numbers, list of booleans and number, and they read as they did: the given card.
   Conditions: those of the row and of its card, none beside. -/
set_option maxRecDepth 100000
namespace Go.Proofs.YtdbaocphglijbaaDoor.arenaMoves
open Go.ChangeShapes Go.WideShapes Go.ChangeAt Go.RowKit

theorem contract (H : Type) (enc : TypeId × Value → H) (W : World) (base : Nat) (args : Array Value) (ds gs : List (DataW H)) (before : List MemPlace)
    (hval : ∀ (j : Nat) t v, Tryd.f4.params[j]? = some t → args[j]? = some v → Value.okWide Tryd.prog W .any base t v)
    (hW : DataW.Whole enc Tryd.prog Tryd.f4.params.toList Rows.arenaMovesSpec.vars false W args.toList ds gs before) (hL : laidMetH Tryd.prog laidList W) :
    Calls Tryd.prog 4 args W fun e W' => ∃ v, e = .returned v ∧ Rows.arenaMovesSpec.post enc Tryd.prog Tryd.f4 false true false false W args v W' := by
  have hW' := hW
  obtain ⟨p, q, hA0, hV, rfl, _, _⟩ := hW
  have hA : DataW.TrodAll enc Tryd.prog W 0 (fun _ => true) true Tryd.f4.params.toList args.toList ds p := hA0
  clear hA0
  rw [Tryd.params4] at hA hval
  obtain ⟨v0, vs0, d0, ds0, p0, q0, hargs0, rfl, rfl, h0, r0⟩ := trodAll_cons hA
  obtain ⟨v1, vs1, d1, ds1, p1, q1, hargs1, rfl, rfl, h1, r1⟩ := trodAll_cons r0
  subst hargs1
  obtain ⟨v2, vs2, d2, ds2, p2, q2, hargs2, rfl, rfl, h2, r2⟩ := trodAll_cons r1
  subst hargs2
  obtain ⟨rfl, rfl, rfl⟩ := trodAll_nil r2
  obtain rfl : args = #[v0, v1, v2] := by cases args; simp_all
  obtain ⟨rfl, rfl⟩ := trodVars_none hV
  obtain ⟨z0, hr0, hb0, hl0⟩ := arg_ints (hval 0 _ v0 rfl rfl) h0
  obtain ⟨o1, hr1, hl1⟩ := arg_bools (hval 1 _ v1 rfl rfl) h1
  obtain ⟨z2, rfl, hz2⟩ := arg_int (hval 2 _ _ rfl rfl) h2
  have hL' := tabOk hL
  refine (moves_any z0 v0 o1 v1 z2 W hL' hr0 hb0 (by rw [maxLen_eq] at hl0; exact hl0) hr1 (by rw [maxLen_eq] at hl1; exact hl1) hz2.1 hz2.2).mono fun e W' ⟨he, hbl⟩ => ?_
  exact ⟨_, he, law_post hW' rfl hbl rfl rfl (fun t ht => readT7 t (by rw [Tryd.params4] at ht; exact (show ∀ t ∈ (#[54, 55, 3] : Array TypeId).toList, t ∈ [3, 54, 9, 55, 82] by decide) t ht))⟩

theorem reads (os : Os) {H : Type} (enc : TypeId × Value → H) : ∃ places, DataW.whole enc Tryd.prog ((laidWorld os).forCall (fun _ _ => 0) ⟨#[], #[.slice none 0 0, .slice none 0 0, .int .i64 0], []⟩).memory Tryd.f4.params.toList Rows.arenaMovesSpec.vars false (#[.slice none 0 0, .slice none 0 0, .int .i64 0] : Array Value).toList 8 = some ([.nil, .nil, .lit (.int .i64 0)], [], places) :=
  ⟨[], by kernel_rfl⟩

theorem lifted (os : Os) (started : os.Started) (H : Type) (enc : TypeId × Value → H) (F : Stop.Interp) :
    ReturnsInHanded {} Tryd.checked os 4 .any ((OpenSpec.ofChange Rows.arenaMovesSpec).preRow enc Tryd.prog Tryd.f4 Rows.arenaMovesRow.domain false Rows.arenaMovesRow.laid) (((OpenSpec.ofChange Rows.arenaMovesSpec).at F).post enc Tryd.prog Tryd.f4 false true false false) := by
  obtain ⟨places, hx⟩ := reads os enc
  refine returnsInHanded_of_row (C := Tryd.checked) (s := OpenSpec.ofChange Rows.arenaMovesSpec) own started (by kernel_rfl) Tryd.func4
    (witness_row_atRef (enc := enc) (C := Tryd.checked) false (laidWorld os) #[.slice none 0 0, .slice none 0 0, .int .i64 0] rfl (by kernel_rfl) (by kernel_rfl) (by kernel_rfl)
      (OpenSpec.preRow_of_cond 8 hx (by kernel_rfl) (fun k hk => by cases hk) (by kernel_rfl) (laid_met os _))) ?_
  intro W base args ds gs before hval hW _ _ _ hL _ _
  exact contract H enc W base args ds gs before hval hW hL

theorem said : Rows.ArenaMovesSaid :=
  OpenClaim.holds_of_cond 4 Tryd.f4 rfl rfl rfl rfl rfl rfl rfl ⟨rfl, rfl, rfl, rfl, rfl⟩ rfl rfl rfl rfl rfl (by kernel_rfl) Tryd.func4 (by kernel_rfl)
    (of_decide_eq_true (by kernel_rfl)) (by unfold Func.isWrapper; first | (rw [if_pos (by decide +kernel)]; kernel_rfl) | (rw [if_neg (by decide +kernel)]; exact ⟨rfl, rfl⟩))
    (fun os started H enc _ F => by rw [OpenClaim.pre_eq_preRow]; exact lifted os started H enc F)

/-- No parameter wants a stand-in; the looks are as the card has them. -/
theorem plain (f : FuncId) (fn : Func) (hf : Tryd.pinned.checked.prog.funcNamed "freshet/freshetlaw6.ArenaMoves" = some f) (hfn : Tryd.pinned.checked.prog.funcs[f]? = some fn) :
    false = Tryd.pinned.checked.prog.looks [] ∧ ∀ (j : Nat) t, fn.params[j]? = some t → Tryd.pinned.checked.prog.wantsStandIn t = false := by
  obtain rfl : f = 4 := Option.some.inj ((show Tryd.prog.funcNamed "freshet/freshetlaw6.ArenaMoves" = some 4 by kernel_rfl).symm.trans hf) |>.symm
  obtain rfl : fn = Tryd.f4 := (Option.some.inj (Tryd.func4.symm.trans hfn)).symm
  refine ⟨by kernel_rfl, fun j t ht => ?_⟩
  rw [Tryd.params4] at ht
  exact standT7 t ((show ∀ t ∈ (#[54, 55, 3] : Array TypeId).toList, t ∈ [3, 54, 9, 55, 82] by decide) t (Array.mem_toList_iff.2 (Array.mem_of_getElem? ht)))

theorem card : Rows.ArenaMovesCardSaid :=
  Claim7.holds_tied_plain_at .later [] _ _ _ _ said (fun _ h => by cases h) (by kernel_rfl) (fun _ h => by cases h) arenaMoves_row_tie rfl ⟨rfl, rfl⟩ (by kernel_rfl) rfl plain (by kernel_rfl)
end Go.Proofs.YtdbaocphglijbaaDoor.arenaMoves
