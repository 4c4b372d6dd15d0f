/- ArenaReuse of package freshetlaw6 (what was given back is free again, all of it, and comes empty, whatever stood there) returns true at every list of numbers and number, and they read as they did: the given card.
   Conditions: those of the row and of its card, none beside. -/
import Derived.Test.YtdbaocphglijbaaDoorJB20
import Derived.Test.YtdbaocphglijbaaDoorJB18
import Derived.Test.YtdbaocphglijbaaDoorJB26
/- Rows of a law's own beside its arena: what they hold, through the arena's calls, stores and appends. -/
set_option maxRecDepth 100000
namespace Go.Proofs.YtdbaocphglijbaaDoor
open Go.RowKit Go.Shelf
/-- A block that can be none of an arena's. -/
def Foreign (w : World) (k : Nat) : Prop := ∃ c e z, w.heap[k]? = some (.cells c e z) ∧ e ≠ 95 ∧ e ≠ 5 ∧ e ≠ 21 ∧ e ≠ 126 ∧ e ≠ 142
theorem Foreign.not {w : World} {k : Nat} {l : List Value} {t : TypeId} (h : Foreign w k) (hb : Blk w k l t) (ht : t = 95 ∨ t = 5 ∨ t = 21 ∨ t = 126 ∨ t = 142) : False := by
  obtain ⟨c, e, z, h1, h2, h3, h4, h5, h6⟩ := h
  have := (show w.heap[k]? = _ from hb).symm.trans h1
  injection this with this
  injection this with _ this
  subst this
  rcases ht with ht | ht | ht | ht | ht <;> contradiction
theorem HX.turn {x y : Nat → Prop} {A B : Nat} {L : List Bl} {n0 : Nat} {w w' : World} (h : HX x A B L n0 w) (hk : ∀ k, k < w.heap.size → ¬ x k → w'.heap[k]? = w.heap[k]?) (hb : Below n0 w w')
    (hy : ∀ k, y k → n0 ≤ k ∧ k < w'.heap.size ∧ (x k ∨ w.heap.size ≤ k ∨ Foreign w' k)) : HX y A B L n0 w' := by
  obtain ⟨bs, ⟨L', S, pcs, a, I, e, m⟩, hv⟩ := h.ex
  have hs := hb.size
  have one : ∀ (K : Nat) (l : List Value) (t : TypeId), (t = 95 ∨ t = 5 ∨ t = 21 ∨ t = 126 ∨ t = 142) → Blk w K l t → fx x n0 w K → Blk w' K l t ∧ fx y n0 w' K := fun K l t ht hbk hf => by
    have hB := hbk.kept (hk K hf.2.1 hf.2.2)
    refine ⟨hB, hf.1, Nat.lt_of_lt_of_le hf.2.1 hs, fun e => ?_⟩
    rcases (hy K e).2.2 with h1 | h1 | h1
    · exact hf.2.2 h1
    · have := hf.2.1; omega
    · exact h1.not hB ht
  obtain ⟨b1, f1⟩ := one _ _ _ (.inl rfl) a.box a.fA
  obtain ⟨b2, f2⟩ := one _ _ _ (.inr (.inl rfl)) a.mem a.fM
  obtain ⟨b3, f3⟩ := one _ _ _ (.inr (.inr (.inl rfl))) a.pl a.fP
  obtain ⟨b4, f4⟩ := one _ _ _ (.inr (.inr (.inr (.inl rfl)))) a.us a.fU
  obtain ⟨b5, f5⟩ := one _ _ _ (.inr (.inr (.inr (.inr rfl)))) a.nd a.fN
  exact ⟨⟨bs, ⟨L', S, pcs, ⟨b1, b2, b3, b4, b5, a.cap, a.cm, f1, f2, f3, f4, f5, fun k e => e.2.1⟩, I, e, m⟩, hv⟩, Nat.le_trans h.low hs, fun k e => (hy k e).2.1, fun k e => (hy k e).1, h.tab.below h.tlt hb, h.tlt⟩
/-- A row of the law's own. -/
structure RowIn (x : Nat → Prop) (n0 : Nat) (e : TypeId) (v : Value) (cs : List Value) (w : World) : Prop where
  own : w.ownsRow n0 e 1 v cs.length cs
  isIn : ∀ k, v.ownBlock = some k → x k
theorem ownsRow_same {w w' : World} {n0 : Nat} {e : TypeId} {v : Value} {n : Nat} {cs : List Value} (h : w.ownsRow n0 e 1 v n cs) (hk : ∀ k, v.ownBlock = some k → w'.heap[k]? = w.heap[k]?) : w'.ownsRow n0 e 1 v n cs := by
  refine ⟨h.1, ?_⟩
  rcases h.2 with h2 | ⟨g, cap, cur, rfl, h3, h4, h5⟩
  · exact .inl h2
  · exact .inr ⟨g, cap, cur, rfl, h3, (hk g rfl).trans h4, h5⟩
theorem RowIn.lx {x : Nat → Prop} {A B : Nat} {L : List Bl} {n0 : Nat} {e : TypeId} {v : Value} {cs : List Value} {w w' : World} (h : RowIn x n0 e v cs w) (k : LX x A B L n0 w w') : RowIn x n0 e v cs w' :=
  ⟨ownsRow_same h.own fun j hj => k.own j (h.isIn j hj), h.isIn⟩
theorem RowIn.below {x : Nat → Prop} {n0 : Nat} {e : TypeId} {v : Value} {cs : List Value} {w w' : World} (h : RowIn x n0 e v cs w) (hb : Below w.heap.size w w') : RowIn x n0 e v cs w' :=
  ⟨ownsRow_same h.own fun j hj => hb.block j (h.own.lt j hj).2, h.isIn⟩
theorem RowIn.same {x : Nat → Prop} {n0 : Nat} {e : TypeId} {v : Value} {cs : List Value} {w w' : World} (h : RowIn x n0 e v cs w) (hk : ∀ k, v.ownBlock = some k → w'.heap[k]? = w.heap[k]?) : RowIn x n0 e v cs w' := ⟨ownsRow_same h.own hk, h.isIn⟩
theorem RowIn.more {x y : Nat → Prop} {n0 : Nat} {e : TypeId} {v : Value} {cs : List Value} {w : World} (h : RowIn x n0 e v cs w) (hy : ∀ k, x k → y k) : RowIn y n0 e v cs w := ⟨h.own, fun k hk => hy k (h.isIn k hk)⟩
theorem RowIn.nil (x : Nat → Prop) (n0 : Nat) (e : TypeId) (w : World) : RowIn x n0 e (.slice none 0 0) [] w := ⟨World.ownsRow_nil w n0 e 1, fun k hk => by cases hk⟩
theorem RowIn.form {x : Nat → Prop} {n0 : Nat} {e : TypeId} {v : Value} {cs : List Value} {w : World} (h : RowIn x n0 e v cs w) : ∃ ao c, v = .slice ao cs.length c ∧ cs.length ≤ c := by
  rcases h.own.2 with ⟨rfl, hn⟩ | ⟨g, cap, cur, rfl, _, _, h5, _⟩
  · exact ⟨none, 0, by rw [hn], by omega⟩
  · exact ⟨_, cap, rfl, h5⟩
theorem RowIn.at_ {x : Nat → Prop} {n0 : Nat} {e : TypeId} {ao : Option Addr} {n c : Nat} {cs : List Value} {w : World} (h : RowIn x n0 e (.slice ao n c) cs w) {i : Nat} {u : Value} (hu : cs[i]? = some u) : ∃ g, ao = some ⟨g, 0, none⟩ ∧ w.cell? ⟨g, i, none⟩ = some u ∧ w.frozen? ⟨g, i, none⟩ = false ∧ n0 ≤ g ∧ x g := by
  have hlt : i < cs.length := (List.getElem?_eq_some_iff.1 hu).1
  have ho := h.own
  rcases ho.2 with ⟨e1, hn⟩ | ⟨g, cap, cur, e1, h3, _⟩
  · omega
  · cases e1
    refine ⟨g, rfl, ?_, World.ownsRow.frozenAt ho i, h3, h.isIn g rfl⟩
    have := World.ownsRow.cellAt ho i (by omega)
    rw [this, hu]
theorem ownBlock_slice (g n c : Nat) : (Value.slice (some ⟨g, 0, none⟩) n c).ownBlock = some g := rfl
/-- A store into a row. -/
theorem RowIn.put {x : Nat → Prop} {n0 : Nat} {e : TypeId} {g n c : Nat} {cs : List Value} {w : World} (h : RowIn x n0 e (.slice (some ⟨g, 0, none⟩) n c) cs w) (i : Nat) (u : Value) : RowIn x n0 e (.slice (some ⟨g, 0, none⟩) n c) (cs.set i u) (w.setCell ⟨g, i, none⟩ u) := by
  refine ⟨?_, h.isIn⟩
  have hn : n = cs.length := by
    rcases h.own.2 with ⟨e1, _⟩ | ⟨g', cap, cur, e1, _⟩
    · cases e1
    · cases e1; rfl
  have ho := h.own
  rw [← hn] at ho
  have := World.ownsRow.stored ho i u
  rw [List.length_set, ← hn]
  exact this.1
theorem RowIn.other {x : Nat → Prop} {n0 : Nat} {e : TypeId} {v : Value} {cs : List Value} {w : World} (h : RowIn x n0 e v cs w) {g : Nat} (hg : v.ownBlock ≠ some g) (i : Nat) (u : Value) : RowIn x n0 e v cs (w.setCell ⟨g, i, none⟩ u) :=
  h.same fun k hk => Below.heap_setCell w ⟨g, i, none⟩ u k (fun e => hg (by rw [hk]; exact congrArg some e))
/-- Rows of unlike types are not one. -/
theorem rows_apart {x y : Nat → Prop} {n0 n1 : Nat} {e e' : TypeId} {v v' : Value} {cs cs' : List Value} {w : World} (h : RowIn x n0 e v cs w) (h' : RowIn y n1 e' v' cs' w) (he : e ≠ e') {g : Nat} (hg : v'.ownBlock = some g) : v.ownBlock ≠ some g := fun e0 => by
  rcases h.own.2 with ⟨rfl, _⟩ | ⟨a, cap, cur, rfl, _, h4, _⟩
  · cases e0
  · rcases h'.own.2 with ⟨rfl, _⟩ | ⟨b, cap', cur', rfl, _, h4', _⟩
    · cases hg
    · cases e0
      cases hg
      rw [h4] at h4'
      injection h4' with h4'
      injection h4' with _ h4'
      exact he h4'
theorem rowMono {w : World} {n0 n1 : Nat} {e : TypeId} {v : Value} {n : Nat} {cs : List Value} (h : w.ownsRow n1 e 1 v n cs) (hb : n0 ≤ n1) : w.ownsRow n0 e 1 v n cs := by
  refine ⟨h.1, ?_⟩
  rcases h.2 with h2 | ⟨g, cap, cur, rfl, h3, h4⟩
  · exact .inl h2
  · exact .inr ⟨g, cap, cur, rfl, Nat.le_trans hb h3, h4⟩
/-- A row that Read told, or that was made: it is the law's own from then on. -/
theorem HX.take {x : Nat → Prop} {A B : Nat} {L : List Bl} {n0 : Nat} {e : TypeId} {v : Value} {n : Nat} {cs : List Value} {w w' : World} (h : HX x A B L n0 w) (hb : Below w.heap.size w w') (hr : w'.ownsRow w.heap.size e 1 v n cs) (hn : n = cs.length) :
    HX (fun k => x k ∨ v.ownBlock = some k) A B L n0 w' ∧ RowIn (fun k => x k ∨ v.ownBlock = some k) n0 e v cs w' := by
  subst hn
  refine ⟨h.turn (fun k hk _ => hb.block k hk) (hb.mono h.low) fun k hk => ?_, rowMono hr h.low, fun k hk => .inr hk⟩
  rcases hk with hk | hk
  · exact ⟨h.xlow k hk, Nat.lt_of_lt_of_le (h.xlt k hk) hb.size, .inl hk⟩
  · have := hr.lt k hk
    exact ⟨Nat.le_trans h.low this.1, this.2, .inr (.inl this.1)⟩
/-- An append to a row of numbers. -/
theorem apd_int {x : Nat → Prop} {A B : Nat} {L : List Bl} {n0 : Nat} {v : Value} {l : List Nat} {w : World} (h : HX x A B L n0 w) (hr : RowIn x n0 3 v (l.map encI) w) (hl : l.length ≤ 900000) (k : Nat) :
    ∃ v' w', (Builtin.append_ #[54, 54] 54 #[v, .slice (some ⟨w.heap.size, 0, none⟩) 1 1]).run Tryd.prog (w.alloc (.cells #[encI k] 3)) = .ok v' w' ∧ HX (fun j => x j ∨ v'.ownBlock = some j) A B L n0 w' ∧ RowIn (fun j => x j ∨ v'.ownBlock = some j) n0 3 v' ((l ++ [k]).map encI) w' ∧ Below n0 w w' ∧ (∀ j, j < w.heap.size → v.ownBlock ≠ some j → w'.heap[j]? = w.heap[j]?) ∧ (∀ g, v'.ownBlock = some g → Foreign w' g) := by
  have hown : OwnE encI 3 n0 v l w := by unfold OwnE; have := hr.own; rwa [List.length_map] at this
  have hown2 : OwnE encI 3 n0 v l (w.alloc (.cells #[encI k] 3)) := ownE_alloc hown _
  have hlow : n0 ≤ (w.alloc (.cells #[encI k] 3)).heap.size := by rw [World.size_alloc]; exact Nat.le_succ_of_le h.low
  obtain ⟨v', w', hrun, ho, ha, _⟩ := run_apd (P := Tryd.prog) encI encI_one (w.alloc (.cells #[encI k] 3)) n0 54 54 3 (.int .i64 0) 8 Tryd.underlying54 infoInt rfl v l hown2 ⟨w.heap.size, 0, none⟩ 1 1 [k] rfl (fun j u hj => cells_new w [encI k] 3 j u hj) (by omega) (by omega) hlow
  have hb : Below n0 w w' := ((Below.refl n0 w).alloc h.low _).trans ha.below
  have hsm : ∀ j, j < w.heap.size → v.ownBlock ≠ some j → w'.heap[j]? = w.heap[j]? := fun j hj hne => by
    have e1 := Below.heap_alloc w (.cells #[encI k] 3) j hj
    obtain ⟨o, ho⟩ : ∃ o, w.heap[j]? = some o := ⟨w.heap[j], Array.getElem?_eq_getElem hj⟩
    rw [ho]
    exact ha.other j o (fun e => hne e.symm) (e1.trans ho)
  have ho' : w'.ownsRow n0 3 1 v' ((l ++ [k]).map encI).length ((l ++ [k]).map encI) := by rw [List.length_map]; exact ho
  have hfor : ∀ g, v'.ownBlock = some g → Foreign w' g := fun g hg => by
    rcases ho'.2 with ⟨rfl, _⟩ | ⟨g', cap, cur, rfl, _, h4, _⟩
    · cases hg
    · cases hg
      exact ⟨_, _, _, h4, by decide, by decide, by decide, by decide, by decide⟩
  refine ⟨v', w', hrun, h.turn (fun j hj hne => hsm j hj (fun e => hne (hr.isIn j e))) hb fun j hj => ?_, ⟨ho', fun j hj => .inr hj⟩, hb, hsm, hfor⟩
  rcases hj with hj | hj
  · exact ⟨h.xlow j hj, Nat.lt_of_lt_of_le (h.xlt j hj) hb.size, .inl hj⟩
  · have hlt := ho.lt j hj
    exact ⟨hlt.1, hlt.2, .inr (.inr (hfor j hj))⟩
theorem wpList_apdI {w : World} {ops : Array Oper} {rest : List Oper} {o : Oper} {a : Act} {Q : Exit → Act → World → Prop} (hg : o.guard = none) (s z : Operand)
    (hop : o.op = Op.call { callee := Callee.builtin Builtin.append, args := #[s, z], argTypes := #[54, 54] }) (hty : o.type = 54) {x : Nat → Prop} {A B : Nat} {L : List Bl} {n0 : Nat} {v : Value} {l : List Nat} (w0 : World) (hs : a.eval s = v)
    (h : HX x A B L n0 w0) (hr : RowIn x n0 3 v (l.map encI) w0) (hl : l.length ≤ 900000) (k : Nat) (u : Value) (hw : w = w0.alloc (.cells #[u] 3)) (hu : u = encI k) (hz : a.eval z = .slice (some ⟨w0.heap.size, 0, none⟩) 1 1)
    (hK : ∀ v' w', HX (fun j => x j ∨ v'.ownBlock = some j) A B L n0 w' → RowIn (fun j => x j ∨ v'.ownBlock = some j) n0 3 v' ((l ++ [k]).map encI) w' → Below n0 w0 w' → (∀ j, j < w0.heap.size → v.ownBlock ≠ some j → w'.heap[j]? = w0.heap[j]?) → (∀ g, v'.ownBlock = some g → Foreign w' g) → wpList Tryd.prog ops Q rest (a.put o.dst v') w') :
    wpList Tryd.prog ops Q (o :: rest) a w := by
  subst hw hu
  refine wpList_plain hg fun K hK' => ?_
  obtain ⟨v', w', hrun, r1, r2, r3, r4, r5⟩ := apd_int h hr hl k
  unfold Oper.wp
  simp [execOp, hop, hty, resolve, invoke, builtin, hs, hz, hrun, Result.andThen]
  exact hK' _ _ (hK v' w' r1 r2 r3 r4 r5)
end Go.Proofs.YtdbaocphglijbaaDoor

/- ArenaReuse: what its calls do. -/
set_option maxRecDepth 100000
namespace Go.Proofs.YtdbaocphglijbaaDoor
open Go.RowKit Go.Shelf
attribute [local go_sem] Oper.semAt_some
/-- The handles from 1 on, one behind the other. -/
structure Cs (m q : Nat) (L : List Bl) : Prop where
  len : L.length = m
  at_ : ∀ i (h : i < L.length), L[i].1 = i + 1
  sz : ∀ b ∈ L, b.2.length ≤ q
theorem Cs.nil (q : Nat) : Cs 0 q [] := ⟨rfl, (fun i h => by cases h), (fun b h => by cases h)⟩
theorem Cs.add {m q : Nat} {L : List Bl} (h : Cs m q L) {d : List UInt8} (hd : d.length ≤ q) : Cs (m + 1) q (L ++ [(m + 1, d)]) := by
  refine ⟨by simp [h.len], fun i hi => ?_, fun b hb => ?_⟩
  · by_cases e : i < L.length
    · rw [List.getElem_append_left e]; exact h.at_ i e
    · have : i = L.length := by simp at hi; omega
      subst this
      rw [List.getElem_append_right (Nat.le_refl _)]
      simp [h.len]
  · rcases List.mem_append.1 hb with hb | hb
    · exact h.sz b hb
    · rw [List.mem_singleton] at hb
      subst hb
      exact hd
theorem Cs.cut {m q : Nat} {L1 L2 : List Bl} (h : Cs m q (L1 ++ L2)) (hl : Least L1 L2) : L2 = [] ∧ L1.length = m := by
  have h2 : L2 = [] := by
    cases L2 with
    | nil => rfl
    | cons b r =>
      have h1 := h.at_ L1.length (by simp)
      have h2 := hl.2 b (by simp)
      simp at h1
      omega
  subst h2
  have := h.len
  simp at this
  exact ⟨rfl, this⟩
theorem Cs.le {m q : Nat} {L : List Bl} (h : Cs m q L) : ∀ b ∈ L, b.1 ≤ m := fun b hb => by
  obtain ⟨i, hi, rfl⟩ := List.mem_iff_getElem.1 hb
  have := h.at_ i hi
  have := h.len
  omega
theorem Cs.sum {q c : Nat} (hc : ∀ k, k ≤ q → Ar.cost k ≤ c) : ∀ {L : List Bl}, (∀ b ∈ L, b.2.length ≤ q) → sumC L ≤ c * L.length
  | [], _ => by simp [sumC]
  | b :: L, h => by
    rw [sumC_cons, List.length_cons]
    have h1 := hc _ (h b (by simp))
    have h2 := Cs.sum hc (fun x hx => h x (List.mem_cons_of_mem _ hx)) (L := L)
    rw [Nat.mul_succ]
    omega
theorem cost_248 : ∀ k, k ≤ 248 → Ar.cost k ≤ 256 := fun k hk => by unfold Ar.cost; (repeat' split) <;> omega
theorem ru_alloc (x : Nat → Prop) (A m n : Nat) (L : List Bl) (n0 : Nat) (w : World) (h : HX x A 4096 L n0 w) (hc : Cs m 248 L) (hm : m ≤ 12) (hn : n ≤ 248) (hm2 : m < 12) :
    Calls Tryd.prog 17 #[.pointer (some ⟨A, 0, none⟩), .int .i64 (n : Int)] w fun e w' => e = .returned (.tuple #[.int .i64 ((m : Int) + 1), .int .i64 0]) ∧ LX x A 4096 (L ++ [(m + 1, Ar.zeros n)]) n0 w w' := by
  have hs := Cs.sum cost_248 hc.sz
  have hcn := cost_248 n hn
  have hlen := hc.len
  refine (alloc_ok x A 4096 L n0 _ n w rfl h (by omega) (by omega)).mono fun e w' ⟨L1, L2, e1, hl, he, hL⟩ => ?_
  subst e1
  obtain ⟨rfl, e2⟩ := hc.cut hl
  rw [List.append_nil]
  rw [e2] at he hL
  exact ⟨by rw [he]; norm_cast, hL⟩
theorem ru_free (x : Nat → Prop) (A B : Nat) (L : List Bl) (n0 : Nat) (z : Int) (w : World) (h : HX x A B L n0 w) :
    Calls Tryd.prog 19 #[.pointer (some ⟨A, 0, none⟩), .int .i64 z] w fun e w' => ∃ (r : Int) (L' : List Bl), e = .returned (.int .i64 r) ∧ LX x A B L' n0 w w' ∧ ∀ b ∈ L', b ∈ L ∧ (b.1 : Int) ≠ z := by
  refine (free_x x A B L n0 z w h).mono fun e w' hk => ?_
  rcases hk with ⟨k1, he, hL⟩ | ⟨L1, b, L2, rfl, e2, he, hL⟩
  · exact ⟨5, L, he, hL, fun b hb => ⟨hb, k1 b hb⟩⟩
  · refine ⟨0, L1 ++ L2, he, hL, fun c hc => ⟨by rcases List.mem_append.1 hc with hc | hc <;> simp [hc], fun e => ?_⟩⟩
    have hs := h.each.1
    rw [List.pairwise_append, List.pairwise_cons] at hs
    rcases List.mem_append.1 hc with hc | hc
    · have := hs.2.2 c hc b (by simp); omega
    · have := hs.2.1.1 c hc; omega
theorem rdB_row {x : Nat → Prop} {n0 : Nat} {v : Value} {l : List UInt8} {w : World} (h : RowIn x n0 5 v (l.map encB) w) : RdB v l w := by
  have := h.own
  rw [List.length_map] at this
  exact RdB.own this
/-- A slice of so many bytes 0 that was just made. -/
def MkZ (n : Nat) (v : Value) (W : World) : Prop := ∃ B, v = .slice (some ⟨B, 0, none⟩) n n ∧ RdB (.slice (some ⟨B, 0, none⟩) n n) (Ar.zeros n) W
theorem MkZ.below {n : Nat} {v : Value} {x y : World} (h : MkZ n v x) (hb : slotLe x y) : MkZ n v y := by
  obtain ⟨B, e, hr⟩ := h
  exact ⟨B, e, hr.below hb⟩
theorem MkZ.new (n : Nat) (W : World) : MkZ n (.slice (some ⟨W.heap.size, 0, none⟩) n n) (W.alloc (.cells (Array.replicate n (.int .u8 0)) 5)) :=
  ⟨W.heap.size, rfl, rdB_block (l := Ar.zeros n) (by have := Blk.new W ((Ar.zeros n).map encB) 5; unfold Ar.zeros at this ⊢; rw [List.map_replicate, List.toArray_replicate] at this; rw [List.map_replicate]; exact this) (zeros_len n).symm⟩
theorem zz_step {k n : Nat} {u : UInt8} (h : k < n) : ((List.replicate k u ++ List.replicate (n - k) 0).map encB).set k (encB u) = (List.replicate (k + 1) u ++ List.replicate (n - (k + 1)) 0).map encB := by
  rw [← List.map_set]
  congr 1
  rw [List.set_append_right _ _ (by simp)]
  obtain ⟨m, hm⟩ : ∃ m, n - k = m + 1 := ⟨n - k - 1, by omega⟩
  rw [hm, show n - (k + 1) = m by omega, List.replicate_succ (n := m)]
  simp [List.replicate_succ']
theorem zz_at {k n : Nat} {u : UInt8} (h : k < n) : ((List.replicate k u ++ List.replicate (n - k) 0).map encB)[k]? = some (.int .u8 0) := by
  rw [List.getElem?_map, List.getElem?_append_right (by simp), List.getElem?_replicate, if_pos (by simp; omega)]
  rfl
theorem rg_at {k m : Nat} (h : k < m) : ((List.range' 1 m).map encI)[k]? = some (.int .i64 ((k : Int) + 1)) := by
  rw [List.getElem?_map, List.getElem?_range' (by omega)]
  show some (encI _) = _
  unfold encI
  congr 2
  omega
theorem rg_len (m : Nat) : ((List.range' 1 m).map encI).length = m := by simp
theorem rg_add (m : Nat) : List.range' 1 m ++ [m + 1] = List.range' 1 (m + 1) := by rw [List.range'_1_concat, Nat.add_comm 1 m]
theorem ru_new (w : World) (hT : TabOk w) : Calls Tryd.prog 15 #[.int .i64 4096] w fun e w' => ∃ A, e = .returned (.tuple #[.pointer (some ⟨A, 0, none⟩), .int .i64 0]) ∧ HX (fun _ => False) A 4096 [] w.heap.size w' ∧ Below w.heap.size w w' :=
  new_x 4096 w (by decide) (by decide) hT
theorem ru_read (x : Nat → Prop) (A m n : Nat) (L : List Bl) (n0 : Nat) (z : Int) (w : World) (hz : z = (m : Int) + 1) (h : HX x A 4096 (L ++ [(m + 1, Ar.zeros n)]) n0 w) :
    Calls Tryd.prog 21 #[.pointer (some ⟨A, 0, none⟩), .int .i64 z, .int .i64 0, .int .i64 (n : Int)] w fun e w' => ∃ (v : Value) (y : Nat → Prop), e = .returned (.tuple #[v, .int .i64 0]) ∧ HX y A 4096 (L ++ [(m + 1, Ar.zeros n)]) n0 w' ∧ RowIn y n0 5 v ((Ar.zeros n).map encB) w' ∧ (∀ k, x k → y k) ∧ Below w.heap.size w w' := by
  refine (read_ok x A 4096 _ (m + 1, Ar.zeros n) n0 z 0 (n : Int) 0 n w (by rw [hz]; norm_cast) rfl rfl (by simp) h (by rw [zeros_len]; omega)).mono fun e w' ⟨v, he, hr, hL, hb⟩ => ?_
  have e1 : ((Ar.zeros n).drop 0).take n = Ar.zeros n := by rw [List.drop_zero, List.take_of_length_le (by rw [zeros_len]; omega)]
  rw [e1] at hr
  obtain ⟨h1, h2⟩ := h.take hb hr (by rw [List.length_map, zeros_len])
  exact ⟨v, _, he, h1, h2, fun k hk => .inl hk, hb⟩
theorem put_all (d l : List UInt8) (h : l.length = d.length) : Ar.put d 0 l = l := by
  unfold Ar.put
  rw [Nat.zero_add, h, List.drop_length]
  simp
theorem ru_write (x : Nat → Prop) (A m n : Nat) (L : List Bl) (n0 : Nat) (z : Int) (v : Value) (l : List UInt8) (w : World) (hz : z = (m : Int) + 1) (h : HX x A 4096 (L ++ [(m + 1, Ar.zeros n)]) n0 w) (hv : RowIn x n0 5 v (l.map encB) w) (hl : l.length = n) :
    Calls Tryd.prog 23 #[.pointer (some ⟨A, 0, none⟩), .int .i64 z, .int .i64 0, v] w fun e w' => e = .returned (.int .i64 0) ∧ LX x A 4096 (L ++ [(m + 1, l)]) n0 w w' := by
  refine (write_ok x A 4096 L [] (m + 1, Ar.zeros n) n0 z 0 0 v l w (by rw [hz]; norm_cast) rfl h (rdB_row hv) (by rw [zeros_len]; omega)).mono fun e w' ⟨he, hL⟩ => ⟨he, ?_⟩
  rw [put_all _ _ (by rw [zeros_len, hl])] at hL
  exact hL
end Go.Proofs.YtdbaocphglijbaaDoor

/- ArenaReuse: the walk. -/
set_option maxRecDepth 100000
namespace Go.Proofs.YtdbaocphglijbaaDoor
open Go.RowKit Go.Shelf
attribute [local go_sem] Oper.semAt_some
structure RuSt (x : Nat → Prop) (A m : Nat) (v : Value) (L : List Bl) (w0 w : World) : Prop where
  hx : HX x A 4096 L w0.heap.size w
  row : RowIn x w0.heap.size 3 v ((List.range' 1 m).map encI) w
  cs : Cs m 248 L
  bel : Below w0.heap.size w0 w
structure RuF (x : Nat → Prop) (A m n : Nat) (v b : Value) (d : List UInt8) (L : List Bl) (w0 w : World) : Prop where
  hx : HX x A 4096 (L ++ [(m + 1, Ar.zeros n)]) w0.heap.size w
  row : RowIn x w0.heap.size 3 v ((List.range' 1 m).map encI) w
  bs : RowIn x w0.heap.size 5 b (d.map encB) w
  cs : Cs m 248 L
  bel : Below w0.heap.size w0 w
theorem RuF.put {x : Nat → Prop} {A m n g c q : Nat} {v : Value} {d d' : List UInt8} {L : List Bl} {w0 w : World} (h : RuF x A m n v (.slice (some ⟨g, 0, none⟩) q c) d L w0 w) (i : Nat) (u : Value) (hd : (d.map encB).set i u = d'.map encB) : RuF x A m n v (.slice (some ⟨g, 0, none⟩) q c) d' L w0 (w.setCell ⟨g, i, none⟩ u) :=
  ⟨h.hx.put (h.bs.isIn g rfl) i u, h.row.other (rows_apart h.row h.bs (by decide) rfl) i u, by rw [← hd]; exact h.bs.put i u, h.cs, h.bel.setCell (h.hx.xlow g (h.bs.isIn g rfl)) u⟩
set_option maxHeartbeats 64000000 in
theorem reuse_in (sizes : List Int) (sv : Value) (times : Nat) (w : World) (hT : TabOk w) (hg : ReadI sv sizes w) (hz : ∀ z ∈ sizes, -9223372036854775808 ≤ z ∧ z ≤ 9223372036854775807) (hl : sizes.length ≤ 12) (ht1 : 1 ≤ times) (ht2 : times ≤ 10) :
    Calls Tryd.prog 8 #[sv, .int .i64 (times : Int)] w fun e w' => e = .returned (.bool true) ∧ Below w.heap.size w w' := by
  have HT := Lib.hid hT
  have HG := Lib.hid hg
  have HZ := Lib.hid hz
  obtain ⟨ao, cap, rfl, _⟩ := hg.form
  clear hT hg hz
  have n1 : ¬ 12 < sizes.length := by omega
  have n2 : ¬ (times : Int) < 1 := by omega
  have n3 : ¬ (10 : Int) < times := by omega
  go_enter Tryd.func8, Tryd.ntmps8
  go_wp2_with (go_at_call 15; with_reducible refine (ru_new _ HT.out).mono ?_; rintro e w1 ⟨A, rfl, hA1, hb1⟩; have HA1 := Lib.hid hA1; have HB1 := Lib.hid hb1; clear hA1 hb1)
  go_loopw [7] (fun t wr => ∃ (k : Nat) (x : Nat → Prop), t = .int .i64 (k : Int) ∧ k ≤ times ∧ Hid (HX x A 4096 [] w.heap.size wr) ∧ Hid (Below w.heap.size w wr)) (fun t _ => times + 1 - (intOf t).toNat)
  case atStart => exact ⟨0, _, rfl, Nat.zero_le _, HA1, HB1⟩
  case round =>
    obtain ⟨kt, x0, rfl, hkt, HX0, HBel0⟩ := hrel
    clear HA1 HB1
    by_cases hlt : kt < times
    · go_wp2
      have HS0 := Lib.hid (show RuSt x0 A 0 (.slice none 0 0) [] w wr from ⟨HX0.out, RowIn.nil _ _ _ _, Cs.nil _, HBel0.out⟩)
      generalize hWR : wr = WR at *
      clear hWR
      go_loopw [8, 9, 10] (fun hs sm i wr => ∃ (m s c : Nat) (ao1 : Option Addr) (x : Nat → Prop) (L : List Bl), hs = .slice ao1 m c ∧ sm = .int .i64 (s : Int) ∧ i = .int .i64 (m : Int) ∧ m ≤ sizes.length ∧ s ≤ 256 * m ∧ Hid (s = sumC L) ∧ Hid (RuSt x A m (.slice ao1 m c) L w wr)) (fun _ _ i _ => sizes.length + 1 - (intOf i).toNat)
      case atStart => exact ⟨0, 0, 0, none, x0, [], rfl, rfl, rfl, Nat.zero_le _, Nat.zero_le _, Lib.hid rfl, HS0⟩
      case round =>
        obtain ⟨m, s, c, ao1, x, L, rfl, rfl, rfl, hm, hs, HSUM, HS⟩ := hrel
        clear HS0 HX0 HBel0
        by_cases hlt2 : m < sizes.length
        · obtain ⟨b, off, hao, hgc⟩ := (readI_below HG.out HS.out.bel).form_at hlt2
          have hzk := HZ.out _ (List.getElem_mem hlt2)
          have hrb := roundI_bounds sizes[m] 249 (by omega)
          obtain ⟨n, hn⟩ : ∃ n : Nat, roundI sizes[m] 249 = (n : Int) := ⟨(roundI sizes[m] 249).toNat, by omega⟩
          have HR := Lib.hid (fun W => by have h := round_any sizes[m] 249 W (by omega) (by omega) hzk.1 hzk.2; rw [hn] at h; exact h)
          have hn2 : n ≤ 248 := by omega
          clear hrb hn hzk
          subst hao
          have HMK := Lib.hid (fun W => by have h := make_one (e := 5) Tryd.underlying34 infoU8 (by decide) rfl (n : Int) n rfl (by omega) W; rw [List.toArray_replicate] at h; exact h)
          go_wp2_with (first
            | (go_at_call 28; with_reducible refine (HR.out _).mono ?_; rintro e w' ⟨rfl, rfl⟩)
            | (go_at_call 17; with_reducible refine (ru_alloc x A m n L _ _ HS.out.hx HS.out.cs (by omega) hn2 (by omega)).mono ?_; rintro e w4 ⟨rfl, h4⟩; have H4 := Lib.hid h4; clear h4)
            | (go_at_call 21; with_reducible refine (ru_read x A m n L _ _ _ rfl H4.out.at_).mono ?_; rintro e w5 ⟨v5, y, rfl, h5, r5, hy, hb5⟩; have HX5 := Lib.hid h5; have HB5 := Lib.hid r5; have HR5 := Lib.hid (((HS.out.row.lx H4.out).below hb5).more hy); have HBel5 := Lib.hid ((HS.out.bel.trans H4.out.below).trans (hb5.mono H4.out.at_.low)); obtain ⟨ao2, c2, hv5, _⟩ := r5.form; rw [List.length_map, zeros_len] at hv5; subst hv5; clear h5 r5 hy hb5))
          go_cut [82] from 73 to 82 (fun f wx => f = .bool false ∧ Below w5.heap.size w5 wx)
          case first =>
            refine wp_region_slots slotLe (slotPhi ((fun v _ => v = ?r73) :: (fun v _ => v = ?r74) :: (fun v _ => v = ?r75) :: (fun v _ => v = ?r76) :: (fun v _ => v = .string ⟨(Ar.zeros n).toArray⟩) :: (fun v _ => v = ?r78) :: (MkZ n) :: (fun v _ => v = .string ⟨(Ar.zeros n).toArray⟩) :: (fun v _ => v = .bool false) :: (fun v _ => v = ?r82) :: [])) slotLe_refl slotLe_trans (slotPhi_stable ?stb) (by kernel_rfl) (by kernel_rfl) (by kernel_rfl) ?steps ?fin
            case stb =>
              refine ⟨by intro _ _ _ _ h; exact h, ?_⟩
              refine ⟨by intro _ _ _ _ h; exact h, ?_⟩
              refine ⟨by intro _ _ _ _ h; exact h, ?_⟩
              refine ⟨by intro _ _ _ _ h; exact h, ?_⟩
              refine ⟨by intro _ _ _ _ h; exact h, ?_⟩
              refine ⟨by intro _ _ _ _ h; exact h, ?_⟩
              refine ⟨fun _ _ _ h q => MkZ.below q h, ?_⟩
              refine ⟨by intro _ _ _ _ h; exact h, ?_⟩
              refine ⟨by intro _ _ _ _ h; exact h, ?_⟩
              refine ⟨by intro _ _ _ _ h; exact h, ?_⟩
              exact trivial
            case steps =>
              refine ⟨?_, ?_⟩
              · intro a W K N hK
                have e15 : a.tmps[15]?.getD undef = .int .i64 0 := N.was' 15 _ (by kernel_rfl) rfl
                rw [if_pos (wanted_no rfl)]
                go_simp
                refine hK _ _ (slotLe_refl _) ?_
                exact rfl
              refine ⟨?_, ?_⟩
              · intro a W K N hK
                have e73 : a.tmps[73]?.getD undef = _ := N.dep' 0 73 (by kernel_rfl)
                rw [if_pos (wanted_no rfl)]
                go_simp
                refine hK _ _ (slotLe_refl _) ?_
                exact rfl
              refine ⟨?_, ?_⟩
              · intro a W K N hK
                have e74 : a.tmps[74]?.getD undef = _ := N.dep' 1 74 (by kernel_rfl)
                rw [if_pos (wanted_no rfl)]
                go_simp
                refine hK _ _ (slotLe_refl _) ?_
                exact rfl
              refine ⟨?_, ?_⟩
              · intro a W K N hK
                have e14 : a.tmps[14]?.getD undef = .slice ao2 n c2 := N.was' 14 _ (by kernel_rfl) rfl
                have eg : a.tmps[75]?.getD undef = .bool false := N.dep' 2 75 (by kernel_rfl)
                rw [if_pos (by rw [wanted_get (g := 2) (d := 75) rfl rfl eg]; decide)]
                clear eg
                go_simp
                refine hK _ _ (slotLe_refl _) ?_
                exact rfl
              refine ⟨?_, ?_⟩
              · intro a W K N hK
                have e76 : a.tmps[76]?.getD undef = _ := N.dep' 3 76 (by kernel_rfl)
                have eg : a.tmps[75]?.getD undef = .bool false := N.dep' 2 75 (by kernel_rfl)
                rw [if_pos (by rw [wanted_get (g := 2) (d := 75) rfl rfl eg]; decide)]
                clear eg
                have hcv := run_rd_any ((rdB_row HB5.out).below (below_undrew N.le))
                go_simp
                refine hK _ _ (slotLe_refl _) ?_
                exact rfl
              refine ⟨?_, ?_⟩
              · intro a W K N hK
                have e11 : a.tmps[11]?.getD undef = .int .i64 (n : Int) := N.was' 11 _ (by kernel_rfl) rfl
                have eg : a.tmps[75]?.getD undef = .bool false := N.dep' 2 75 (by kernel_rfl)
                rw [if_pos (by rw [wanted_get (g := 2) (d := 75) rfl rfl eg]; decide)]
                clear eg
                go_simp
                refine hK _ _ (slotLe_refl _) ?_
                exact rfl
              refine ⟨?_, ?_⟩
              · intro a W K N hK
                have e78 : a.tmps[78]?.getD undef = _ := N.dep' 5 78 (by kernel_rfl)
                have eg : a.tmps[75]?.getD undef = .bool false := N.dep' 2 75 (by kernel_rfl)
                rw [if_pos (by rw [wanted_get (g := 2) (d := 75) rfl rfl eg]; decide)]
                clear eg
                have hmk := HMK.out W
                go_simp
                refine hK _ _ ((RowKit.Below.refl _ W).alloc (Nat.le_refl _) _) ?_
                exact MkZ.new n W
              refine ⟨?_, ?_⟩
              · intro a W K N hK
                have e79 := Lib.hid (show (MkZ n) (a.tmps[79]?.getD undef) W from N.dep' 6 79 (by kernel_rfl))
                have eg : a.tmps[75]?.getD undef = .bool false := N.dep' 2 75 (by kernel_rfl)
                rw [if_pos (by rw [wanted_get (g := 2) (d := 75) rfl rfl eg]; decide)]
                clear eg
                obtain ⟨B5, h5, h6⟩ := e79.out
                have hcv := run_rd_any h6
                go_simp
                refine hK _ _ (slotLe_refl _) ?_
                exact rfl
              refine ⟨?_, ?_⟩
              · intro a W K N hK
                have e77 := Lib.hid (show (fun v _ => v = .string ⟨(Ar.zeros n).toArray⟩) (a.tmps[77]?.getD undef) W from N.dep' 4 77 (by kernel_rfl))
                have e80 := Lib.hid (show (fun v _ => v = .string ⟨(Ar.zeros n).toArray⟩) (a.tmps[80]?.getD undef) W from N.dep' 7 80 (by kernel_rfl))
                have eg : a.tmps[75]?.getD undef = .bool false := N.dep' 2 75 (by kernel_rfl)
                rw [if_pos (by rw [wanted_get (g := 2) (d := 75) rfl rfl eg]; decide)]
                clear eg
                have e7 := e77.out
                have e8 := e80.out
                go_simp
                refine hK _ _ (slotLe_refl _) ?_
                exact rfl
              refine ⟨?_, ?_⟩
              · intro a W K N hK
                have e75 : a.tmps[75]?.getD undef = _ := N.dep' 2 75 (by kernel_rfl)
                have e81 := Lib.hid (show (fun v _ => v = .bool false) (a.tmps[81]?.getD undef) W from N.dep' 8 81 (by kernel_rfl))
                rw [if_pos (wanted_no rfl)]
                have e9 := e81.out
                go_simp
                refine hK _ _ (slotLe_refl _) ?_
                exact rfl
              exact trivial
            case fin =>
              intro W hW
              simp only [FinAll, slotPhi, List.getD_cons_zero, List.getD_cons_succ, forall_eq, Act.put, List.setIfInBounds_toArray, List.set_cons_zero, List.set_cons_succ]
              repeat (intro _ _)
              have hbW := below_undrew hW
              go_wp2
              go_meet
              case rel => exact ⟨rfl, hbW⟩

          case rest =>
            obtain ⟨rfl, hb6⟩ := hcut
            have HF0 := Lib.hid (show RuF y A m n (.slice ao1 m c) (.slice ao2 n c2) (List.replicate 0 (122 : UInt8) ++ List.replicate (n - 0) 0) L w wc from ⟨HX5.out.after hb6, HR5.out.below hb6, HB5.out.below hb6, HS.out.cs, HBel5.out.trans (hb6.mono HX5.out.low)⟩)
            clear HX5 HB5 HR5 HBel5 hb6 H4 HS HMK HR
            go_wp2
            go_loopw [16] (fun i wr => ∃ k : Nat, i = .int .i64 (k : Int) ∧ k ≤ n ∧ Hid (RuF y A m n (.slice ao1 m c) (.slice ao2 n c2) (List.replicate k (122 : UInt8) ++ List.replicate (n - k) 0) L w wr)) (fun i _ => n + 1 - (intOf i).toNat)
            case atStart => exact ⟨0, rfl, Nat.zero_le _, HF0⟩
            case round =>
              obtain ⟨k, rfl, hk, HF⟩ := hrel
              clear HF0
              by_cases hlt3 : k < n
              · obtain ⟨g, hg2, hcell, hfr, _, _⟩ := HF.out.bs.at_ (zz_at hlt3)
                subst hg2
                go_wp2
                go_roundw
                case rel => exact ⟨k + 1, by go_num, by omega, Lib.hid (HF.out.put k (.int .u8 122) (zz_step hlt3))⟩
                case measure => simp [intOf]; omega
              · have hkn : k = n := by omega
                subst hkn
                have hlen : (List.replicate k (122 : UInt8) ++ List.replicate (k - k) 0).length = k := by simp
                obtain ⟨cc, hcc⟩ : ∃ cc, Ar.cost k = cc := ⟨_, rfl⟩
                have hcc2 := cost_248 k hn2
                rw [hcc] at hcc2
                have HCO := Lib.hid (fun W => by have h := cost_any (k : Int) W; rw [Ar.costI_nat (by omega), hcc] at h; exact h)
                generalize hd : List.replicate k (122 : UInt8) ++ List.replicate (k - k) 0 = d at HF hlen
                have HLEN := Lib.hid hlen
                have HCC := Lib.hid hcc
                clear hd hlen hcc hk
                go_upto_region 28 with (first
                  | (go_at_call 23; with_reducible refine (ru_write y A m k L _ _ _ d _ rfl HF.out.hx HF.out.bs HLEN.out).mono ?_; rintro e w7 ⟨rfl, h7⟩; have H7 := Lib.hid h7; clear h7)
                  | (go_at_call 30; with_reducible refine (HCO.out _).mono ?_; rintro e w' ⟨rfl, rfl⟩))
                have HR7 := Lib.hid (HF.out.row.lx H7.out)
                go_wp2_with (at_builtin; refine wpList_apdI rfl _ _ rfl rfl w7 rfl H7.out.at_ HR7.out (by simp; omega) (m + 1) _ rfl (by unfold encI; norm_cast) rfl ?_; intro v8 w8 hx8 r8 b8 _ _; rw [rg_add] at r8; obtain ⟨ao8, c8, hv8, _⟩ := r8.form; rw [rg_len] at hv8; subst hv8; have HS8 := Lib.hid (show RuSt _ A (m + 1) (.slice ao8 (m + 1) c8) (L ++ [(m + 1, d)]) w w8 from ⟨hx8, r8, HF.out.cs.add (by rw [HLEN.out]; exact hn2), (HF.out.bel.trans H7.out.below).trans b8⟩); clear hx8 r8 b8)
                go_roundw
                case rel => exact ⟨m + 1, s + cc, c8, ao8, _, _, by go_num, by go_num, by go_num, by omega, by omega, Lib.hid (by rw [sumC_app, sumC_cons, sumC_nil, HLEN.out, HCC.out, HSUM.out]; rfl), HS8⟩
                case measure => simp [intOf]; omega
        · have HU := Lib.hid (fun W h => by have k := used_x x A 4096 L w.heap.size W h; rw [← HSUM.out] at k; exact k)
          have HLF := Lib.hid (fun W h => by have k := left_x x A 4096 L w.heap.size W h; rw [← HSUM.out] at k; exact k)
          have hs2 : s ≤ 4096 := by have := HS.out.hx.sum_le; have := HSUM.out; omega
          have e4 : ((4096 - s : Nat) : Int) = 4096 - (s : Int) := by omega
          have HL2 := Lib.hid (fun W h => by have k := HLF.out W h; rw [e4] at k; exact k)
          clear HLF e4
          go_wp2_with (first
            | (go_at_call 31; with_reducible refine (HU.out _ HS.out.hx).mono ?_; rintro e w' ⟨rfl, rfl⟩)
            | (go_at_call 29; with_reducible refine (HL2.out _ HS.out.hx).mono ?_; rintro e w' ⟨rfl, rfl⟩))
          have HF0 := Lib.hid (show ∀ b ∈ L, b.1 ≤ m from HS.out.cs.le)
          have HX0 := Lib.hid HS.out.hx
          have HW0 := Lib.hid HS.out.row
          have HE0 := Lib.hid HS.out.bel
          have hm12 : m ≤ 12 := by omega
          clear HU HL2 HS HSUM hlt2 hs hs2 hm
          go_loopw [17] (fun i wr => ∃ (q : Nat) (L' : List Bl), i = .int .i64 (q : Int) ∧ q ≤ m ∧ Hid (∀ b ∈ L', b.1 ≤ m) ∧ Hid (HX x A 4096 L' w.heap.size wr) ∧ Hid (RowIn x w.heap.size 3 (.slice ao1 m c) ((List.range' 1 m).map encI) wr) ∧ Hid (Below w.heap.size w wr)) (fun i _ => m + 1 - (intOf i).toNat)
          case atStart => exact ⟨0, L, rfl, Nat.zero_le _, HF0, HX0, HW0, HE0⟩
          case round =>
            obtain ⟨q, L1, rfl, hq, HF1, HX1, HW1, HE1⟩ := hrel
            clear HF0 HX0 HW0 HE0
            by_cases hlt4 : q < m
            · have hm0 : (0 : Int) < (m : Int) := by omega
              have hr1 : (q * 7 + kt) % m < m := Nat.mod_lt _ (by omega)
              obtain ⟨r, hr⟩ : ∃ r, (q * 7 + kt) % m = r := ⟨_, rfl⟩
              have hri : ((q : Int) * 7 + (kt : Int)) % (m : Int) = (r : Int) := by rw [← hr]; norm_cast
              rw [hr] at hr1
              clear hr
              have hpos : (0 : Int) ≤ (q : Int) * 7 + (kt : Int) := by omega
              obtain ⟨g, hg2, hcell, _, _, _⟩ := HW1.out.at_ (rg_at hr1)
              subst hg2
              go_wp2_with (go_at_call 19; with_reducible refine (ru_free x A 4096 L1 _ _ _ HX1.out).mono ?_; rintro e w5 ⟨z5, L5, rfl, h5, hb5⟩; have H5 := Lib.hid h5; have HB5 := Lib.hid hb5; clear h5 hb5)
              go_roundw
              case rel => exact ⟨q + 1, L5, by go_num, by omega, Lib.hid (fun b hb => HF1.out b (HB5.out b hb).1), Lib.hid H5.out.at_, Lib.hid (HW1.out.lx H5.out), Lib.hid (HE1.out.trans H5.out.below)⟩
              case measure => simp [intOf]; omega
            · go_wp2
              go_loopw [19] (fun i wr => ∃ (q : Nat) (L' : List Bl), i = .int .i64 (q : Int) ∧ q ≤ m ∧ Hid (∀ b ∈ L', q < b.1 ∧ b.1 ≤ m) ∧ Hid (HX x A 4096 L' w.heap.size wr) ∧ Hid (RowIn x w.heap.size 3 (.slice ao1 m c) ((List.range' 1 m).map encI) wr) ∧ Hid (Below w.heap.size w wr)) (fun i _ => m + 1 - (intOf i).toNat)
              case atStart => exact ⟨0, L1, rfl, Nat.zero_le _, Lib.hid (fun b hb => ⟨(HX1.out.each.2 b hb).1, HF1.out b hb⟩), HX1, HW1, HE1⟩
              case round =>
                obtain ⟨q2, L2, rfl, hq2, HF2, HX2, HW2, HE2⟩ := hrel
                clear HF1 HX1 HW1 HE1
                by_cases hlt5 : q2 < m
                · obtain ⟨g, hg2, hcell, _, _, _⟩ := HW2.out.at_ (rg_at hlt5)
                  subst hg2
                  go_wp2_with (go_at_call 19; with_reducible refine (ru_free x A 4096 L2 _ _ _ HX2.out).mono ?_; rintro e w5 ⟨z5, L5, rfl, h5, hb5⟩; have H5 := Lib.hid h5; have HB5 := Lib.hid hb5; clear h5 hb5)
                  go_roundw
                  case rel => exact ⟨q2 + 1, L5, by go_num, by omega, Lib.hid (fun b hb => by have h1 := HF2.out b (HB5.out b hb).1; have h2 := (HB5.out b hb).2; omega), Lib.hid H5.out.at_, Lib.hid (HW2.out.lx H5.out), Lib.hid (HE2.out.trans H5.out.below)⟩
                  case measure => simp [intOf]; omega
                · have hnil : L2 = [] := by
                    cases L2 with
                    | nil => rfl
                    | cons b r => have := HF2.out b (by simp); omega
                  subst hnil
                  go_wp2_with (first
                    | (go_at_call 31; with_reducible refine (used_x x A 4096 [] _ _ HX2.out).mono ?_; rintro e w' ⟨rfl, rfl⟩; simp only [sumC_nil])
                    | (go_at_call 25; with_reducible refine (compact_x x A 4096 [] _ _ HX2.out).mono ?_; rintro e w6 ⟨rfl, h6⟩; have H6 := Lib.hid h6; clear h6; simp only [sumC_nil]))
                  go_roundw
                  case rel => exact ⟨kt + 1, x, by go_num, by omega, Lib.hid H6.out.at_, Lib.hid (HE2.out.trans H6.out.below)⟩
                  case measure => simp [intOf]; omega
    · go_wp2_with (go_at_call 14; with_reducible refine (awake_any _ HX0.out.tab).mono ?_; rintro e w' ⟨rfl, hb⟩)
      go_ret
      exact ⟨rfl, HBel0.out.trans (hb.mono HBel0.out.size)⟩
set_option maxHeartbeats 8000000 in
theorem reuse_any (sizes : List Int) (sv : Value) (times : Int) (w : World) (hT : TabOk w) (hg : ReadI sv sizes w) (hz : ∀ z ∈ sizes, -9223372036854775808 ≤ z ∧ z ≤ 9223372036854775807) (hl : sizes.length ≤ 9223372036854775807) :
    Calls Tryd.prog 8 #[sv, .int .i64 times] w fun e w' => e = .returned (.bool true) ∧ Below w.heap.size w w' := by
  by_cases h : 12 < sizes.length ∨ times < 1 ∨ 10 < times
  · have HT := Lib.hid hT
    obtain ⟨ao, cap, rfl, _⟩ := hg.form
    clear hT hg hz
    go_enter Tryd.func8, Tryd.ntmps8
    by_cases h1 : 12 < sizes.length
    · go_wp2_with (go_at_call 14; with_reducible refine (awake_any _ HT.out).mono ?_; rintro e w' ⟨rfl, hb⟩)
      go_ret
      exact ⟨rfl, hb⟩
    by_cases h2 : times < 1
    · go_wp2_with (go_at_call 14; with_reducible refine (awake_any _ HT.out).mono ?_; rintro e w' ⟨rfl, hb⟩)
      go_ret
      exact ⟨rfl, hb⟩
    have h3 : 10 < times := by omega
    go_wp2_with (go_at_call 14; with_reducible refine (awake_any _ HT.out).mono ?_; rintro e w' ⟨rfl, hb⟩)
    go_ret
    exact ⟨rfl, hb⟩
  · obtain ⟨t, rfl⟩ : ∃ t : Nat, times = (t : Int) := ⟨times.toNat, by omega⟩
    exact reuse_in sizes sv t w hT hg hz (by omega) (by omega) (by omega)
end Go.Proofs.YtdbaocphglijbaaDoor

/- ArenaReuse of package freshetlaw6 (what was given back is free again, all of it, and comes empty, whatever stood there) returns true at every list of numbers and number, and they read as they did: the given card.
   Conditions: those of the row and of its card, none beside. -/
set_option maxRecDepth 100000
namespace Go.Proofs.YtdbaocphglijbaaDoor.arenaReuse
open Go.ChangeShapes Go.WideShapes Go.ChangeAt Go.RowKit

theorem contract (H : Type) (enc : TypeId × Value → H) (W : World) (base : Nat) (args : Array Value) (ds gs : List (DataW H)) (before : List MemPlace)
    (hval : ∀ (j : Nat) t v, Tryd.f8.params[j]? = some t → args[j]? = some v → Value.okWide Tryd.prog W .any base t v)
    (hW : DataW.Whole enc Tryd.prog Tryd.f8.params.toList Rows.arenaReuseSpec.vars false W args.toList ds gs before) (hL : laidMetH Tryd.prog laidList W) :
    Calls Tryd.prog 8 args W fun e W' => ∃ v, e = .returned v ∧ Rows.arenaReuseSpec.post enc Tryd.prog Tryd.f8 false true false false W args v W' := by
  have hW' := hW
  obtain ⟨p, q, hA0, hV, rfl, _, _⟩ := hW
  have hA : DataW.TrodAll enc Tryd.prog W 0 (fun _ => true) true Tryd.f8.params.toList args.toList ds p := hA0
  clear hA0
  rw [Tryd.params8] at hA hval
  obtain ⟨v0, vs0, d0, ds0, p0, q0, hargs0, rfl, rfl, h0, r0⟩ := trodAll_cons hA
  obtain ⟨v1, vs1, d1, ds1, p1, q1, hargs1, rfl, rfl, h1, r1⟩ := trodAll_cons r0
  subst hargs1
  obtain ⟨rfl, rfl, rfl⟩ := trodAll_nil r1
  obtain rfl : args = #[v0, v1] := by cases args; simp_all
  obtain ⟨rfl, rfl⟩ := trodVars_none hV
  obtain ⟨z0, hr0, hb0, hl0⟩ := arg_ints (hval 0 _ v0 rfl rfl) h0
  obtain ⟨z1, rfl, hz1⟩ := arg_int (hval 1 _ _ rfl rfl) h1
  have hL' := tabOk hL
  refine (reuse_any z0 v0 z1 W hL' hr0 hb0 (by rw [maxLen_eq] at hl0; exact hl0)).mono fun e W' ⟨he, hbl⟩ => ?_
  exact ⟨_, he, law_post hW' rfl hbl rfl rfl (fun t ht => readT7 t (by rw [Tryd.params8] at ht; exact (show ∀ t ∈ (#[54, 3] : Array TypeId).toList, t ∈ [3, 54, 9, 55, 82] by decide) t ht))⟩

theorem reads (os : Os) {H : Type} (enc : TypeId × Value → H) : ∃ places, DataW.whole enc Tryd.prog ((laidWorld os).forCall (fun _ _ => 0) ⟨#[], #[.slice none 0 0, .int .i64 0], []⟩).memory Tryd.f8.params.toList Rows.arenaReuseSpec.vars false (#[.slice none 0 0, .int .i64 0] : Array Value).toList 8 = some ([.nil, .lit (.int .i64 0)], [], places) :=
  ⟨[], by kernel_rfl⟩

theorem lifted (os : Os) (started : os.Started) (H : Type) (enc : TypeId × Value → H) (F : Stop.Interp) :
    ReturnsInHanded {} Tryd.checked os 8 .any ((OpenSpec.ofChange Rows.arenaReuseSpec).preRow enc Tryd.prog Tryd.f8 Rows.arenaReuseRow.domain false Rows.arenaReuseRow.laid) (((OpenSpec.ofChange Rows.arenaReuseSpec).at F).post enc Tryd.prog Tryd.f8 false true false false) := by
  obtain ⟨places, hx⟩ := reads os enc
  refine returnsInHanded_of_row (C := Tryd.checked) (s := OpenSpec.ofChange Rows.arenaReuseSpec) own started (by kernel_rfl) Tryd.func8
    (witness_row_atRef (enc := enc) (C := Tryd.checked) false (laidWorld os) #[.slice none 0 0, .int .i64 0] rfl (by kernel_rfl) (by kernel_rfl) (by kernel_rfl)
      (OpenSpec.preRow_of_cond 8 hx (by kernel_rfl) (fun k hk => by cases hk) (by kernel_rfl) (laid_met os _))) ?_
  intro W base args ds gs before hval hW _ _ _ hL _ _
  exact contract H enc W base args ds gs before hval hW hL

theorem said : Rows.ArenaReuseSaid :=
  OpenClaim.holds_of_cond 8 Tryd.f8 rfl rfl rfl rfl rfl rfl rfl ⟨rfl, rfl, rfl, rfl, rfl⟩ rfl rfl rfl rfl rfl (by kernel_rfl) Tryd.func8 (by kernel_rfl)
    (of_decide_eq_true (by kernel_rfl)) (by unfold Func.isWrapper; first | (rw [if_pos (by decide +kernel)]; kernel_rfl) | (rw [if_neg (by decide +kernel)]; exact ⟨rfl, rfl⟩))
    (fun os started H enc _ F => by rw [OpenClaim.pre_eq_preRow]; exact lifted os started H enc F)

/-- No parameter wants a stand-in; the looks are as the card has them. -/
theorem plain (f : FuncId) (fn : Func) (hf : Tryd.pinned.checked.prog.funcNamed "freshet/freshetlaw6.ArenaReuse" = some f) (hfn : Tryd.pinned.checked.prog.funcs[f]? = some fn) :
    false = Tryd.pinned.checked.prog.looks [] ∧ ∀ (j : Nat) t, fn.params[j]? = some t → Tryd.pinned.checked.prog.wantsStandIn t = false := by
  obtain rfl : f = 8 := Option.some.inj ((show Tryd.prog.funcNamed "freshet/freshetlaw6.ArenaReuse" = some 8 by kernel_rfl).symm.trans hf) |>.symm
  obtain rfl : fn = Tryd.f8 := (Option.some.inj (Tryd.func8.symm.trans hfn)).symm
  refine ⟨by kernel_rfl, fun j t ht => ?_⟩
  rw [Tryd.params8] at ht
  exact standT7 t ((show ∀ t ∈ (#[54, 3] : Array TypeId).toList, t ∈ [3, 54, 9, 55, 82] by decide) t (Array.mem_toList_iff.2 (Array.mem_of_getElem? ht)))

theorem card : Rows.ArenaReuseCardSaid :=
  Claim7.holds_tied_plain_at .later [] _ _ _ _ said (fun _ h => by cases h) (by kernel_rfl) (fun _ h => by cases h) arenaReuse_row_tie rfl ⟨rfl, rfl⟩ (by kernel_rfl) rfl plain (by kernel_rfl)
end Go.Proofs.YtdbaocphglijbaaDoor.arenaReuse
