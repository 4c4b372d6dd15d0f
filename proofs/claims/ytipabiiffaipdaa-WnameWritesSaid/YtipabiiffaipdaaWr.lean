/- What lies in memory for a Writer, and what an act on it leaves alone. -/
import Derived.Test.YtipabiiffaipdaaRoom
import Derived.Test.YtipabiiffaipdaaSeqB
import Derived.Maps.OwnIn
import Derived.Maps.OwnSet
import Derived.Maps.AppendAt
namespace Go.Proofs.Ytipabiiffaipdaa
open Go.RowKit Go.Shelf Go.Maps

theorem below_drewN {B : Nat} {w w' : World} (h : Below B w w') (k : Nat) : Below B w (w'.drewN k) := ⟨h.os, h.tape, h.output, h.size, h.block⟩
/-! ### Blocks of cells -/
theorem blk_cell {W : World} {B : Nat} {c : Array Value} {t : TypeId} (h : W.heap[B]? = some (.cells c t (0, 0))) (i : Nat) {v : Value} (hv : c[i]? = some v) : W.cell? ⟨B, i, none⟩ = some v := by
  show (match W.heap[B]? with | some (.cells c _ _) => c[i]? | _ => none) = some v
  rw [h]; exact hv
theorem blk_frozen {W : World} {B : Nat} {c : Array Value} {t : TypeId} (h : W.heap[B]? = some (.cells c t (0, 0))) (i : Nat) : W.frozen? ⟨B, i, none⟩ = false := by
  simp [World.frozen?, h]
theorem blk_set {W : World} {B : Nat} {c : Array Value} {t : TypeId} (h : W.heap[B]? = some (.cells c t (0, 0))) (i : Nat) (v : Value) : (W.setCell ⟨B, i, none⟩ v).heap[B]? = some (.cells (c.setIfInBounds i v) t (0, 0)) := by
  obtain ⟨hlt, hk⟩ := Array.getElem?_eq_some_iff.1 h
  show (W.heap.modify B _)[B]? = _
  rw [Array.getElem?_eq_getElem (by rw [Array.size_modify]; exact hlt), Array.getElem_modify_self, hk]
  rfl
theorem blk_lt {W : World} {B : Nat} {o : Obj} (h : W.heap[B]? = some o) : B < W.heap.size := (Array.getElem?_eq_some_iff.1 h).1

/-! ### What an act leaves alone -/
structure Turn (f : Nat → Prop) (W W' : World) : Prop where
  os : W'.os = W.os
  tape : W'.tape = W.tape
  output : W'.output = W.output
  size : W.heap.size ≤ W'.heap.size
  block : ∀ k, k < W.heap.size → ¬ f k → W'.heap[k]? = W.heap[k]?
  book : ∀ (k : Nat) (o : Obj), W.heap[k]? = some o → isBook o = true → W'.heap[k]? = some o
  boxed : ∀ k t u, Boxed W k t u → Boxed W' k t u
def grow (f : Nat → Prop) (W W' : World) : Nat → Prop := fun k => f k ∨ (W.heap.size ≤ k ∧ k < W'.heap.size)
theorem Turn.refl (f : Nat → Prop) (W : World) : Turn f W W := ⟨rfl, rfl, rfl, Nat.le_refl _, fun _ _ _ => rfl, fun _ _ h _ => h, fun _ _ _ h => h⟩
theorem Turn.trans {f : Nat → Prop} {A B C : World} (h : Turn f A B) (k : Turn (grow f A B) B C) : Turn f A C :=
  ⟨k.os.trans h.os, k.tape.trans h.tape, k.output.trans h.output, Nat.le_trans h.size k.size,
    fun i hi hf => (k.block i (Nat.lt_of_lt_of_le hi h.size) (fun e => e.elim hf (fun e => by omega))).trans (h.block i hi hf),
    fun i o ho hb => k.book i o (h.book i o ho hb) hb, fun i t u hb => k.boxed i t u (h.boxed i t u hb)⟩
theorem Turn.of_below {f : Nat → Prop} {W W' : World} (h : Below W.heap.size W W') : Turn f W W' :=
  ⟨h.os, h.tape, h.output, h.size, fun k hk _ => h.block k hk, fun k _ ho _ => (h.block k (blk_lt ho)).trans ho, fun _ _ _ hb => boxed_below hb h⟩
theorem Turn.below {f : Nat → Prop} {n : Nat} {W W' : World} (h : Turn f W W') (hf : ∀ k, f k → n ≤ k) (hn : n ≤ W.heap.size) : Below n W W' :=
  ⟨h.os, h.tape, h.output, h.size, fun k hk => h.block k (by omega) (fun e => by have := hf k e; omega)⟩
theorem Turn.mono {f g : Nat → Prop} {W W' : World} (h : Turn f W W') (hfg : ∀ k, k < W.heap.size → f k → g k) : Turn g W W' :=
  ⟨h.os, h.tape, h.output, h.size, fun k hk hg => h.block k hk (fun e => hg (hfg k hk e)), h.book, h.boxed⟩
theorem Turn.cell {f : Nat → Prop} {W W' : World} (h : Turn f W W') {a : Addr} {v : Value} (hc : W.cell? a = some v) (hf : ¬ f a.block) : W'.cell? a = some v := by
  rw [World.cell?_of_block (h.block a.block (cell_lt hc) hf)]; exact hc
theorem grow_size {f : Nat → Prop} {W W' : World} (h : ∀ k, f k → k < W.heap.size) (hs : W.heap.size ≤ W'.heap.size) : ∀ k, grow f W W' k → k < W'.heap.size := fun k e => e.elim (fun e => Nat.lt_of_lt_of_le (h k e) hs) (fun e => e.2)
/-- A store into a block of more than one cell. -/
theorem turn_setCell {f : Nat → Prop} {W : World} {B : Nat} {c : Array Value} {t : TypeId} (h : W.heap[B]? = some (.cells c t (0, 0))) (hc : c.size ≠ 1) (hf : f B) (i : Nat) (v : Value) : Turn f W (W.setCell ⟨B, i, none⟩ v) := by
  have hs : (W.setCell ⟨B, i, none⟩ v).heap.size = W.heap.size := by simp [World.setCell]
  have hb : ∀ k, k ≠ B → (W.setCell ⟨B, i, none⟩ v).heap[k]? = W.heap[k]? := fun k hk => Below.heap_setCell W ⟨B, i, none⟩ v k hk
  refine ⟨rfl, rfl, rfl, by omega, fun k _ hk => hb k (fun e => hk (e ▸ hf)), fun k o ho hk => ?_, fun k t' u hbx => ?_⟩
  · refine (hb k (fun e => ?_)).trans ho
    subst e
    rw [h] at ho
    cases ho
    cases hk
  · refine (hb k (fun e => ?_)).trans hbx
    subst e
    rw [show W.heap[k]? = _ from hbx] at h
    cases h
    exact hc rfl
theorem turn_grown_map {f : Nat → Prop} {W W' : World} {b : Nat} (hg : W.grownBy W' (some b)) (hf : f b) {es : Array MapEntry} {ck : Nat} (hm : W.heap[b]? = some (.map es ck)) : Turn f W W' := by
  refine ⟨hg.os, hg.tape, hg.output, hg.size, fun k hk hn => hg.block k hk (fun e => hn (by cases e; exact hf)), fun k o ho hk => ?_, fun k t u hbx => ?_⟩
  · refine (hg.block k (blk_lt ho) (fun e => ?_)).trans ho
    cases e
    rw [hm] at ho
    cases ho
    cases hk
  · refine (hg.block k hbx.lt (fun e => ?_)).trans hbx
    obtain rfl : k = b := by simpa using e
    have h := (show W.heap[k]? = some _ from hbx).symm.trans hm
    cases h
theorem turn_apd {f : Nat → Prop} {base : Nat} {v : Value} {ne : Prop} {W W' : World} (h : Apd base v ne W W') (hv : v = .slice none 0 0 ∨ ne) (hf : ∀ g, v.ownBlock = some g → f g) : Turn f W W' :=
  ⟨h.below.os, h.below.tape, h.below.output, h.below.size, fun k hk hn => by
    have hx : W.heap[k]? = some W.heap[k] := Array.getElem?_eq_getElem hk
    rw [h.other k _ (fun e => hn (hf k e.symm)) hx, hx], fun k o ho hk => h.others.same k o ho (book_cells hk), fun k t u hb => h.boxed hv k t u hb⟩

/-! ### append(s, b...), b bytes that are read -/
theorem apdB_refl {base : Nat} {v : Value} {ne : Prop} (w : World) : Apd base v ne w w :=
  ⟨Below.refl _ _, KeepsOthers.refl w, fun _ _ _ _ h => h, fun _ _ _ h => h⟩
theorem run_apdB {P : Program} (w : World) (base : Nat) (t ty e : TypeId) (h1 : P.underlying t = some (.slice e))
    (h2 : (P.info? e).map (fun i => (i.zero, i.size, i.bytes)) = some (some (.int .u8 0), 1, 1)) (v : Value) (l : List UInt8) (hown : OwnE encB e base v l w) (x : Value) (news : List UInt8) (hx : ReadB x news w)
    (b1 : l.length + news.length ≤ 1000000) (hb : base ≤ w.heap.size) :
    ∃ v' w', (Builtin.append_ #[t, t] ty #[v, x]).run P w = .ok v' w' ∧ OwnE encB e base v' (l ++ news) w' ∧ Apd base v (l ≠ []) w w' ∧ (v = .slice none 0 0 → news = [] → v' = .slice none 0 0) ∧ (v'.ownBlock = v.ownBlock ∨ v'.ownBlock = some w.heap.size) := by
  obtain ⟨ao, cap, rfl, hc⟩ := hx.form
  cases ao with
  | none =>
    have hn : news = [] := by
      cases news with
      | nil => rfl
      | cons a l2 => obtain ⟨_, _, e, _⟩ := hc 0 (by simp); cases e
    subst hn
    obtain ⟨i, hi, hz0, hz1, hz2⟩ := info_parts h2
    have hform : ∃ ao n c, v = .slice ao n c ∧ n ≤ c := by
      rcases hown.2 with ⟨rfl, hn⟩ | ⟨g, cap', cur, rfl, _, _, hle, _⟩
      · exact ⟨none, 0, 0, rfl, Nat.le_refl _⟩
      · exact ⟨_, _, _, rfl, hle⟩
    obtain ⟨ao, n, c, rfl, hle⟩ := hform
    refine ⟨_, _, run_append_nothing (P := P) w t t ty e i h1 hi ao n c hle _ (Src.ofNil w h1 cap), by rw [List.append_nil]; exact hown, apdB_refl w, fun h _ => h, .inl rfl⟩
  | some ad =>
    have hcc : ∀ j u, (news.map encB)[j]? = some u → w.cell? (ad.add j) = some u := fun j u hj => by
      rw [List.getElem?_map] at hj
      obtain ⟨y, hy, rfl⟩ := Option.map_eq_some_iff.1 hj
      obtain ⟨hj', rfl⟩ := List.getElem?_eq_some_iff.1 hy
      obtain ⟨b, off, e, c⟩ := hc j hj'
      cases e
      have e2 : (⟨b, off, none⟩ : Addr).add j = ⟨b, off + j, none⟩ := by unfold Addr.add; split <;> simp_all
      rw [e2]; exact c
    obtain ⟨v', w', hr, ho, ha, hnil⟩ := run_apd (P := P) encB encB_one w base t ty e (.int .u8 0) 1 h1 h2 rfl v l hown ad news.length cap news rfl hcc b1 (by omega) hb
    obtain ⟨i, hi, hz0, hz1, hz2⟩ := info_parts h2
    obtain ⟨v2, w2, hr2, _, _, _, hloc⟩ := run_append_own_at (P := P) w base t ty e i (.int .u8 0) 1 1 h1 hi hz0 hz1 hz2 rfl (by omega) v l.length (l.map encB) hown ad news.length cap (news.map encB) (by simp) hcc (fun u hu => by obtain ⟨x, _, rfl⟩ := List.mem_map.1 hu; rfl) (by unfold maxLen; omega) (by omega) hb
    rw [hr] at hr2
    obtain ⟨rfl, rfl⟩ : v' = v2 ∧ w' = w2 := ⟨(Result.ok.inj hr2).1, (Result.ok.inj hr2).2⟩
    exact ⟨v', w', hr, ho, ha, fun h h' => hnil.2 ⟨h, by rw [h']; rfl⟩, hloc⟩
theorem wpList_apdB {P : Program} (w : World) {ops : Array Oper} {rest : List Oper} {o : Oper} {a : Act} {Q : Exit → Act → World → Prop} (hg : o.guard = none) (s x : Operand) (t : TypeId)
    (hop : o.op = Op.call { callee := Callee.builtin Builtin.append, args := #[s, x], argTypes := #[t, t] })
    (base : Nat) (e : TypeId) (h1 : P.underlying t = some (.slice e))
    (h2 : (P.info? e).map (fun i => (i.zero, i.size, i.bytes)) = some (some (.int .u8 0), 1, 1)) (v : Value) (l : List UInt8) (hs : a.eval s = v) (hown : OwnE encB e base v l w) (xv : Value) (news : List UInt8) (hx : a.eval x = xv) (hr : ReadB xv news w)
    (b1 : l.length + news.length ≤ 1000000) (hb : base ≤ w.heap.size)
    (hK : ∀ v' w', OwnE encB e base v' (l ++ news) w' → Apd base v (l ≠ []) w w' → (v = .slice none 0 0 ∨ l ≠ [] → v' = .slice none 0 0 ∨ l ++ news ≠ []) → (v'.ownBlock = v.ownBlock ∨ v'.ownBlock = some w.heap.size) → wpList P ops Q rest (a.put o.dst v') w') :
    wpList P ops Q (o :: rest) a w := by
  refine wpList_plain hg fun K hK' => ?_
  obtain ⟨v', w', hrun, r1, r2, r3, r4⟩ := run_apdB (P := P) w base t o.type e h1 h2 v l hown xv news hr b1 hb
  unfold Oper.wp
  simp [execOp, hop, resolve, invoke, builtin, hs, hx, hrun, Result.andThen]
  refine hK' _ _ (hK v' w' r1 r2 (fun hv => ?_) r4)
  by_cases hn : news = []
  · subst hn
    rw [List.append_nil]
    exact hv.imp (fun h => r3 h rfl) id
  · exact .inr (by simp [hn])

/-! ### A Writer -/
structure WS where
  most : Int
  size : Nat
  out : List UInt8
  bad : Bool
  tab : List (List UInt8 × Nat)
/-- The table of places, as it reads. -/
def tabD : List (List UInt8 × Nat) → DataW Unit
  | [] => .map []
  | (k, v) :: r => (tabD r).put (.string k) (.lit (.int .i64 (v : Int)))
def look (k : List UInt8) : List (List UInt8 × Nat) → Option Nat
  | [] => none
  | (x, v) :: r => if x = k then some v else look k r
theorem tabD_isMap : ∀ l, IsMap (tabD l)
  | [] => isMap_empty
  | _ :: r => (tabD_isMap r).put _ _
theorem keyLit (k : List UInt8) : WideAt.IsKeyLit (.string k) := by first | trivial | (unfold WideAt.IsKeyLit; trivial) | simp [WideAt.IsKeyLit]
theorem tabD_has (k : List UInt8) : ∀ l, Maps.has (tabD l) (.string k) = (look k l).isSome
  | [] => rfl
  | (x, v) :: r => by
    unfold tabD look
    by_cases h : x = k
    · subst h
      rw [if_pos rfl, has_put_same (tabD_isMap r) (keyLit x)]; rfl
    · rw [if_neg h, has_put_other (by intro e; cases e; exact h rfl), tabD_has k r]
theorem tabD_at (k : List UInt8) : ∀ l, (tabD l).atKey (.string k) (.lit (.int .i64 0)) = .lit (.int .i64 (((look k l).getD 0 : Nat) : Int))
  | [] => rfl
  | (x, v) :: r => by
    unfold tabD look
    by_cases h : x = k
    · subst h
      rw [if_pos rfl, atKey_put_same (tabD_isMap r) (keyLit x)]; rfl
    · rw [if_neg h, atKey_put_other (by intro e; cases e; exact h rfl), tabD_at k r]

def wCells (S : WS) (vo vm : Value) : Array Value := #[.int .i64 S.most, .int .i64 (S.size : Int), vo, .bool S.bad, vm]
def MapAt (tab : List (List UInt8 × Nat)) (f : Nat → Prop) (vm : Value) (W : World) : Prop :=
  (vm = .map none ∧ tab = []) ∨ ∃ b, vm = .map (some b) ∧ f b ∧ W.ownsMap Try.prog 9 (plainElem Try.prog 3) b tab.length (tabD tab)
/-- Block B is a Writer, which has S; what is its lies in blocks of f. -/
structure Wr (B : Nat) (S : WS) (f : Nat → Prop) (vo vm : Value) (W : World) : Prop where
  heap : W.heap[B]? = some (.cells (wCells S vo vm) 66 (0, 0))
  self : f B
  own : OwnE encB 5 0 vo S.out W
  nil : vo = .slice none 0 0 ∨ S.out ≠ []
  mine : ∀ g, vo.ownBlock = some g → f g
  len : S.out.length ≤ S.size
  map : MapAt S.tab f vm W
def WrE (B : Nat) (S : WS) (f : Nat → Prop) (W : World) : Prop := ∃ vo vm, Wr B S f vo vm W

theorem Wr.lt {B : Nat} {S : WS} {f : Nat → Prop} {vo vm : Value} {W : World} (h : Wr B S f vo vm W) : B < W.heap.size := blk_lt h.heap
theorem ownE_type {base B : Nat} {vo : Value} {l : List UInt8} {W : World} (h : OwnE encB 5 base vo l W) {c : Array Value} {t : TypeId} (hb : W.heap[B]? = some (.cells c t (0, 0))) (ht : t ≠ 5) : some B ≠ vo.ownBlock := by
  rcases h.2 with ⟨rfl, _⟩ | ⟨g, cap, cur, rfl, _, hgb, _⟩
  · simp [Value.ownBlock]
  · intro e
    obtain rfl : B = g := by simpa [Value.ownBlock] using e
    rw [hgb] at hb
    cases hb
    exact ht rfl
theorem Wr.out_ne {B : Nat} {S : WS} {f : Nat → Prop} {vo vm : Value} {W : World} (h : Wr B S f vo vm W) : some B ≠ vo.ownBlock := ownE_type h.own h.heap (by decide)
theorem own_shape {α : Type} {enc : α → Value} {e base : Nat} {v : Value} {l : List α} {W : World} (h : OwnE enc e base v l W) : ∃ ao n c, v = .slice ao n c := by
  rcases h.2 with ⟨rfl, _⟩ | ⟨g, cap, cur, rfl, _⟩
  · exact ⟨_, _, _, rfl⟩
  · exact ⟨_, _, _, rfl⟩
theorem own_nil_or {e base : Nat} {v : Value} {l : List UInt8} {W : World} (h : OwnE encB e base v l W) : v = .slice none 0 0 ∨ ∃ g, v.ownBlock = some g ∧ ∃ cur, W.heap[g]? = some (.cells cur e (0, 0)) := by
  rcases h.2 with ⟨rfl, _⟩ | ⟨g, cap, cur, rfl, _, hgb, _⟩
  · exact .inl rfl
  · exact .inr ⟨g, rfl, cur, hgb⟩
theorem ownsMap_obj {H : Type} {P : Program} {k : TypeId} {R : Value → Option (DataW H × List MemPlace)} {b n : Nat} {D : DataW H} {W : World} (h : W.ownsMap P k R b n D) : ∃ es ck, W.heap[b]? = some (.map es ck) := by
  obtain ⟨es, ck, hb, _⟩ := h
  exact ⟨es, ck, hb⟩
/-- A Writer stays one while blocks that are not its own are turned. -/
theorem Wr.kept {B : Nat} {S : WS} {f : Nat → Prop} {vo vm : Value} {W W' : World} (h : Wr B S f vo vm W) (hs : ∀ k, k < W.heap.size → f k → W'.heap[k]? = W.heap[k]?) : Wr B S f vo vm W' where
  heap := (hs B h.lt h.self).trans h.heap
  self := h.self
  own := by
    refine ⟨h.own.1, ?_⟩
    rcases h.own.2 with hn | ⟨g, cap, cur, rfl, hbg, hgb, r⟩
    · exact .inl hn
    · exact .inr ⟨g, cap, cur, rfl, hbg, (hs g (blk_lt hgb) (h.mine g rfl)).trans hgb, r⟩
  nil := h.nil
  mine := h.mine
  len := h.len
  map := by
    rcases h.map with hn | ⟨b, rfl, hf, hm⟩
    · exact .inl hn
    · refine .inr ⟨b, rfl, hf, ?_⟩
      obtain ⟨es, ck, hb, r⟩ := hm
      exact ⟨es, ck, (hs b (blk_lt hb) hf).trans hb, r⟩
theorem WrE.kept {B : Nat} {S : WS} {f : Nat → Prop} {W W' : World} (h : WrE B S f W) (hs : ∀ k, k < W.heap.size → f k → W'.heap[k]? = W.heap[k]?) : WrE B S f W' := by
  obtain ⟨vo, vm, h⟩ := h
  exact ⟨vo, vm, h.kept hs⟩
theorem WrE.below {B : Nat} {S : WS} {f : Nat → Prop} {W W' : World} (h : WrE B S f W) (hb : Below W.heap.size W W') : WrE B S f W' := h.kept (fun k hk _ => hb.block k hk)
theorem ownE_other {base B : Nat} {vo : Value} {l : List UInt8} {W W' : World} (h : OwnE encB 5 base vo l W) (hs : ∀ k, k < W.heap.size → k ≠ B → W'.heap[k]? = W.heap[k]?) (hne : some B ≠ vo.ownBlock) : OwnE encB 5 base vo l W' := by
  refine ⟨h.1, ?_⟩
  rcases h.2 with hn | ⟨g, cap, cur, rfl, hbg, hgb, r⟩
  · exact .inl hn
  · exact .inr ⟨g, cap, cur, rfl, hbg, (hs g (blk_lt hgb) (fun e => hne (by rw [e]; rfl))).trans hgb, r⟩
/-- Bytes that are read don't lie in a Writer's own block. -/
theorem readB_other {B : Nat} {S : WS} {vo vm v : Value} {l : List UInt8} {W W' : World} (h : ReadB v l W) (hB : W.heap[B]? = some (.cells (wCells S vo vm) 66 (0, 0))) (hvo : ∀ q, vo ≠ .int .u8 q) (hvm : ∀ q, vm ≠ .int .u8 q)
    (hs : ∀ k, k < W.heap.size → k ≠ B → W'.heap[k]? = W.heap[k]?) : ReadB v l W' := by
  obtain ⟨ao, cap, rfl, hc⟩ := h.form
  refine ⟨ao, cap, rfl, fun j hj => ?_⟩
  obtain ⟨b, off, e, c⟩ := hc j hj
  refine ⟨b, off, e, ?_⟩
  have hne : b ≠ B := by
    rintro rfl
    have c' : (wCells S vo vm)[off + j]? = some (encB l[j]) := by
      have : W.cell? ⟨b, off + j, none⟩ = (wCells S vo vm)[off + j]? := by
        show (match W.heap[b]? with | some (.cells c _ _) => c[off + j]? | _ => none) = _
        rw [hB]
      rw [← this]; exact c
    unfold wCells encB at c'
    match hq : off + j with
    | 0 => rw [hq] at c'; simp at c'
    | 1 => rw [hq] at c'; simp at c'
    | 2 => rw [hq] at c'; simp at c'; exact hvo _ c'
    | 3 => rw [hq] at c'; simp at c'
    | 4 => rw [hq] at c'; simp at c'; exact hvm _ c'
    | n + 5 => rw [hq] at c'; simp at c'
  rw [World.cell?_of_block (a := ⟨b, off + j, none⟩) (hs b (cell_lt c) hne)]
  exact c
theorem Wr.vo_ne {B : Nat} {S : WS} {f : Nat → Prop} {vo vm : Value} {W : World} (h : Wr B S f vo vm W) : (∀ q, vo ≠ .int .u8 q) ∧ (∀ q, vm ≠ .int .u8 q) := by
  refine ⟨fun q => ?_, fun q => ?_⟩
  · rcases h.own.2 with ⟨rfl, _⟩ | ⟨g, cap, cur, rfl, _⟩ <;> simp
  · rcases h.map with ⟨rfl, _⟩ | ⟨b, rfl, _⟩ <;> simp
/-- A Writer again, its slice or its numbers being others. -/
theorem Wr.again {B : Nat} {S S' : WS} {f : Nat → Prop} {vo vo' vm : Value} {W W' : World} (h : Wr B S f vo vm W) (hB : W'.heap[B]? = some (.cells (wCells S' vo' vm) 66 (0, 0))) (ho : OwnE encB 5 0 vo' S'.out W') (hn : vo' = .slice none 0 0 ∨ S'.out ≠ [])
    (hm : ∀ g, vo'.ownBlock = some g → f g ∨ W.heap.size ≤ g) (hl : S'.out.length ≤ S'.size) (ht : S'.tab = S.tab) (hk : ∀ (k : Nat) es ck, W.heap[k]? = some (.map es ck) → W'.heap[k]? = W.heap[k]?) : WrE B S' (grow f W W') W' := by
  refine ⟨vo', vm, hB, .inl h.self, ho, hn, fun g hg => (hm g hg).imp id (fun h => ⟨h, ?_⟩), hl, ?_⟩
  · rcases own_nil_or ho with rfl | ⟨g', e, cur, hg'⟩
    · simp [Value.ownBlock] at hg
    · rw [e] at hg; cases hg; exact blk_lt hg'
  · unfold MapAt
    rw [ht]
    rcases h.map with hn | ⟨b, rfl, hf, hm⟩
    · exact .inl hn
    · refine .inr ⟨b, rfl, .inl hf, ?_⟩
      obtain ⟨es, ck, hb, r⟩ := hm
      exact ⟨es, ck, (hk b es ck hb).trans hb, r⟩
theorem Turn.then {f : Nat → Prop} {A B C : World} (h : Turn f A B) (k : Turn f B C) : Turn f A C := h.trans (k.mono fun _ _ => .inl)
theorem WrE.widen {B : Nat} {S : WS} {f g : Nat → Prop} {W : World} (h : WrE B S f W) (hfg : ∀ k, k < W.heap.size → f k → g k) : WrE B S g W := by
  obtain ⟨vo, vm, h⟩ := h
  refine ⟨vo, vm, h.heap, hfg B h.lt h.self, h.own, h.nil, fun k hk => ?_, h.len, ?_⟩
  · rcases own_nil_or h.own with rfl | ⟨g', e, cur, hg'⟩
    · simp [Value.ownBlock] at hk
    · rw [e] at hk; cases hk; exact hfg k (blk_lt hg') (h.mine k e)
  · rcases h.map with hn | ⟨b, rfl, hf, hm⟩
    · exact .inl hn
    · exact .inr ⟨b, rfl, hfg b hm.lt hf, hm⟩
end Go.Proofs.Ytipabiiffaipdaa
