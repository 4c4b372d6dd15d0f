/- 3 texts put together: Ws, Wr, Act. -/
import Derived.Maps.OwnIn
import Derived.Maps.OwnSet
import Derived.Maps.AppendAt
import Derived.Test.YtdodamkndigjkaaJB8
import Derived.Test.YtdodamkndigjkaaJB12
/- The acts of a Writer, without a program. -/
namespace Go.Proofs.Ytdodamkndigjkaa

structure WS where
  most : Int
  size : Nat
  out : List UInt8
  bad : Bool
  tab : List (List UInt8 × Nat)
def look (k : List UInt8) : List (List UInt8 × Nat) → Option Nat
  | [] => none
  | (x, v) :: r => if x = k then some v else look k r
def WS.put (S : WS) (b : List UInt8) : WS := { S with size := S.size + b.length, out := if S.most < ((S.size + b.length : Nat) : Int) then [] else S.out ++ b }
def WS.new (most : Int) : WS := { most, size := 0, out := [], bad := false, tab := [] }
def byteOf (z : Int) : UInt8 := UInt8.ofNat (z % 256).toNat
theorem byteOf_int (z : Int) : ((byteOf z).toNat : Int) = z % 256 := by
  unfold byteOf
  have h1 : 0 ≤ z % 256 := Int.emod_nonneg _ (by decide)
  have h2 : z % 256 < 256 := Int.emod_lt_of_pos _ (by decide)
  generalize z % 256 = m at *
  obtain ⟨k, rfl⟩ := Int.eq_ofNat_of_zero_le h1
  simp
  omega
def two (n : Int) : List UInt8 := [byteOf (n / 256), byteOf n]
def four (n : Int) : List UInt8 := two (n / 65536) ++ two n
theorem two_len (n : Int) : (two n).length = 2 := rfl
theorem WS.put_put (S : WS) (a b : List UInt8) : (S.put a).put b = S.put (a ++ b) := by
  unfold WS.put
  simp only [List.length_append, WS.mk.injEq, true_and, and_true]
  refine ⟨by omega, ?_⟩
  by_cases h : S.most < ((S.size + a.length : Nat) : Int)
  · rw [if_pos h, if_pos (by omega), if_pos (by omega)]
  · rw [if_neg h]
    by_cases h' : S.most < ((S.size + a.length + b.length : Nat) : Int)
    · rw [if_pos h', if_pos (by omega)]
    · rw [if_neg h', if_neg (by omega), List.append_assoc]

def WS.note (S : WS) (k : List UInt8) : WS := if 16384 ≤ S.size then S else { S with tab := (k, S.size) :: S.tab }
def WS.sq : WS → List (List UInt8) → WS
  | S, [] => S.put [0]
  | S, l :: r => match look (Nm.made (l :: r)) S.tab with
    | some k => S.put (two (49152 + (k : Int)))
    | none => WS.sq ((S.note (Nm.made (l :: r))).put (UInt8.ofNat l.length :: l)) r
def TabOk (S : WS) : Prop := ∀ k v, look k S.tab = some v → v < 16384
theorem tabOk_put {S : WS} (h : TabOk S) (b : List UInt8) : TabOk (S.put b) := h
theorem tabOk_note {S : WS} (h : TabOk S) (k : List UInt8) : TabOk (S.note k) := by
  unfold WS.note
  split
  · exact h
  · intro x v hx
    simp only [look] at hx
    split at hx
    · cases hx; omega
    · exact h x v hx
theorem tabOk_sq : ∀ {ls : List (List UInt8)} {S : WS}, TabOk S → TabOk (S.sq ls)
  | [], _, h => h
  | l :: r, S, h => by
    unfold WS.sq
    split
    · exact h
    · exact tabOk_sq (tabOk_note h _)
theorem note_size (S : WS) (k : List UInt8) : (S.note k).size = S.size := by unfold WS.note; split <;> rfl
theorem note_tab (S : WS) (k : List UInt8) : (S.note k).tab.length ≤ S.tab.length + 1 := by unfold WS.note; split <;> simp

def WS.name (S : WS) (n : List UInt8) (sq : Bool) : WS := if Nm.valid n = false then { S with bad := true } else if sq then S.sq (Nm.labsD n) else S.put n
theorem tabOk_name {S : WS} (h : TabOk S) (n : List UInt8) (sq : Bool) : TabOk (S.name n sq) := by
  unfold WS.name
  split
  · exact h
  · split
    · exact tabOk_sq h
    · exact h

def WS.set (S : WS) (z n : Int) : WS := if z < 0 ∨ (S.out.length : Int) < z + 2 then S else { S with out := (S.out.set z.toNat (byteOf (n / 256))).set (z.toNat + 1) (byteOf n) }
end Go.Proofs.Ytdodamkndigjkaa

/- What lies in memory for a Writer, and what an act on it leaves alone. -/
namespace Go.Proofs.Ytdodamkndigjkaa
open Go.RowKit Go.Shelf Go.Maps

theorem below_drewN {B : Nat} {w w' : World} (h : Below B w w') (k : Nat) : Below B w (w'.drewN k) := ⟨h.os, h.tape, h.output, h.size, h.block⟩
/-! ### Blocks of cells -/
theorem blk_cell {W : World} {B : Nat} {c : Array Value} {t : TypeId} (h : W.heap[B]? = some (.cells c t (0, 0))) (i : Nat) {v : Value} (hv : c[i]? = some v) : W.cell? ⟨B, i, none⟩ = some v := by
  show (match W.heap[B]? with | some (.cells c _ _) => c[i]? | _ => none) = some v
  rw [h]; exact hv
theorem blk_frozen {W : World} {B : Nat} {c : Array Value} {t : TypeId} (h : W.heap[B]? = some (.cells c t (0, 0))) (i : Nat) : W.frozen? ⟨B, i, none⟩ = false := by
  simp [World.frozen?, h]
theorem blk_set {W : World} {B : Nat} {c : Array Value} {t : TypeId} (h : W.heap[B]? = some (.cells c t (0, 0))) (i : Nat) (v : Value) : (W.setCell ⟨B, i, none⟩ v).heap[B]? = some (.cells (c.setIfInBounds i v) t (0, 0)) := by
  obtain ⟨hlt, hk⟩ := Array.getElem?_eq_some_iff.1 h
  show (W.heap.modify B _)[B]? = _
  rw [Array.getElem?_eq_getElem (by rw [Array.size_modify]; exact hlt), Array.getElem_modify_self, hk]
  rfl
theorem blk_lt {W : World} {B : Nat} {o : Obj} (h : W.heap[B]? = some o) : B < W.heap.size := (Array.getElem?_eq_some_iff.1 h).1

/-! ### What an act leaves alone -/
structure Turn (f : Nat → Prop) (W W' : World) : Prop where
  os : W'.os = W.os
  tape : W'.tape = W.tape
  output : W'.output = W.output
  size : W.heap.size ≤ W'.heap.size
  block : ∀ k, k < W.heap.size → ¬ f k → W'.heap[k]? = W.heap[k]?
  book : ∀ (k : Nat) (o : Obj), W.heap[k]? = some o → isBook o = true → W'.heap[k]? = some o
  boxed : ∀ k t u, Boxed W k t u → Boxed W' k t u
def grow (f : Nat → Prop) (W W' : World) : Nat → Prop := fun k => f k ∨ (W.heap.size ≤ k ∧ k < W'.heap.size)
theorem Turn.refl (f : Nat → Prop) (W : World) : Turn f W W := ⟨rfl, rfl, rfl, Nat.le_refl _, fun _ _ _ => rfl, fun _ _ h _ => h, fun _ _ _ h => h⟩
theorem Turn.trans {f : Nat → Prop} {A B C : World} (h : Turn f A B) (k : Turn (grow f A B) B C) : Turn f A C :=
  ⟨k.os.trans h.os, k.tape.trans h.tape, k.output.trans h.output, Nat.le_trans h.size k.size,
    fun i hi hf => (k.block i (Nat.lt_of_lt_of_le hi h.size) (fun e => e.elim hf (fun e => by omega))).trans (h.block i hi hf),
    fun i o ho hb => k.book i o (h.book i o ho hb) hb, fun i t u hb => k.boxed i t u (h.boxed i t u hb)⟩
theorem Turn.of_below {f : Nat → Prop} {W W' : World} (h : Below W.heap.size W W') : Turn f W W' :=
  ⟨h.os, h.tape, h.output, h.size, fun k hk _ => h.block k hk, fun k _ ho _ => (h.block k (blk_lt ho)).trans ho, fun _ _ _ hb => boxed_below hb h⟩
theorem Turn.below {f : Nat → Prop} {n : Nat} {W W' : World} (h : Turn f W W') (hf : ∀ k, f k → n ≤ k) (hn : n ≤ W.heap.size) : Below n W W' :=
  ⟨h.os, h.tape, h.output, h.size, fun k hk => h.block k (by omega) (fun e => by have := hf k e; omega)⟩
theorem Turn.mono {f g : Nat → Prop} {W W' : World} (h : Turn f W W') (hfg : ∀ k, k < W.heap.size → f k → g k) : Turn g W W' :=
  ⟨h.os, h.tape, h.output, h.size, fun k hk hg => h.block k hk (fun e => hg (hfg k hk e)), h.book, h.boxed⟩
theorem Turn.cell {f : Nat → Prop} {W W' : World} (h : Turn f W W') {a : Addr} {v : Value} (hc : W.cell? a = some v) (hf : ¬ f a.block) : W'.cell? a = some v := by
  rw [World.cell?_of_block (h.block a.block (cell_lt hc) hf)]; exact hc
theorem grow_size {f : Nat → Prop} {W W' : World} (h : ∀ k, f k → k < W.heap.size) (hs : W.heap.size ≤ W'.heap.size) : ∀ k, grow f W W' k → k < W'.heap.size := fun k e => e.elim (fun e => Nat.lt_of_lt_of_le (h k e) hs) (fun e => e.2)
/-- A store into a block of more than one cell. -/
theorem turn_setCell {f : Nat → Prop} {W : World} {B : Nat} {c : Array Value} {t : TypeId} (h : W.heap[B]? = some (.cells c t (0, 0))) (hc : c.size ≠ 1) (hf : f B) (i : Nat) (v : Value) : Turn f W (W.setCell ⟨B, i, none⟩ v) := by
  have hs : (W.setCell ⟨B, i, none⟩ v).heap.size = W.heap.size := by simp [World.setCell]
  have hb : ∀ k, k ≠ B → (W.setCell ⟨B, i, none⟩ v).heap[k]? = W.heap[k]? := fun k hk => Below.heap_setCell W ⟨B, i, none⟩ v k hk
  refine ⟨rfl, rfl, rfl, by omega, fun k _ hk => hb k (fun e => hk (e ▸ hf)), fun k o ho hk => ?_, fun k t' u hbx => ?_⟩
  · refine (hb k (fun e => ?_)).trans ho
    subst e
    rw [h] at ho
    cases ho
    cases hk
  · refine (hb k (fun e => ?_)).trans hbx
    subst e
    rw [show W.heap[k]? = _ from hbx] at h
    cases h
    exact hc rfl
theorem turn_grown_map {f : Nat → Prop} {W W' : World} {b : Nat} (hg : W.grownBy W' (some b)) (hf : f b) {es : Array MapEntry} {ck : Nat} (hm : W.heap[b]? = some (.map es ck)) : Turn f W W' := by
  refine ⟨hg.os, hg.tape, hg.output, hg.size, fun k hk hn => hg.block k hk (fun e => hn (by cases e; exact hf)), fun k o ho hk => ?_, fun k t u hbx => ?_⟩
  · refine (hg.block k (blk_lt ho) (fun e => ?_)).trans ho
    cases e
    rw [hm] at ho
    cases ho
    cases hk
  · refine (hg.block k hbx.lt (fun e => ?_)).trans hbx
    obtain rfl : k = b := by simpa using e
    have h := (show W.heap[k]? = some _ from hbx).symm.trans hm
    cases h
theorem turn_apd {f : Nat → Prop} {base : Nat} {v : Value} {ne : Prop} {W W' : World} (h : Apd base v ne W W') (hv : v = .slice none 0 0 ∨ ne) (hf : ∀ g, v.ownBlock = some g → f g) : Turn f W W' :=
  ⟨h.below.os, h.below.tape, h.below.output, h.below.size, fun k hk hn => by
    have hx : W.heap[k]? = some W.heap[k] := Array.getElem?_eq_getElem hk
    rw [h.other k _ (fun e => hn (hf k e.symm)) hx, hx], fun k o ho hk => h.others.same k o ho (book_cells hk), fun k t u hb => h.boxed hv k t u hb⟩

/-! ### append(s, b...), b bytes that are read -/
theorem apdB_refl {base : Nat} {v : Value} {ne : Prop} (w : World) : Apd base v ne w w :=
  ⟨Below.refl _ _, KeepsOthers.refl w, fun _ _ _ _ h => h, fun _ _ _ h => h⟩
theorem run_apdB {P : Program} (w : World) (base : Nat) (t ty e : TypeId) (h1 : P.underlying t = some (.slice e))
    (h2 : (P.info? e).map (fun i => (i.zero, i.size, i.bytes)) = some (some (.int .u8 0), 1, 1)) (v : Value) (l : List UInt8) (hown : OwnE encB e base v l w) (x : Value) (news : List UInt8) (hx : ReadB x news w)
    (b1 : l.length + news.length ≤ 1000000) (hb : base ≤ w.heap.size) :
    ∃ v' w', (Builtin.append_ #[t, t] ty #[v, x]).run P w = .ok v' w' ∧ OwnE encB e base v' (l ++ news) w' ∧ Apd base v (l ≠ []) w w' ∧ (v = .slice none 0 0 → news = [] → v' = .slice none 0 0) ∧ (v'.ownBlock = v.ownBlock ∨ v'.ownBlock = some w.heap.size) := by
  obtain ⟨ao, cap, rfl, hc⟩ := hx.form
  cases ao with
  | none =>
    have hn : news = [] := by
      cases news with
      | nil => rfl
      | cons a l2 => obtain ⟨_, _, e, _⟩ := hc 0 (by simp); cases e
    subst hn
    obtain ⟨i, hi, hz0, hz1, hz2⟩ := info_parts h2
    have hform : ∃ ao n c, v = .slice ao n c ∧ n ≤ c := by
      rcases hown.2 with ⟨rfl, hn⟩ | ⟨g, cap', cur, rfl, _, _, hle, _⟩
      · exact ⟨none, 0, 0, rfl, Nat.le_refl _⟩
      · exact ⟨_, _, _, rfl, hle⟩
    obtain ⟨ao, n, c, rfl, hle⟩ := hform
    refine ⟨_, _, run_append_nothing (P := P) w t t ty e i h1 hi ao n c hle _ (Src.ofNil w h1 cap), by rw [List.append_nil]; exact hown, apdB_refl w, fun h _ => h, .inl rfl⟩
  | some ad =>
    have hcc : ∀ j u, (news.map encB)[j]? = some u → w.cell? (ad.add j) = some u := fun j u hj => by
      rw [List.getElem?_map] at hj
      obtain ⟨y, hy, rfl⟩ := Option.map_eq_some_iff.1 hj
      obtain ⟨hj', rfl⟩ := List.getElem?_eq_some_iff.1 hy
      obtain ⟨b, off, e, c⟩ := hc j hj'
      cases e
      have e2 : (⟨b, off, none⟩ : Addr).add j = ⟨b, off + j, none⟩ := by unfold Addr.add; split <;> simp_all
      rw [e2]; exact c
    obtain ⟨v', w', hr, ho, ha, hnil⟩ := run_apd (P := P) encB encB_one w base t ty e (.int .u8 0) 1 h1 h2 rfl v l hown ad news.length cap news rfl hcc b1 (by omega) hb
    obtain ⟨i, hi, hz0, hz1, hz2⟩ := info_parts h2
    obtain ⟨v2, w2, hr2, _, _, _, hloc⟩ := run_append_own_at (P := P) w base t ty e i (.int .u8 0) 1 1 h1 hi hz0 hz1 hz2 rfl (by omega) v l.length (l.map encB) hown ad news.length cap (news.map encB) (by simp) hcc (fun u hu => by obtain ⟨x, _, rfl⟩ := List.mem_map.1 hu; rfl) (by unfold maxLen; omega) (by omega) hb
    rw [hr] at hr2
    obtain ⟨rfl, rfl⟩ : v' = v2 ∧ w' = w2 := ⟨(Result.ok.inj hr2).1, (Result.ok.inj hr2).2⟩
    exact ⟨v', w', hr, ho, ha, fun h h' => hnil.2 ⟨h, by rw [h']; rfl⟩, hloc⟩
theorem wpList_apdB {P : Program} (w : World) {ops : Array Oper} {rest : List Oper} {o : Oper} {a : Act} {Q : Exit → Act → World → Prop} (hg : o.guard = none) (s x : Operand) (t : TypeId)
    (hop : o.op = Op.call { callee := Callee.builtin Builtin.append, args := #[s, x], argTypes := #[t, t] })
    (base : Nat) (e : TypeId) (h1 : P.underlying t = some (.slice e))
    (h2 : (P.info? e).map (fun i => (i.zero, i.size, i.bytes)) = some (some (.int .u8 0), 1, 1)) (v : Value) (l : List UInt8) (hs : a.eval s = v) (hown : OwnE encB e base v l w) (xv : Value) (news : List UInt8) (hx : a.eval x = xv) (hr : ReadB xv news w)
    (b1 : l.length + news.length ≤ 1000000) (hb : base ≤ w.heap.size)
    (hK : ∀ v' w', OwnE encB e base v' (l ++ news) w' → Apd base v (l ≠ []) w w' → (v = .slice none 0 0 ∨ l ≠ [] → v' = .slice none 0 0 ∨ l ++ news ≠ []) → (v'.ownBlock = v.ownBlock ∨ v'.ownBlock = some w.heap.size) → wpList P ops Q rest (a.put o.dst v') w') :
    wpList P ops Q (o :: rest) a w := by
  refine wpList_plain hg fun K hK' => ?_
  obtain ⟨v', w', hrun, r1, r2, r3, r4⟩ := run_apdB (P := P) w base t o.type e h1 h2 v l hown xv news hr b1 hb
  unfold Oper.wp
  simp [execOp, hop, resolve, invoke, builtin, hs, hx, hrun, Result.andThen]
  refine hK' _ _ (hK v' w' r1 r2 (fun hv => ?_) r4)
  by_cases hn : news = []
  · subst hn
    rw [List.append_nil]
    exact hv.imp (fun h => r3 h rfl) id
  · exact .inr (by simp [hn])

/-! ### A Writer -/
/-- The table of places, as it reads. -/
def tabD : List (List UInt8 × Nat) → DataW Unit
  | [] => .map []
  | (k, v) :: r => (tabD r).put (.string k) (.lit (.int .i64 (v : Int)))
theorem tabD_isMap : ∀ l, IsMap (tabD l)
  | [] => isMap_empty
  | _ :: r => (tabD_isMap r).put _ _
theorem keyLit (k : List UInt8) : WideAt.IsKeyLit (.string k) := by first | trivial | (unfold WideAt.IsKeyLit; trivial) | simp [WideAt.IsKeyLit]
theorem tabD_has (k : List UInt8) : ∀ l, Maps.has (tabD l) (.string k) = (look k l).isSome
  | [] => rfl
  | (x, v) :: r => by
    unfold tabD look
    by_cases h : x = k
    · subst h
      rw [if_pos rfl, has_put_same (tabD_isMap r) (keyLit x)]; rfl
    · rw [if_neg h, has_put_other (by intro e; cases e; exact h rfl), tabD_has k r]
theorem tabD_at (k : List UInt8) : ∀ l, (tabD l).atKey (.string k) (.lit (.int .i64 0)) = .lit (.int .i64 (((look k l).getD 0 : Nat) : Int))
  | [] => rfl
  | (x, v) :: r => by
    unfold tabD look
    by_cases h : x = k
    · subst h
      rw [if_pos rfl, atKey_put_same (tabD_isMap r) (keyLit x)]; rfl
    · rw [if_neg h, atKey_put_other (by intro e; cases e; exact h rfl), tabD_at k r]

def wCells (S : WS) (vo vm : Value) : Array Value := #[.int .i64 S.most, .int .i64 (S.size : Int), vo, .bool S.bad, vm]
def MapAt (tab : List (List UInt8 × Nat)) (f : Nat → Prop) (vm : Value) (W : World) : Prop :=
  (vm = .map none ∧ tab = []) ∨ ∃ b, vm = .map (some b) ∧ f b ∧ W.ownsMap Try.prog 9 (plainElem Try.prog 3) b tab.length (tabD tab)
/-- Block B is a Writer, which has S; what is its lies in blocks of f. -/
structure Wr (B : Nat) (S : WS) (f : Nat → Prop) (vo vm : Value) (W : World) : Prop where
  heap : W.heap[B]? = some (.cells (wCells S vo vm) 120 (0, 0))
  self : f B
  own : OwnE encB 5 0 vo S.out W
  nil : vo = .slice none 0 0 ∨ S.out ≠ []
  mine : ∀ g, vo.ownBlock = some g → f g
  len : S.out.length ≤ S.size
  map : MapAt S.tab f vm W
def WrE (B : Nat) (S : WS) (f : Nat → Prop) (W : World) : Prop := ∃ vo vm, Wr B S f vo vm W

theorem Wr.lt {B : Nat} {S : WS} {f : Nat → Prop} {vo vm : Value} {W : World} (h : Wr B S f vo vm W) : B < W.heap.size := blk_lt h.heap
theorem ownE_type {base B : Nat} {vo : Value} {l : List UInt8} {W : World} (h : OwnE encB 5 base vo l W) {c : Array Value} {t : TypeId} (hb : W.heap[B]? = some (.cells c t (0, 0))) (ht : t ≠ 5) : some B ≠ vo.ownBlock := by
  rcases h.2 with ⟨rfl, _⟩ | ⟨g, cap, cur, rfl, _, hgb, _⟩
  · simp [Value.ownBlock]
  · intro e
    obtain rfl : B = g := by simpa [Value.ownBlock] using e
    rw [hgb] at hb
    cases hb
    exact ht rfl
theorem Wr.out_ne {B : Nat} {S : WS} {f : Nat → Prop} {vo vm : Value} {W : World} (h : Wr B S f vo vm W) : some B ≠ vo.ownBlock := ownE_type h.own h.heap (by decide)
theorem own_shape {α : Type} {enc : α → Value} {e base : Nat} {v : Value} {l : List α} {W : World} (h : OwnE enc e base v l W) : ∃ ao n c, v = .slice ao n c := by
  rcases h.2 with ⟨rfl, _⟩ | ⟨g, cap, cur, rfl, _⟩
  · exact ⟨_, _, _, rfl⟩
  · exact ⟨_, _, _, rfl⟩
theorem own_nil_or {e base : Nat} {v : Value} {l : List UInt8} {W : World} (h : OwnE encB e base v l W) : v = .slice none 0 0 ∨ ∃ g, v.ownBlock = some g ∧ ∃ cur, W.heap[g]? = some (.cells cur e (0, 0)) := by
  rcases h.2 with ⟨rfl, _⟩ | ⟨g, cap, cur, rfl, _, hgb, _⟩
  · exact .inl rfl
  · exact .inr ⟨g, rfl, cur, hgb⟩
theorem ownsMap_obj {H : Type} {P : Program} {k : TypeId} {R : Value → Option (DataW H × List MemPlace)} {b n : Nat} {D : DataW H} {W : World} (h : W.ownsMap P k R b n D) : ∃ es ck, W.heap[b]? = some (.map es ck) := by
  obtain ⟨es, ck, hb, _⟩ := h
  exact ⟨es, ck, hb⟩
/-- A Writer stays one while blocks that are not its own are turned. -/
theorem Wr.kept {B : Nat} {S : WS} {f : Nat → Prop} {vo vm : Value} {W W' : World} (h : Wr B S f vo vm W) (hs : ∀ k, k < W.heap.size → f k → W'.heap[k]? = W.heap[k]?) : Wr B S f vo vm W' where
  heap := (hs B h.lt h.self).trans h.heap
  self := h.self
  own := by
    refine ⟨h.own.1, ?_⟩
    rcases h.own.2 with hn | ⟨g, cap, cur, rfl, hbg, hgb, r⟩
    · exact .inl hn
    · exact .inr ⟨g, cap, cur, rfl, hbg, (hs g (blk_lt hgb) (h.mine g rfl)).trans hgb, r⟩
  nil := h.nil
  mine := h.mine
  len := h.len
  map := by
    rcases h.map with hn | ⟨b, rfl, hf, hm⟩
    · exact .inl hn
    · refine .inr ⟨b, rfl, hf, ?_⟩
      obtain ⟨es, ck, hb, r⟩ := hm
      exact ⟨es, ck, (hs b (blk_lt hb) hf).trans hb, r⟩
theorem WrE.kept {B : Nat} {S : WS} {f : Nat → Prop} {W W' : World} (h : WrE B S f W) (hs : ∀ k, k < W.heap.size → f k → W'.heap[k]? = W.heap[k]?) : WrE B S f W' := by
  obtain ⟨vo, vm, h⟩ := h
  exact ⟨vo, vm, h.kept hs⟩
theorem WrE.below {B : Nat} {S : WS} {f : Nat → Prop} {W W' : World} (h : WrE B S f W) (hb : Below W.heap.size W W') : WrE B S f W' := h.kept (fun k hk _ => hb.block k hk)
theorem ownE_other {base B : Nat} {vo : Value} {l : List UInt8} {W W' : World} (h : OwnE encB 5 base vo l W) (hs : ∀ k, k < W.heap.size → k ≠ B → W'.heap[k]? = W.heap[k]?) (hne : some B ≠ vo.ownBlock) : OwnE encB 5 base vo l W' := by
  refine ⟨h.1, ?_⟩
  rcases h.2 with hn | ⟨g, cap, cur, rfl, hbg, hgb, r⟩
  · exact .inl hn
  · exact .inr ⟨g, cap, cur, rfl, hbg, (hs g (blk_lt hgb) (fun e => hne (by rw [e]; rfl))).trans hgb, r⟩
/-- Bytes that are read don't lie in a Writer's own block. -/
theorem readB_other {B : Nat} {S : WS} {vo vm v : Value} {l : List UInt8} {W W' : World} (h : ReadB v l W) (hB : W.heap[B]? = some (.cells (wCells S vo vm) 120 (0, 0))) (hvo : ∀ q, vo ≠ .int .u8 q) (hvm : ∀ q, vm ≠ .int .u8 q)
    (hs : ∀ k, k < W.heap.size → k ≠ B → W'.heap[k]? = W.heap[k]?) : ReadB v l W' := by
  obtain ⟨ao, cap, rfl, hc⟩ := h.form
  refine ⟨ao, cap, rfl, fun j hj => ?_⟩
  obtain ⟨b, off, e, c⟩ := hc j hj
  refine ⟨b, off, e, ?_⟩
  have hne : b ≠ B := by
    rintro rfl
    have c' : (wCells S vo vm)[off + j]? = some (encB l[j]) := by
      have : W.cell? ⟨b, off + j, none⟩ = (wCells S vo vm)[off + j]? := by
        show (match W.heap[b]? with | some (.cells c _ _) => c[off + j]? | _ => none) = _
        rw [hB]
      rw [← this]; exact c
    unfold wCells encB at c'
    match hq : off + j with
    | 0 => rw [hq] at c'; simp at c'
    | 1 => rw [hq] at c'; simp at c'
    | 2 => rw [hq] at c'; simp at c'; exact hvo _ c'
    | 3 => rw [hq] at c'; simp at c'
    | 4 => rw [hq] at c'; simp at c'; exact hvm _ c'
    | n + 5 => rw [hq] at c'; simp at c'
  rw [World.cell?_of_block (a := ⟨b, off + j, none⟩) (hs b (cell_lt c) hne)]
  exact c
theorem Wr.vo_ne {B : Nat} {S : WS} {f : Nat → Prop} {vo vm : Value} {W : World} (h : Wr B S f vo vm W) : (∀ q, vo ≠ .int .u8 q) ∧ (∀ q, vm ≠ .int .u8 q) := by
  refine ⟨fun q => ?_, fun q => ?_⟩
  · rcases h.own.2 with ⟨rfl, _⟩ | ⟨g, cap, cur, rfl, _⟩ <;> simp
  · rcases h.map with ⟨rfl, _⟩ | ⟨b, rfl, _⟩ <;> simp
/-- A Writer again, its slice or its numbers being others. -/
theorem Wr.again {B : Nat} {S S' : WS} {f : Nat → Prop} {vo vo' vm : Value} {W W' : World} (h : Wr B S f vo vm W) (hB : W'.heap[B]? = some (.cells (wCells S' vo' vm) 120 (0, 0))) (ho : OwnE encB 5 0 vo' S'.out W') (hn : vo' = .slice none 0 0 ∨ S'.out ≠ [])
    (hm : ∀ g, vo'.ownBlock = some g → f g ∨ W.heap.size ≤ g) (hl : S'.out.length ≤ S'.size) (ht : S'.tab = S.tab) (hk : ∀ (k : Nat) es ck, W.heap[k]? = some (.map es ck) → W'.heap[k]? = W.heap[k]?) : WrE B S' (grow f W W') W' := by
  refine ⟨vo', vm, hB, .inl h.self, ho, hn, fun g hg => (hm g hg).imp id (fun h => ⟨h, ?_⟩), hl, ?_⟩
  · rcases own_nil_or ho with rfl | ⟨g', e, cur, hg'⟩
    · simp [Value.ownBlock] at hg
    · rw [e] at hg; cases hg; exact blk_lt hg'
  · unfold MapAt
    rw [ht]
    rcases h.map with hn | ⟨b, rfl, hf, hm⟩
    · exact .inl hn
    · refine .inr ⟨b, rfl, .inl hf, ?_⟩
      obtain ⟨es, ck, hb, r⟩ := hm
      exact ⟨es, ck, (hk b es ck hb).trans hb, r⟩
theorem Turn.then {f : Nat → Prop} {A B C : World} (h : Turn f A B) (k : Turn f B C) : Turn f A C := h.trans (k.mono fun _ _ => .inl)
theorem WrE.widen {B : Nat} {S : WS} {f g : Nat → Prop} {W : World} (h : WrE B S f W) (hfg : ∀ k, k < W.heap.size → f k → g k) : WrE B S g W := by
  obtain ⟨vo, vm, h⟩ := h
  refine ⟨vo, vm, h.heap, hfg B h.lt h.self, h.own, h.nil, fun k hk => ?_, h.len, ?_⟩
  · rcases own_nil_or h.own with rfl | ⟨g', e, cur, hg'⟩
    · simp [Value.ownBlock] at hk
    · rw [e] at hk; cases hk; exact hfg k (blk_lt hg') (h.mine k e)
  · rcases h.map with hn | ⟨b, rfl, hf, hm⟩
    · exact .inl hn
    · exact .inr ⟨b, rfl, hfg b hm.lt hf, hm⟩
end Go.Proofs.Ytdodamkndigjkaa

/- New, Len, Bytes, Two, Four. -/
namespace Go.Proofs.Ytdodamkndigjkaa
open Go.RowKit Go.Shelf Go.Maps
attribute [local go_sem] Oper.semAt_some

/-! ### Acts, without a program -/
set_option maxRecDepth 100000 in
set_option maxHeartbeats 400000 in
theorem new_any (most : Int) (w : World) :
    Calls Try.prog 45 #[.int .i64 most] w fun e w' => e = .returned (.pointer (some ⟨w.heap.size, 0, none⟩)) ∧ Below w.heap.size w w' ∧ WrE w.heap.size (WS.new most) (fun k => k = w.heap.size) w' ∧ w'.heap.size = w.heap.size + 1 := by
  go_enter Try.func45, Try.ntmps45
  go_wp2
  go_ret
  refine ⟨rfl, (Below.refl _ _).alloc (Nat.le_refl _) _, ⟨.slice none 0 0, .map none, World.alloc_heap_new w _, rfl, ownE_nil _ _ _ _, .inl rfl, fun g h => by simp [Value.ownBlock] at h, by simp [WS.new], .inl ⟨rfl, rfl⟩⟩, by simp⟩

set_option maxRecDepth 100000 in
set_option maxHeartbeats 400000 in
theorem len_any (B : Nat) (S : WS) (f : Nat → Prop) (w : World) (h : WrE B S f w) :
    Calls Try.prog 79 #[.pointer (some ⟨B, 0, none⟩)] w fun e w' => e = .returned (.int .i64 (S.size : Int)) ∧ w = w' := by
  obtain ⟨vo, vm, h⟩ := h
  have c1 := blk_cell h.heap 1 (v := .int .i64 (S.size : Int)) rfl
  clear h
  go_enter Try.func79, Try.ntmps79
  go_wp2
  go_ret
  exact ⟨rfl, rfl⟩
theorem len_nil (w : World) :
    Calls Try.prog 79 #[.pointer none] w fun e w' => e = .returned (.int .i64 0) ∧ w = w' := by
  go_enter Try.func79, Try.ntmps79
  go_wp2
  go_ret
  exact ⟨rfl, rfl⟩

/-- What an act comes to. -/
def ActRet (B : Nat) (S' : WS) (f : Nat → Prop) (w : World) (e : Ending) (w' : World) : Prop := e = .returned (.tuple #[]) ∧ Turn f w w' ∧ WrE B S' (grow f w w') w'

set_option maxRecDepth 100000 in
set_option maxHeartbeats 2000000 in
theorem bytes_any (B : Nat) (S : WS) (f : Nat → Prop) (l : List UInt8) (bv : Value) (w : World) (h : WrE B S f w) (hr : ReadB bv l w) (hl : S.size + l.length ≤ 1000000) :
    Calls Try.prog 76 #[.pointer (some ⟨B, 0, none⟩), bv] w (ActRet B (S.put l) f w) := by
  obtain ⟨vo, vm, h⟩ := h
  have hr' := hr
  obtain ⟨ao, cap, rfl, _⟩ := hr.form
  have c0 := blk_cell h.heap 0 (v := .int .i64 S.most) rfl
  have c1 := blk_cell h.heap 1 (v := .int .i64 (S.size : Int)) rfl
  have c2 := blk_cell h.heap 2 (v := vo) rfl
  have f1 := blk_frozen h.heap 1
  have f2 := blk_frozen h.heap 2
  have hB1 := blk_set h.heap 1 (.int .i64 ((S.size : Int) + (l.length : Int)))
  have hT1 : Turn f w (w.setCell ⟨B, 1, none⟩ (.int .i64 ((S.size : Int) + (l.length : Int)))) := turn_setCell h.heap (by simp [wCells]) h.self 1 _
  have HH := Lib.hid h
  have HR := Lib.hid hr'
  have HB1 := Lib.hid hB1
  have HT1 := Lib.hid hT1
  have HO : Hid (∀ k, k ≠ B → (w.setCell ⟨B, 1, none⟩ (.int .i64 ((S.size : Int) + (l.length : Int)))).heap[k]? = w.heap[k]?) := Lib.hid (fun k hk => Below.heap_setCell w ⟨B, 1, none⟩ _ k hk)
  clear h hr hr' hB1 hT1
  by_cases hm : S.most < (S.size : Int) + (l.length : Int)
  · have HS : Hid (S.put l = { S with size := S.size + l.length, out := [] }) := Lib.hid (by unfold WS.put; rw [if_pos (by omega)])
    go_enter Try.func76, Try.ntmps76
    go_wp2
    go_quiet (fail)
    go_wp2
    go_end0
    have h := HH.out
    have hB2 := blk_set (W := (w.setCell ⟨B, 1, none⟩ (.int .i64 ((S.size : Int) + (l.length : Int)))).drewN nq) HB1.out 2 (.slice none 0 0)
    refine ⟨rfl, (HT1.out.then (Turn.of_below (below_drewN (Below.refl _ _) nq))).then (turn_setCell (W := (w.setCell ⟨B, 1, none⟩ (.int .i64 ((S.size : Int) + (l.length : Int)))).drewN nq) HB1.out (by simp [wCells]) h.self 2 _), ?_⟩
    rw [HS.out]
    refine h.again (by rw [hB2]; simp [wCells]) (ownE_nil _ _ _ _) (.inl rfl) (fun g hg => by simp [Value.ownBlock] at hg) (by simp) rfl (fun k es ck hk => ?_)
    have hkB : k ≠ B := by rintro rfl; rw [h.heap] at hk; cases hk
    exact (Below.heap_setCell _ ⟨B, 2, none⟩ _ k hkB).trans (HO.out k hkB)
  · have HS : Hid (S.put l = { S with size := S.size + l.length, out := S.out ++ l }) := Lib.hid (by unfold WS.put; rw [if_neg (by omega)])
    have hol := HH.out.len
    go_enter Try.func76, Try.ntmps76
    go_wp2
    go_quiet (fail)
    have hown2 : OwnE encB 5 0 vo S.out ((w.setCell ⟨B, 1, none⟩ (.int .i64 ((S.size : Int) + (l.length : Int)))).drewN nq) := ownE_other HH.out.own (fun k _ hk => HO.out k hk) HH.out.out_ne
    have hread2 : ReadB (.slice ao l.length cap) l ((w.setCell ⟨B, 1, none⟩ (.int .i64 ((S.size : Int) + (l.length : Int)))).drewN nq) := readB_other HR.out HH.out.heap HH.out.vo_ne.1 HH.out.vo_ne.2 (fun k _ hk => HO.out k hk)
    have HOWN := Lib.hid hown2
    have HREAD := Lib.hid hread2
    clear hown2 hread2
    go_wp2_with (at_builtin; refine wpList_apdB _ rfl _ _ 22 rfl 0 5 Try.underlying22 infoByte vo S.out rfl HOWN.out _ l rfl HREAD.out (by omega) (Nat.zero_le _) ?_; intro v1 w1 ho1 ha1 hn1 hl1; obtain ⟨ao1, n1, cp1, rfl⟩ := own_shape ho1; have hB2 := (ha1.other B _ (HH.out.out_ne) HB1.out); have c2 := blk_cell hB2 2 (v := vo) rfl; have f2 := blk_frozen hB2 2; have HO1 := Lib.hid ho1; have HA1 := Lib.hid ha1; have HN1 := Lib.hid hn1; have HL1 := Lib.hid hl1; have HB2 := Lib.hid hB2; clear ho1 ha1 hn1 hl1 hB2)
    go_end0
    have h := HH.out
    have hB3 := blk_set HB2.out 2 (.slice ao1 n1 cp1)
    have hTa : Turn f ((w.setCell ⟨B, 1, none⟩ (.int .i64 ((S.size : Int) + (l.length : Int)))).drewN nq) w1 := turn_apd HA1.out h.nil h.mine
    have hne1 : some B ≠ (Value.slice ao1 n1 cp1).ownBlock := ownE_type HO1.out HB2.out (by decide)
    refine ⟨rfl, ((HT1.out.then (Turn.of_below (below_drewN (Below.refl _ _) nq))).then hTa).then (turn_setCell HB2.out (by simp [wCells]) h.self 2 _), ?_⟩
    rw [HS.out]
    refine h.again (by rw [hB3]; simp [wCells]) (ownE_other HO1.out (fun k _ hk => Below.heap_setCell _ ⟨B, 2, none⟩ _ k hk) hne1) (HN1.out h.nil) (fun g hg => ?_) (by simp; omega) rfl (fun k es ck hk => ?_)
    · rcases HL1.out with e | e
      · exact .inl (h.mine g (by rw [← e]; exact hg))
      · right
        rw [hg] at e
        have := Option.some.inj e
        have h2 : ((w.setCell ⟨B, 1, none⟩ (.int .i64 ((S.size : Int) + (l.length : Int)))).drewN nq).heap.size = w.heap.size := by simp [World.setCell, World.drewN]
        omega
    · have hkB : k ≠ B := by rintro rfl; rw [h.heap] at hk; cases hk
      have hkv : some k ≠ vo.ownBlock := by
        intro e
        rcases own_nil_or h.own with rfl | ⟨g', e', cur, hg'⟩
        · simp [Value.ownBlock] at e
        · rw [e'] at e; cases e; rw [hg'] at hk; cases hk
      have h2 : ((w.setCell ⟨B, 1, none⟩ (.int .i64 ((S.size : Int) + (l.length : Int)))).drewN nq).heap[k]? = w.heap[k]? := HO.out k hkB
      rw [hk] at h2 ⊢
      exact (Below.heap_setCell _ ⟨B, 2, none⟩ _ k hkB).trans (HA1.out.other k _ hkv h2)

/-- What bytes that are made at once come to. -/
theorem readB_lit (W : World) (l : List UInt8) (vs : List Value) (t : TypeId) (n : Nat) (hn : l.length = n) (hv : l.map encB = vs) : ReadB (.slice (some ⟨W.heap.size, 0, none⟩) n n) l (W.alloc (.cells vs.toArray t)) := by
  subst hn hv
  refine ⟨some ⟨W.heap.size, 0, none⟩, l.length, rfl, fun j hj => ⟨W.heap.size, 0, rfl, ?_⟩⟩
  have h := cells_new W (l.map encB) t j (encB l[j]) (by simp [hj])
  have e : (⟨W.heap.size, 0, none⟩ : Addr).add j = ⟨W.heap.size, 0 + j, none⟩ := by unfold Addr.add; split <;> simp_all
  rw [e] at h
  exact h
theorem grow_alloc {f : Nat → Prop} {W W' : World} {o : Obj} (k : Nat) (h : grow f (W.alloc o) W' k) : grow f W W' k := h.imp id (fun h => ⟨by have := h.1; simp at this; omega, h.2⟩)

set_option maxRecDepth 100000 in
set_option maxHeartbeats 1000000 in
theorem wtwo_any (B : Nat) (S : WS) (f : Nat → Prop) (n : Int) (w : World) (h : WrE B S f w) (hl : S.size + 2 ≤ 1000000) :
    Calls Try.prog 48 #[.pointer (some ⟨B, 0, none⟩), .int .i64 n] w (ActRet B (S.put (two n)) f w) := by
  have HH := Lib.hid h
  clear h
  go_enter Try.func48, Try.ntmps48
  go_wp2_with fail
  refine (bytes_any B S f (two n) _ _ (HH.out.below ((Below.refl _ _).alloc (Nat.le_refl _) _)) (readB_lit _ (two n) [_, _] _ 2 rfl (by simp [two, encB, byteOf_int])) (by rw [two_len]; exact hl)).mono ?_
  rintro e w1 ⟨rfl, ht, hw⟩
  go_wp2
  go_end0
  exact ⟨rfl, (Turn.of_below ((Below.refl _ _).alloc (Nat.le_refl _) _)).then ht, hw.widen fun k _ => grow_alloc k⟩
theorem grow_trans {f : Nat → Prop} {A B C : World} (h1 : A.heap.size ≤ B.heap.size) (h2 : B.heap.size ≤ C.heap.size) (k : Nat) (h : grow (grow f A B) B C k) : grow f A C k := by
  rcases h with (h | h) | h
  · exact .inl h
  · exact .inr ⟨h.1, by omega⟩
  · exact .inr ⟨by omega, h.2⟩
/-- Two acts, one behind the other. -/
theorem ActRet.then {B : Nat} {S2 : WS} {f : Nat → Prop} {w w1 : World} {e : Ending} {w2 : World} (h2 : ActRet B S2 (grow f w w1) w1 e w2) (h1 : Turn f w w1) : ActRet B S2 f w e w2 :=
  ⟨h2.1, h1.trans h2.2.1, h2.2.2.widen fun k _ => grow_trans h1.size h2.2.1.size k⟩

set_option maxRecDepth 100000 in
set_option maxHeartbeats 1000000 in
theorem wfour_any (B : Nat) (S : WS) (f : Nat → Prop) (n : Int) (w : World) (h : WrE B S f w) (hl : S.size + 4 ≤ 1000000) :
    Calls Try.prog 78 #[.pointer (some ⟨B, 0, none⟩), .int .i64 n] w (ActRet B (S.put (four n)) f w) := by
  have HH := Lib.hid h
  have HP : Hid ((S.put (two (n / 65536))).put (two n) = S.put (four n)) := Lib.hid (WS.put_put _ _ _)
  have hs1 : (S.put (two (n / 65536))).size = S.size + 2 := rfl
  have HS1 := Lib.hid hs1
  clear h hs1
  go_enter Try.func78, Try.ntmps78
  go_wp2_with fail
  refine (wtwo_any B S f _ _ HH.out (by omega)).mono ?_
  rintro e w1 ⟨rfl, ht, hw⟩
  go_wp2_with fail
  refine (wtwo_any B _ _ _ _ hw (by rw [HS1.out]; omega)).mono ?_
  intro e w2 h2
  rw [HP.out] at h2
  have h3 := h2.then ht
  obtain ⟨rfl, h4⟩ := h3
  clear h2 hw ht
  go_wp2
  go_end0
  exact ⟨rfl, h4⟩
end Go.Proofs.Ytdodamkndigjkaa
