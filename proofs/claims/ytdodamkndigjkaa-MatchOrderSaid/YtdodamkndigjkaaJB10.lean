/- 4 texts put together: AppR, QuietRound, Tail, Number. -/
import Derived.Deep.AppendSrc
import Derived.Deep.Upon
import Derived.Sort.BigQuietIn
import Derived.Below
import Derived.StillTail
import Derived.Laws.OwnMore
import Derived.Test.YtdodamkndigjkaaJB8
import Derived.Test.YtdodamkndigjkaaJB9
/- append of what lies in a slice of records that is read; cuts of a slice of records. -/
namespace Go.Proofs.Ytdodamkndigjkaa
open Go Go.RowKit

theorem flat_at {α : Type} (enc : α → List Value) (k : Nat) (hk : ∀ x, (enc x).length = k) (h0 : 0 < k) (l : List α) (j : Nat) (u : Value) (h : (l.flatMap enc)[j]? = some u) : ∃ (hj : j / k < l.length), (enc l[j / k])[j % k]? = some u := by
  have hlt : j < l.length * k := by
    rw [← flat_len enc k hk l]
    exact (List.getElem?_eq_some_iff.1 h).1
  have hj : j / k < l.length := Nat.div_lt_of_lt_mul (by rw [Nat.mul_comm]; exact hlt)
  refine ⟨hj, ?_⟩
  have e := flat_get enc k hk l (j / k) (j % k) hj (Nat.mod_lt _ h0)
  rw [Nat.mul_comm, Nat.div_add_mod] at e
  rw [← e]; exact h
theorem readR_cells {g off cap : Nat} {l : List Rd.RR} {W : World} (h : ReadR (.slice (some ⟨g, off, none⟩) l.length cap) l W) (j : Nat) (u : Value) (hu : (l.flatMap encRR)[j]? = some u) : W.cell? ((⟨g, off, none⟩ : Addr).add j) = some u := by
  obtain ⟨hj, hx⟩ := flat_at encRR 5 encRR_len (by omega) l j u hu
  obtain ⟨ao', cap', e, hc⟩ := h.form
  cases e
  obtain ⟨g', off', e, c0, c1, c2, c3, c4⟩ := hc (j / 5) hj
  cases e
  have e2 : (⟨g, off, none⟩ : Addr).add j = ⟨g, off + j, none⟩ := by unfold Addr.add; split <;> simp_all
  rw [e2]
  have hm : j % 5 = 0 ∨ j % 5 = 1 ∨ j % 5 = 2 ∨ j % 5 = 3 ∨ j % 5 = 4 := by omega
  have hd : off + j = off + j / 5 * 5 + j % 5 := by omega
  unfold encRR at hx
  rcases hm with h | h | h | h | h
  all_goals
    rw [h] at hx hd
    simp only [List.getElem?_cons_zero, List.getElem?_cons_succ, Option.some.injEq] at hx
    rw [hd, ← hx]
    assumption

theorem run_apR (w : World) (base : Nat) (ty : TypeId) (v : Value) (l : List Rd.RR) (hown : OwnK encRR 5 51 base v l w) (x : Value) (news : List Rd.RR) (hx : ReadR x news w) (b1 : l.length + news.length ≤ 1000000) (hb : base ≤ w.heap.size) :
    ∃ v' w', (Builtin.append_ #[25, 25] ty #[v, x]).run Try.prog w = .ok v' w' ∧ OwnK encRR 5 51 base v' (l ++ news) w' ∧ w.grownBy w' v.ownBlock ∧ (v'.ownBlock = v.ownBlock ∨ v'.ownBlock = some w.heap.size) := by
  obtain ⟨ao, cap, rfl, hc⟩ := hx.form
  cases ao with
  | none =>
    have hn : news = [] := by
      cases news with
      | nil => rfl
      | cons a l2 => obtain ⟨_, _, e, _⟩ := hc 0 (by simp); cases e
    subst hn
    obtain ⟨i, hi, hz0, hz1, hz2⟩ := info_parts infoRR
    have hform : ∃ ao n c, v = .slice ao n c ∧ n ≤ c := by
      rcases hown.2 with ⟨rfl, hn⟩ | ⟨g, cap', cur, rfl, _, _, hle, _⟩
      · exact ⟨none, 0, 0, rfl, Nat.le_refl _⟩
      · exact ⟨_, _, _, rfl, hle⟩
    obtain ⟨ao, n, c, rfl, hle⟩ := hform
    exact ⟨_, _, run_append_nothing (P := Try.prog) w 25 25 ty 51 i Try.underlying25 hi ao n c hle _ (Src.ofNil w Try.underlying25 cap), by rw [List.append_nil]; exact hown, ⟨rfl, rfl, rfl, Nat.le_refl _, fun _ _ _ => rfl⟩, .inl rfl⟩
  | some ad =>
    by_cases h0 : news = []
    · subst h0
      exact run_apk (P := Try.prog) encRR 5 encRR_len (by omega) encRR_one w base 25 ty 51 _ 56 Try.underlying25 infoRR rfl v l hown ad 0 cap [] rfl (fun j u hj => by simp at hj) (by simp at b1; omega) (by omega) hb
    · obtain ⟨g, off, e, _⟩ := hc 0 (by cases news with | nil => exact absurd rfl h0 | cons => simp)
      cases e
      exact run_apk (P := Try.prog) encRR 5 encRR_len (by omega) encRR_one w base 25 ty 51 _ 56 Try.underlying25 infoRR rfl v l hown ⟨g, off, none⟩ news.length cap news rfl (fun j u hj => readR_cells ⟨_, cap, rfl, hc⟩ j u hj) b1 (by omega) hb

/-- At the operation. -/
theorem wpList_apR (w : World) {ops : Array Oper} {rest : List Oper} {o : Oper} {a : Act} {Q : Exit → Act → World → Prop} (hg : o.guard = none) (s x : Operand)
    (hop : o.op = Op.call { callee := Callee.builtin Builtin.append, args := #[s, x], argTypes := #[25, 25] })
    (base : Nat) (v : Value) (l : List Rd.RR) (hs : a.eval s = v) (hown : OwnK encRR 5 51 base v l w) (xv : Value) (news : List Rd.RR) (hx : a.eval x = xv) (hr : ReadR xv news w) (b1 : l.length + news.length ≤ 1000000) (hb : base ≤ w.heap.size)
    (hK : ∀ v' w', OwnK encRR 5 51 base v' (l ++ news) w' → w.grownBy w' v.ownBlock → (v'.ownBlock = v.ownBlock ∨ v'.ownBlock = some w.heap.size) → wpList Try.prog ops Q rest (a.put o.dst v') w') :
    wpList Try.prog ops Q (o :: rest) a w := by
  refine wpList_plain hg fun K hK' => ?_
  obtain ⟨v', w', hrun, r1, r2, r3⟩ := run_apR w base o.type v l hown xv news hr b1 hb
  unfold Oper.wp
  simp [execOp, hop, resolve, invoke, builtin, hs, hx, hrun, Result.andThen]
  exact hK' _ _ (hK v' w' r1 r2 r3)
theorem step_apR {ops : Array Oper} {o : Oper} {a : Act} {w : World} {K : Act → World → Prop} {Q : Exit → Act → World → Prop} {E : Prop}
    (hg : o.guard = none) (s x : Operand) (hop : o.op = Op.call { callee := Callee.builtin Builtin.append, args := #[s, x], argTypes := #[25, 25] })
    (base : Nat) (v : Value) (l : List Rd.RR) (hs : a.eval s = v) (hown : OwnK encRR 5 51 base v l w) (xv : Value) (news : List Rd.RR) (hx : a.eval x = xv) (hr : ReadR xv news w) (b1 : l.length + news.length ≤ 1000000) (hb : base ≤ w.heap.size)
    (hK : ∀ v' w', OwnK encRR 5 51 base v' (l ++ news) w' → w.grownBy w' v.ownBlock → (v'.ownBlock = v.ownBlock ∨ v'.ownBlock = some w.heap.size) → K (a.put o.dst v') w') :
    if Region.wanted o (yielded ops a.tmps) = true then Oper.wp Try.prog o a w K Q else E := by
  have hw : Region.wanted o (yielded ops a.tmps) = true := by simp [Region.wanted, hg]
  rw [if_pos hw]
  obtain ⟨v', w', hrun, r1, r2, r3⟩ := run_apR w base o.type v l hown xv news hr b1 hb
  unfold Oper.wp
  simp [execOp, hop, resolve, invoke, builtin, hs, hx, hrun, Result.andThen]
  exact hK v' w' r1 r2 r3

/-- What lies below a row that is appended to reads as it did. -/
theorem readR_grown {x v : Value} {L l : List Rd.RR} {w w' : World} {base : Nat} (h : ReadR x L w) (hlt : ∀ ao len cap g, x = .slice (some ⟨g, ao, none⟩) len cap → g < base) (ho : OwnK encRR 5 51 base v l w) (hg : w.grownBy w' v.ownBlock) (hb : base ≤ w.heap.size) : ReadR x L w' := by
  have hB := below_ownK ho hg hb
  obtain ⟨ao, cap, rfl, hc⟩ := h.form
  exact ⟨ao, cap, rfl, fun j hj => by
    obtain ⟨g, off, e, c0, c1, c2, c3, c4⟩ := hc j hj
    subst e
    have hl := hlt off _ _ g rfl
    exact ⟨g, off, rfl, (hB.cell hl).trans c0, (hB.cell hl).trans c1, (hB.cell hl).trans c2, (hB.cell hl).trans c3, (hB.cell hl).trans c4⟩⟩

/-- s[k:] and s[:k]. -/
theorem run_dropR {ao : Option Addr} {cap : Nat} {l : List Rd.RR} {W : World} (h : ReadR (.slice ao l.length cap) l W) (hcap : l.length ≤ cap) {k : Nat} (hk : k ≤ l.length) :
    ∃ v, (∀ W' : World, (Instr.slice 25 (.slice ao l.length cap) (some (.int .i64 (k : Int))) none none).run Try.prog W' = .ok v W') ∧ (∀ W', ReadR (.slice ao l.length cap) l W' → ReadR v (l.drop k) W') ∧
      ∀ o' len' c' g, v = .slice (some ⟨g, o', none⟩) len' c' → ∃ ad, ao = some ad ∧ ad.block = g := by
  have hu : Try.prog.underlying 25 = some (.slice (Try.prog.elem 25)) := by kernel_rfl
  have hs : ∀ W', (sizeOf (Try.prog.elem 25)).run Try.prog W' = .ok 5 W' := fun W' => by
    obtain ⟨i, hi, _, h1, _⟩ := info_parts infoRR
    have he : Try.prog.elem 25 = 51 := by kernel_rfl
    rw [he]
    simp [sizeOf, typeInfo, hi, h1]
  refine ⟨sliced ao k l.length cap 5, fun W' => by rw [run_slice_l (w := W') 25 ao l.length cap hu .i64 (k : Int) (by omega) (by omega), hs W']; rfl, fun W' h' => ?_, ?_⟩
  · refine ⟨_, _, by rw [List.length_drop]; rfl, fun j hj => ?_⟩
    rw [List.length_drop] at hj
    obtain ⟨ao', cap', e, hc⟩ := h'.form
    cases e
    obtain ⟨g, off, e, c0, c1, c2, c3, c4⟩ := hc (k + j) (by omega)
    subst e
    have hne : ¬ cap = k := by omega
    have hi : off + (k + j) * 5 = off + k * 5 + j * 5 := by omega
    rw [hi] at c0 c1 c2 c3 c4
    refine ⟨g, off + k * 5, by rw [if_neg hne]; simp [Addr.add], ?_⟩
    rw [List.getElem_drop]
    exact ⟨c0, c1, c2, c3, c4⟩
  · intro o' len' c' g e
    unfold sliced at e
    injection e with e _ _
    split at e
    · exact ⟨_, e, rfl⟩
    · cases ao with
      | none => cases e
      | some a =>
        simp only [Option.map_some, Option.some.injEq] at e
        refine ⟨a, rfl, ?_⟩
        have hb := congrArg Addr.block e
        unfold Addr.add at hb
        split at hb <;> simpa using hb
theorem run_takeR {ao : Option Addr} {cap : Nat} {l : List Rd.RR} (hcap : l.length ≤ cap) {k : Nat} (hk : k ≤ l.length) :
    ∃ v, (∀ W' : World, (Instr.slice 25 (.slice ao l.length cap) none (some (.int .i64 (k : Int))) none).run Try.prog W' = .ok v W') ∧ (∀ W', ReadR (.slice ao l.length cap) l W' → ReadR v (l.take k) W') ∧
      ∀ o' len' c' g, v = .slice (some ⟨g, o', none⟩) len' c' → ∃ ad, ao = some ad ∧ ad.block = g := by
  have hu : Try.prog.underlying 25 = some (.slice (Try.prog.elem 25)) := by kernel_rfl
  have hs : ∀ W', (sizeOf (Try.prog.elem 25)).run Try.prog W' = .ok 5 W' := fun W' => by
    obtain ⟨i, hi, _, h1, _⟩ := info_parts infoRR
    have he : Try.prog.elem 25 = 51 := by kernel_rfl
    rw [he]
    simp [sizeOf, typeInfo, hi, h1]
  refine ⟨sliced ao 0 k cap 5, fun W' => by rw [run_slice_h (w := W') 25 ao l.length cap hu .i64 (k : Int) (by omega) (by omega), hs W']; rfl, fun W' h' => ?_, ?_⟩
  · refine ⟨_, _, by rw [List.length_take, Nat.min_eq_left hk]; rfl, fun j hj => ?_⟩
    rw [List.length_take] at hj
    obtain ⟨ao', cap', e, hc⟩ := h'.form
    cases e
    obtain ⟨g, off, e, c0, c1, c2, c3, c4⟩ := hc j (by omega)
    subst e
    refine ⟨g, off, ?_, ?_⟩
    · split
      · rfl
      · simp [Addr.add]
    · rw [List.getElem_take]
      exact ⟨c0, c1, c2, c3, c4⟩
  · intro o' len' c' g e
    unfold sliced at e
    injection e with e _ _
    split at e
    · exact ⟨_, e, rfl⟩
    · cases ao with
      | none => cases e
      | some a =>
        simp only [Option.map_some, Option.some.injEq] at e
        refine ⟨a, rfl, ?_⟩
        have hb := congrArg Addr.block e
        unfold Addr.add at hb
        split at hb <;> simpa using hb
end Go.Proofs.Ytdodamkndigjkaa

/- A region that draws its order, in a round of a loop over a function, whose operations only read: one walk in the order of the text serves every order. -/
namespace Go.Proofs.Ytdodamkndigjkaa
open Go
section
variable {F : Fence} {n : Nat} {P : Program} {ops : Array Oper} {md : Region.Mode} {C : World → Prop}

/-- No operation of the list is a defer statement. -/
def noDefer (ops : Array Oper) : Bool := ops.all fun o => match o.op with | .defer _ => false | _ => true

theorem noDefer_spec (h : noDefer ops = true) {i : Nat} {o : Oper} (hi : ops[i]? = some o) : ∀ c, o.op ≠ .defer c := by
  intro c hc
  unfold noDefer at h
  rw [Array.all_eq_true'] at h
  have := h o (Array.mem_of_getElem? hi)
  rw [hc] at this
  cases this

theorem wpIn_of_quiet_r {o : Oper} {a : Act} {K : Act → Prop} {K' : Act → World → Prop} {Q' : Exit → Act → World → Prop} {w : World} (hnd : ∀ c, o.op ≠ .defer c) (hw : C w) (h : ∀ a w', C w' → K a → K' a w')
    (ha : o.askedIn F P a C) (hh : o.quietIn F n P a C K) : o.wpIn F n P a w K' Q' := by
  obtain ⟨v, h1, h2⟩ := hh
  have h3 := h1 w hw
  unfold Oper.quietAtIn at h3
  unfold Oper.wpIn
  refine ⟨ha w hw, ?_⟩
  rw [Oper.semAt_eq _ _ _ hnd]
  generalize (execOp a.eval o).run P w = r at *
  cases r with
  | ok x w' =>
    cases x <;> simp only [Oper.quietUponIn] at h3 <;> simp only [Oper.uponIn]
    case value u =>
      obtain ⟨e1, e2⟩ := h3
      rw [e1, e2]
      exact h _ _ hw h2
    case skip =>
      obtain ⟨e1, e2⟩ := h3
      rw [e1, ← e2]
      exact h _ _ hw h2
    case enter f args =>
      obtain ⟨e1, hd, hc⟩ := h3
      rw [e1]
      exact ⟨hd, hc.mono fun e w'' ⟨he, hw''⟩ => by subst he; exact h _ _ hw'' h2⟩
  | halt x w' => simp only [Oper.quietUponIn] at h3

theorem wpOpIn_of_qOpIn_r {i : Nat} {a : Act} {K : Act → Prop} {K' : Act → World → Prop} {Q' : Exit → Act → World → Prop} {w : World} (hnd : noDefer ops = true) (hC : C w) (h : ∀ a w', C w' → K a → K' a w')
    (hh : qOpIn F n P ops C i K a) : wpOpIn F n P ops Q' i K' a w := by
  unfold qOpIn at hh
  unfold wpOpIn
  split
  · rename_i ho; simp only [ho] at hh; exact h _ _ hC hh
  · rename_i o ho
    simp only [ho] at hh
    obtain ⟨ha, hh⟩ := hh
    split
    · rename_i hw; simp only [hw, if_true] at hh; exact wpIn_of_quiet_r (noDefer_spec hnd ho) hC h ha hh
    · rename_i hw; simp only [hw] at hh; exact ⟨ha w hC, h _ _ hC hh⟩

theorem wpAnyIn_of_quiet_r {Q : Act → Prop} {Q' : Exit → Act → World → Prop} (hnd : noDefer ops = true) (hQ : ∀ a w, C w → Q a → Q' .normal a w) : ∀ (fuel : Nat) (listed : Array Bool) (a : Act) (w : World), C w →
    wpAnyQIn F n P md ops C Q fuel listed a → wpAnyIn F n P md ops Q' fuel listed a w
  | 0, _, _, _, hw, h => ⟨h.1, hQ _ _ hw h.2⟩
  | fuel + 1, _, _, _, hw, h => ⟨fun h0 => hQ _ _ hw (h.1 h0), fun i hi => wpOpIn_of_qOpIn_r hnd hw (fun a' w' hw' => wpAnyIn_of_quiet_r hnd hQ fuel _ a' w' hw') (h.2 i hi)⟩

theorem wpIn_region_quiet_r {id : Nat} {Q : Exit → Act → World → Prop} {a : Act} {w : World} (hnd : noDefer ops = true) (hm : P.follows .mixedOrders = true) (hB : Region.lexB .any ops = true) (hC : C { w with drawn := w.drawn + 1 })
    (h : wpQuietIn F n P ops C (fun a' => ∀ w', C w' → Q .normal a' w') ops.toList a) : (Code.region id ops true).wpIn F n P Q a w := by
  simp only [Region.lexB, Bool.and_eq_true] at hB
  refine wpIn_region_any hm (wpAnyIn_of_quiet_r (Q := fun a' => ∀ w', C w' → Q .normal a' w') hnd (fun _ w' hw' h => h w' hw') _ _ _ _ hC ?_)
  have := wpAnyQIn_lex (F := F) (n := n) (C := C) (md := .any) hB.1 ops.toList 0 (Array.replicate ops.size false) a (by simp) (by simpa using hB.2) h
  simpa using this

/-- At the class: some draws. -/
theorem wpIn_region_quiet_rlit {id : Nat} {Q : Exit → Act → World → Prop} {a : Act} {w : World} {l : List Oper} (hnd : noDefer l.toArray = true) (hm : P.follows .mixedOrders = true) (hB : Region.lexB .any l.toArray = true)
    (h : wpQuietIn F n P l.toArray (fun w' => ∃ n, w' = w.drewN n) (fun a' => ∀ w', (∃ n, w' = w.drewN n) → Q .normal a' w') l a) : (Code.region id l.toArray true).wpIn F n P Q a w :=
  wpIn_region_quiet_r (C := fun w' => ∃ n, w' = w.drewN n) hnd hm hB ⟨1, rfl⟩ (by simpa using h)
/-- At whatever class. -/
theorem wpIn_region_class {id : Nat} {Q : Exit → Act → World → Prop} {a : Act} {w : World} {l : List Oper} (C : World → Prop) (hnd : noDefer l.toArray = true) (hm : P.follows .mixedOrders = true) (hB : Region.lexB .any l.toArray = true) (hC : C w.drew)
    (h : wpQuietIn F n P l.toArray C (fun a' => ∀ w', C w' → Q .normal a' w') l a) : (Code.region id l.toArray true).wpIn F n P Q a w :=
  wpIn_region_quiet_r (C := C) hnd hm hB hC (by simpa using h)
end

/-- A world that has grown out of W: what lay in W lies as it lay. -/
structure Grew (W : World) : Type where
  w : World
  below : RowKit.Below W.heap.size W w

instance Grew.some_world (W : World) : Nonempty (Grew W) := ⟨⟨W, RowKit.Below.refl _ W⟩⟩
theorem Grew.cell {W : World} {a : Addr} {v : Value} (h : W.cell? a = some v) (i : Grew W) : i.w.cell? a = some v := by
  have hl : a.block < W.heap.size := by
    rcases Nat.lt_or_ge a.block W.heap.size with h' | h'
    · exact h'
    · simp [World.cell?, Array.getElem?_eq_none h'] at h
  exact (i.below.cell hl).trans h
theorem Grew.calls {F : Fence} {n : Nat} {P : Program} {f : FuncId} {args : Array Value} {W : World} (i : Grew W) (v : Value) (h : CallsIn F n P f args i.w fun e w' => e = .returned v ∧ RowKit.Below i.w.heap.size i.w w') :
    CallsIn F n P f args i.w fun e w'' => e = .returned v ∧ ∃ j : Grew W, w'' = j.w :=
  h.mono fun _ _ ⟨he, hb⟩ => ⟨he, ⟨_, i.below.trans (hb.mono i.below.size)⟩, rfl⟩
theorem wpIn_region_grew {F : Fence} {n : Nat} {P : Program} {id : Nat} {Q : Exit → Act → World → Prop} {a : Act} {W : World} {l : List Oper} (hnd : noDefer l.toArray = true) (hm : P.follows .mixedOrders = true) (hB : Region.lexB .any l.toArray = true)
    (h : wpQuietIn F n P l.toArray (fun w' => ∃ i : Grew W, w' = i.w) (fun a' => ∀ w', (∃ i : Grew W, w' = i.w) → Q .normal a' w') l a) : (Code.region id l.toArray true).wpIn F n P Q a W :=
  wpIn_region_class (fun w' => ∃ i : Grew W, w' = i.w) hnd hm hB ⟨⟨W.drew, (RowKit.Below.refl _ W).drew⟩, rfl⟩ h
end Go.Proofs.Ytdodamkndigjkaa

/- A region that draws its order, whose operations only read, or call what makes memory, ahead of one last operation (a store) that waits for all of them: one walk in the order of the text serves every order. -/
namespace Go.Proofs.Ytdodamkndigjkaa
open Go
section
variable {F : Fence} {n : Nat} {P : Program} {md : Region.Mode} {C : World → Prop}

/-- Each operation waits for earlier ones alone. -/
def backB (md : Region.Mode) (ops : Array Oper) : Bool := (List.range ops.size).all fun k => match ops[k]? with | some o => o.after.all (fun e => !Region.binds md e || decide (e.on < k)) | none => true
/-- The operation m waits for all ahead of it. -/
def lastB (md : Region.Mode) (ops : Array Oper) (m : Nat) : Bool := match ops[m]? with | some o => (List.range m).all fun i => o.after.any fun e => Region.binds md e && e.on == i | none => false

theorem ready_ne {ops : Array Oper} {listed : Array Bool} (hb : backB md ops = true) (hs : listed.size = ops.size) {m : Nat} (hm : m < ops.size) (hu : listed.getD m true = false) : Region.ready md ops listed ≠ [] := by
  have key : ∀ k, k < ops.size → listed.getD k true = false → Region.ready md ops listed ≠ [] := by
    intro k
    induction k using Nat.strongRecOn with
    | _ k ih =>
      intro hk hun
      by_cases h : ∃ j, j < k ∧ listed.getD j true = false
      · obtain ⟨j, hj, hju⟩ := h
        exact ih j hj (by omega) hju
      · intro e
        have hmem : k ∈ Region.ready md ops listed := by
          refine mem_ready.2 ⟨hun, ops[k], Array.getElem?_eq_getElem hk, fun ed hed hbd => ?_⟩
          have h1 := List.all_eq_true.1 hb k (List.mem_range.2 hk)
          rw [Array.getElem?_eq_getElem hk] at h1
          have h2 := Array.all_eq_true_iff_forall_mem.1 h1 ed hed
          simp only [hbd, Bool.not_true, Bool.false_or, decide_eq_true_eq] at h2
          have h3 : ¬ listed.getD ed.on true = false := fun h3 => h ⟨ed.on, h2, h3⟩
          have h4 : ed.on < listed.size := by omega
          simp only [Array.getD, h4, dite_true] at h3 ⊢
          simpa using h3
        rw [e] at hmem
        cases hmem
  exact key m hm hu
theorem last_all {ops : Array Oper} {listed : Array Bool} {m : Nat} (hl : lastB md ops m = true) (hr : m ∈ Region.ready md ops listed) : ∀ i, i < m → listed.getD i false = true := by
  intro i hi
  obtain ⟨_, o, ho, hall⟩ := mem_ready.1 hr
  unfold lastB at hl
  rw [ho] at hl
  have h1 := List.all_eq_true.1 hl i (List.mem_range.2 hi)
  obtain ⟨e, he, hb⟩ := Array.any_eq_true'.1 h1
  simp only [Bool.and_eq_true, beq_iff_eq] at hb
  have := hall e he hb.1
  rw [hb.2] at this
  exact this
theorem ready_done {ops : Array Oper} {listed : Array Bool} {m : Nat} (hs : listed.size = ops.size) (hm : m + 1 = ops.size) (h : ∀ i, i < m → listed.getD i false = true) : Region.ready md ops (listed.setIfInBounds m true) = [] := by
  apply List.eq_nil_iff_forall_not_mem.2
  intro j hj
  obtain ⟨hun, o, ho, _⟩ := mem_ready.1 hj
  have hjl : j < ops.size := (Array.getElem?_eq_some_iff.1 ho).1
  by_cases e : j = m
  · subst e
    have : j < listed.size := by omega
    simp [Array.getD, this] at hun
  · have h1 := h j (by omega)
    rw [getD_set_ne true (fun e' => e e'.symm)] at hun
    rw [getD_both hun] at h1
    cases h1
theorem ready_congr {ops ops' : Array Oper} (hsz : ops'.size = ops.size) (haft : ∀ i : Nat, (ops'[i]?).map Oper.after = (ops[i]?).map Oper.after) (listed : Array Bool) : Region.ready md ops' listed = Region.ready md ops listed := by
  unfold Region.ready
  rw [hsz]
  apply List.filter_congr
  intro i _
  have e : ∀ (ops : Array Oper), ((ops[i]?).map (fun o : Oper => o.after.all fun e => !Region.binds md e || listed.getD e.on false)) = ((ops[i]?).map Oper.after).map (fun x => x.all fun e => !Region.binds md e || listed.getD e.on false) := fun ops => by rw [Option.map_map]; rfl
  rw [e ops', e ops, haft i]

/-- An operation that yields nothing, in the place of the last one. -/
def idle (t : Oper) : Oper := { t with op := .move (.const undef) }
def swapL : List Oper → List Oper
  | [] => []
  | [t] => [idle t]
  | o :: p :: r => o :: swapL (p :: r)
theorem swapL_app : ∀ (l : List Oper) (t : Oper), swapL (l ++ [t]) = l ++ [idle t]
  | [], t => rfl
  | [o], t => rfl
  | o :: p :: r, t => by
    show o :: swapL (p :: r ++ [t]) = _
    rw [swapL_app (p :: r) t]
    rfl

variable {ops ops' : Array Oper} {m : Nat} {t : Oper}
theorem yielded_congr (hd : ∀ i : Nat, (ops'[i]?).map Oper.dst = (ops[i]?).map Oper.dst) (tmps : Array Value) : yielded ops' tmps = yielded ops tmps := by
  funext j
  unfold yielded
  have e : ∀ (ops : Array Oper), (ops[j]?).bind Oper.dst = ((ops[j]?).map Oper.dst).bind id := fun ops => by cases ops[j]? <;> rfl
  rw [e ops', e ops, hd j]

theorem wpAnyIn_tail {Q : Act → Prop} {Q' : Exit → Act → World → Prop} (hsz : ops'.size = ops.size) (hm : m + 1 = ops.size) (hother : ∀ i, i ≠ m → ops'[i]? = ops[i]?) (ht : ops[m]? = some t) (ht' : ops'[m]? = some (idle t)) (htd : t.dst = none) (htg : t.guard = none)
    (hback : backB md ops = true) (hlast : lastB md ops m = true) (hnd : noDefer ops = true) (hQ : ∀ a w, C w → Q a → wpListIn F n P ops Q' [t] a w) :
    ∀ (fuel : Nat) (listed : Array Bool) (a : Act) (w : World), listed.size = ops.size → listed.getD m true = false → C w → wpAnyQIn F n P md ops' C Q fuel listed a → wpAnyIn F n P md ops Q' fuel listed a w := by
  have haft : ∀ i : Nat, (ops'[i]?).map Oper.after = (ops[i]?).map Oper.after := fun i => by
    by_cases e : i = m
    · rw [e, ht, ht']; rfl
    · rw [hother i e]
  have hdst : ∀ i : Nat, (ops'[i]?).map Oper.dst = (ops[i]?).map Oper.dst := fun i => by
    by_cases e : i = m
    · rw [e, ht, ht']; rfl
    · rw [hother i e]
  have hrd := ready_congr (md := md) hsz haft
  intro fuel
  induction fuel with
  | zero =>
    intro listed a w hs hu hC h
    have h0 := h.1
    rw [hrd] at h0
    exact absurd h0 (ready_ne hback hs (by omega) hu)
  | succ fuel ih =>
    intro listed a w hs hu hC h
    refine ⟨fun h0 => absurd h0 (ready_ne hback hs (by omega) hu), fun i hi => ?_⟩
    have hi' : i ∈ Region.ready md ops' listed := by rw [hrd]; exact hi
    have hq := h.2 i hi'
    by_cases e : i = m
    · rw [e] at hi hq ⊢
      have hd := ready_done (md := md) hs hm (last_all hlast hi)
      have hQa : Q a := by
        unfold qOpIn at hq
        simp only [ht'] at hq
        have hw : Region.wanted (idle t) (yielded ops' a.tmps) = true := by unfold Region.wanted idle; simp only [htg]
        rw [hw] at hq
        simp only [if_true] at hq
        obtain ⟨_, v, _, hK⟩ := hq
        have hput : a.put (idle t).dst v = a := by
          have : (idle t).dst = none := htd
          rw [this]; rfl
        rw [hput] at hK
        cases fuel with
        | zero => exact hK.2
        | succ f => exact hK.1 (by rw [hrd]; exact hd)
      have hl := hQ a w hC hQa
      unfold wpOpIn
      simp only [ht]
      have hfin : ∀ (a' : Act) (w' : World), Q' .normal a' w' → wpAnyIn F n P md ops Q' fuel (listed.setIfInBounds m true) a' w' := fun a' w' h' => by
        cases fuel with
        | zero => exact ⟨hd, h'⟩
        | succ f => exact ⟨fun _ => h', fun j hj => by rw [hd] at hj; cases hj⟩
      unfold wpListIn at hl
      by_cases hw : Region.wanted t (yielded ops a.tmps) = true
      · rw [if_pos hw] at hl ⊢
        exact Oper.wpIn_mono (fun a' w' h' => hfin a' w' h') hl
      · rw [if_neg hw] at hl ⊢
        exact ⟨hl.1, hfin _ _ hl.2⟩
    · have hun : (listed.setIfInBounds i true).getD m true = false := by
        rw [getD_set_ne true e]
        exact hu
      have hq2 : qOpIn F n P ops C i (wpAnyQIn F n P md ops' C Q fuel (listed.setIfInBounds i true)) a := by
        unfold qOpIn at hq ⊢
        rw [hother i e, yielded_congr hdst] at hq
        exact hq
      exact wpOpIn_of_qOpIn_r hnd hC (fun a' w' hw' hh => ih _ a' w' (by simpa using hs) hun hw' hh) hq2

theorem wpIn_region_tail {id : Nat} {l : List Oper} {Q : Exit → Act → World → Prop} {a : Act} {w : World} (C : World → Prop) (htd : t.dst = none) (htg : t.guard = none) (hback : backB .any (l ++ [t]).toArray = true) (hlast : lastB .any (l ++ [t]).toArray l.length = true)
    (hnd : noDefer (l ++ [t]).toArray = true) (hmx : P.follows .mixedOrders = true) (hB : Region.lexB .any (l ++ [idle t]).toArray = true) (hC : C w.drew)
    (h : wpQuietIn F n P (l ++ [idle t]).toArray C (fun a' => ∀ w', C w' → wpListIn F n P (l ++ [t]).toArray Q [t] a' w') (l ++ [idle t]) a) : (Code.region id (l ++ [t]).toArray true).wpIn F n P Q a w := by
  simp only [Region.lexB, Bool.and_eq_true] at hB
  refine wpIn_region_any hmx ?_
  refine wpAnyIn_tail (C := C) (ops' := (l ++ [idle t]).toArray) (m := l.length) (t := t) (Q := fun a' => ∀ w', C w' → wpListIn F n P (l ++ [t]).toArray Q [t] a' w') (by simp) (by simp) (fun i hi => ?_) (by simp) (by simp) htd htg hback hlast hnd (fun a w hw h => h w hw) _ _ _ _ (by simp) (by simp [Array.getD]) hC ?_
  · simp only [List.getElem?_toArray]
    rcases Nat.lt_or_ge i l.length with h1 | h1
    · rw [List.getElem?_append_left h1, List.getElem?_append_left h1]
    · rw [List.getElem?_eq_none (by simp; omega), List.getElem?_eq_none (by simp; omega)]
  · have h2 := wpAnyQIn_lex (F := F) (n := n) (C := C) (md := .any) hB.1 (l ++ [idle t]) 0 (Array.replicate (l ++ [idle t]).toArray.size false) a (by simp) (by simpa using hB.2) h
    simpa using h2
theorem swapL_eq {L : List Oper} (hne : L ≠ []) : swapL L = L.dropLast ++ [idle (L.getLast hne)] := by
  have h := swapL_app L.dropLast (L.getLast hne)
  rw [List.dropLast_concat_getLast hne] at h
  exact h
/-- At a list that is written out, in the class of the worlds that have grown out of W. -/
theorem wpIn_region_tailG {id : Nat} {L : List Oper} {Q : Exit → Act → World → Prop} {a : Act} {W : World} (hne : L ≠ []) (htd : (L.getLast hne).dst = none) (htg : (L.getLast hne).guard = none) (hback : backB .any L.toArray = true) (hlast : lastB .any L.toArray (L.length - 1) = true)
    (hnd : noDefer L.toArray = true) (hmx : P.follows .mixedOrders = true) (hB : Region.lexB .any (swapL L).toArray = true)
    (h : wpQuietIn F n P (swapL L).toArray (fun w' => ∃ i : Grew W, w' = i.w) (fun a' => ∀ w', (∃ i : Grew W, w' = i.w) → wpListIn F n P L.toArray Q [L.getLast hne] a' w') (swapL L) a) : (Code.region id L.toArray true).wpIn F n P Q a W := by
  have e := List.dropLast_concat_getLast hne
  rw [swapL_eq hne] at hB h
  have h2 := wpIn_region_tail (F := F) (n := n) (P := P) (id := id) (l := L.dropLast) (t := L.getLast hne) (Q := Q) (a := a) (w := W) (fun w' => ∃ i : Grew W, w' = i.w) htd htg (by rw [e]; exact hback) (by rw [e, List.length_dropLast]; exact hlast) (by rw [e]; exact hnd) hmx hB ⟨⟨W.drew, (RowKit.Below.refl _ W).drew⟩, rfl⟩ (by rw [e]; exact h)
  rw [e] at h2
  exact h2
/-- The idle operation at the walk's end. -/
theorem wpQuietIn_idle {ops : Array Oper} {Q : Act → Prop} {a : Act} (htd : t.dst = none) (htg : t.guard = none) (h : Q a) : wpQuietIn F n P ops C Q [idle t] a := by
  refine wpQuietIn_step (fun w _ f hf => ?_) (fun K hK => ?_)
  · simp [Oper.about, idle] at hf
  · have hw : Region.wanted (idle t) (yielded ops a.tmps) = true := by unfold Region.wanted idle; simp only [htg]
    rw [hw]
    simp only [if_true]
    refine ⟨undef, fun w _ => ?_, ?_⟩
    · simp [Oper.quietAtIn, idle, execOp, Oper.quietUponIn]
      rfl
    · have : (idle t).dst = none := htd
      rw [this]
      exact hK _ h
end
end Go.Proofs.Ytdodamkndigjkaa

/- Numbers of four bytes: number, four, appendFour. -/
namespace Go.Proofs.Ytdodamkndigjkaa
open Go.RowKit Go.Shelf
attribute [local go_sem] Oper.semAt_some

theorem wraps_i64 (n : Int) (h0 : 0 ≤ n) (h1 : n < 2 ^ 62) : IntKind.i64.wrap n = n := by rw [IntKind.wrap_i64]; omega
theorem or8 (x y : Int) (h0 : 0 ≤ x) (h1 : x % 256 = 0) (h2 : x < 1099511627776) (h3 : 0 ≤ y) (h4 : y < 256) : bits .or .i64 x y = x + y :=
  bits_join .i64 62 (by decide) wraps_i64 8 x y h0 h1 (by omega) h3 h4 (by omega)
theorem or16 (x y : Int) (h0 : 0 ≤ x) (h1 : x % 65536 = 0) (h2 : x < 1099511627776) (h3 : 0 ≤ y) (h4 : y < 65536) : bits .or .i64 x y = x + y :=
  bits_join .i64 62 (by decide) wraps_i64 16 x y h0 h1 (by omega) h3 h4 (by omega)
theorem or24 (x y : Int) (h0 : 0 ≤ x) (h1 : x % 16777216 = 0) (h2 : x < 1099511627776) (h3 : 0 ≤ y) (h4 : y < 16777216) : bits .or .i64 x y = x + y :=
  bits_join .i64 62 (by decide) wraps_i64 24 x y h0 h1 (by omega) h3 h4 (by omega)

theorem num4_eq (a b c d : UInt8) : bits .or .i64 (bits .or .i64 (bits .or .i64 (wrap64 (wrap64 (a.toNat : Int) * 16777216)) (wrap64 (wrap64 (b.toNat : Int) * 65536))) (wrap64 (wrap64 (c.toNat : Int) * 256))) (wrap64 (d.toNat : Int)) = (Rd.num4 a b c d : Int) := by
  have ha := a.toNat_lt
  have hb := b.toNat_lt
  have hc := c.toNat_lt
  have hd := d.toNat_lt
  have e : ∀ z : Int, 0 ≤ z → z < 1099511627776 → wrap64 z = z := fun z h0 h1 => by unfold wrap64; omega
  rw [e (a.toNat : Int) (by omega) (by omega), e (b.toNat : Int) (by omega) (by omega), e (c.toNat : Int) (by omega) (by omega), e (d.toNat : Int) (by omega) (by omega)]
  rw [e _ (by omega) (by omega), e _ (by omega) (by omega), e _ (by omega) (by omega)]
  rw [or24 ((a.toNat : Int) * 16777216) ((b.toNat : Int) * 65536) (by omega) (by omega) (by omega) (by omega) (by omega), or16 ((a.toNat : Int) * 16777216 + (b.toNat : Int) * 65536) ((c.toNat : Int) * 256) (by omega) (by omega) (by omega) (by omega) (by omega), or8 _ _ (by omega) (by omega) (by omega) (by omega) (by omega)]
  unfold Rd.num4
  omega

set_option maxRecDepth 100000 in
set_option maxHeartbeats 1000000 in
theorem number_any (a b c d : UInt8) (w : World) :
    Calls Try.prog 33 #[.string ⟨#[a, b, c, d]⟩] w fun e w' => e = .returned (.int .i64 (Rd.num4 a b c d : Int)) ∧ Drew w w' := by
  have ha := a.toNat_lt
  have hb := b.toNat_lt
  have hc := c.toNat_lt
  have hd := d.toNat_lt
  go_enter Try.func33, Try.ntmps33
  go_wp2
  go_quiet (fail)
  go_wp2
  go_ret
  exact ⟨ret_int (num4_eq a b c d), ⟨nq, rfl⟩⟩

theorem bytes_four (v : Int) : (Rd.four v).map encB = [.int .u8 (v / 16777216 % 256), .int .u8 (v / 65536 % 256), .int .u8 (v / 256 % 256), .int .u8 (v % 256)] := by
  have e : ∀ z : Int, encB (UInt8.ofNat (z % 256).toNat) = .int .u8 (z % 256) := fun z => by
    unfold encB
    rw [UInt8.toNat_ofNat', Nat.mod_eq_of_lt (by omega), Int.toNat_of_nonneg (by omega)]
  simp only [Rd.four, List.map_cons, List.map_nil, e]

end Go.Proofs.Ytdodamkndigjkaa
