/- append of what lies in a slice of records that is read; cuts of a slice of records. -/
import Derived.Test.YtnnoooecbbkggaaDoorParts
import Derived.Test.YtnnoooecbbkggaaDoorSlots
import Derived.Deep.AppendSrc
import Derived.Deep.Upon
namespace Go.Proofs.YtnnoooecbbkggaaDoor
open Go Go.RowKit

theorem flat_at {α : Type} (enc : α → List Value) (k : Nat) (hk : ∀ x, (enc x).length = k) (h0 : 0 < k) (l : List α) (j : Nat) (u : Value) (h : (l.flatMap enc)[j]? = some u) : ∃ (hj : j / k < l.length), (enc l[j / k])[j % k]? = some u := by
  have hlt : j < l.length * k := by
    rw [← flat_len enc k hk l]
    exact (List.getElem?_eq_some_iff.1 h).1
  have hj : j / k < l.length := Nat.div_lt_of_lt_mul (by rw [Nat.mul_comm]; exact hlt)
  refine ⟨hj, ?_⟩
  have e := flat_get enc k hk l (j / k) (j % k) hj (Nat.mod_lt _ h0)
  rw [Nat.mul_comm, Nat.div_add_mod] at e
  rw [← e]; exact h
theorem readR_cells {g off cap : Nat} {l : List Rd.RR} {W : World} (h : ReadR (.slice (some ⟨g, off, none⟩) l.length cap) l W) (j : Nat) (u : Value) (hu : (l.flatMap encRR)[j]? = some u) : W.cell? ((⟨g, off, none⟩ : Addr).add j) = some u := by
  obtain ⟨hj, hx⟩ := flat_at encRR 5 encRR_len (by omega) l j u hu
  obtain ⟨ao', cap', e, hc⟩ := h.form
  cases e
  obtain ⟨g', off', e, c0, c1, c2, c3, c4⟩ := hc (j / 5) hj
  cases e
  have e2 : (⟨g, off, none⟩ : Addr).add j = ⟨g, off + j, none⟩ := by unfold Addr.add; split <;> simp_all
  rw [e2]
  have hm : j % 5 = 0 ∨ j % 5 = 1 ∨ j % 5 = 2 ∨ j % 5 = 3 ∨ j % 5 = 4 := by omega
  have hd : off + j = off + j / 5 * 5 + j % 5 := by omega
  unfold encRR at hx
  rcases hm with h | h | h | h | h
  all_goals
    rw [h] at hx hd
    simp only [List.getElem?_cons_zero, List.getElem?_cons_succ, Option.some.injEq] at hx
    rw [hd, ← hx]
    assumption

theorem run_apR (w : World) (base : Nat) (ty : TypeId) (v : Value) (l : List Rd.RR) (hown : OwnK encRR 5 23 base v l w) (x : Value) (news : List Rd.RR) (hx : ReadR x news w) (b1 : l.length + news.length ≤ 1000000) (hb : base ≤ w.heap.size) :
    ∃ v' w', (Builtin.append_ #[41, 41] ty #[v, x]).run Tryd.prog w = .ok v' w' ∧ OwnK encRR 5 23 base v' (l ++ news) w' ∧ w.grownBy w' v.ownBlock ∧ (v'.ownBlock = v.ownBlock ∨ v'.ownBlock = some w.heap.size) := by
  obtain ⟨ao, cap, rfl, hc⟩ := hx.form
  cases ao with
  | none =>
    have hn : news = [] := by
      cases news with
      | nil => rfl
      | cons a l2 => obtain ⟨_, _, e, _⟩ := hc 0 (by simp); cases e
    subst hn
    obtain ⟨i, hi, hz0, hz1, hz2⟩ := info_parts infoRR
    have hform : ∃ ao n c, v = .slice ao n c ∧ n ≤ c := by
      rcases hown.2 with ⟨rfl, hn⟩ | ⟨g, cap', cur, rfl, _, _, hle, _⟩
      · exact ⟨none, 0, 0, rfl, Nat.le_refl _⟩
      · exact ⟨_, _, _, rfl, hle⟩
    obtain ⟨ao, n, c, rfl, hle⟩ := hform
    exact ⟨_, _, run_append_nothing (P := Tryd.prog) w 41 41 ty 23 i Tryd.underlying41 hi ao n c hle _ (Src.ofNil w Tryd.underlying41 cap), by rw [List.append_nil]; exact hown, ⟨rfl, rfl, rfl, Nat.le_refl _, fun _ _ _ => rfl⟩, .inl rfl⟩
  | some ad =>
    by_cases h0 : news = []
    · subst h0
      exact run_apk (P := Tryd.prog) encRR 5 encRR_len (by omega) encRR_one w base 41 ty 23 _ 56 Tryd.underlying41 infoRR rfl v l hown ad 0 cap [] rfl (fun j u hj => by simp at hj) (by simp at b1; omega) (by omega) hb
    · obtain ⟨g, off, e, _⟩ := hc 0 (by cases news with | nil => exact absurd rfl h0 | cons => simp)
      cases e
      exact run_apk (P := Tryd.prog) encRR 5 encRR_len (by omega) encRR_one w base 41 ty 23 _ 56 Tryd.underlying41 infoRR rfl v l hown ⟨g, off, none⟩ news.length cap news rfl (fun j u hj => readR_cells ⟨_, cap, rfl, hc⟩ j u hj) b1 (by omega) hb

/-- At the operation. -/
theorem wpList_apR (w : World) {ops : Array Oper} {rest : List Oper} {o : Oper} {a : Act} {Q : Exit → Act → World → Prop} (hg : o.guard = none) (s x : Operand)
    (hop : o.op = Op.call { callee := Callee.builtin Builtin.append, args := #[s, x], argTypes := #[41, 41] })
    (base : Nat) (v : Value) (l : List Rd.RR) (hs : a.eval s = v) (hown : OwnK encRR 5 23 base v l w) (xv : Value) (news : List Rd.RR) (hx : a.eval x = xv) (hr : ReadR xv news w) (b1 : l.length + news.length ≤ 1000000) (hb : base ≤ w.heap.size)
    (hK : ∀ v' w', OwnK encRR 5 23 base v' (l ++ news) w' → w.grownBy w' v.ownBlock → (v'.ownBlock = v.ownBlock ∨ v'.ownBlock = some w.heap.size) → wpList Tryd.prog ops Q rest (a.put o.dst v') w') :
    wpList Tryd.prog ops Q (o :: rest) a w := by
  refine wpList_plain hg fun K hK' => ?_
  obtain ⟨v', w', hrun, r1, r2, r3⟩ := run_apR w base o.type v l hown xv news hr b1 hb
  unfold Oper.wp
  simp [execOp, hop, resolve, invoke, builtin, hs, hx, hrun, Result.andThen]
  exact hK' _ _ (hK v' w' r1 r2 r3)
theorem step_apR {ops : Array Oper} {o : Oper} {a : Act} {w : World} {K : Act → World → Prop} {Q : Exit → Act → World → Prop} {E : Prop}
    (hg : o.guard = none) (s x : Operand) (hop : o.op = Op.call { callee := Callee.builtin Builtin.append, args := #[s, x], argTypes := #[41, 41] })
    (base : Nat) (v : Value) (l : List Rd.RR) (hs : a.eval s = v) (hown : OwnK encRR 5 23 base v l w) (xv : Value) (news : List Rd.RR) (hx : a.eval x = xv) (hr : ReadR xv news w) (b1 : l.length + news.length ≤ 1000000) (hb : base ≤ w.heap.size)
    (hK : ∀ v' w', OwnK encRR 5 23 base v' (l ++ news) w' → w.grownBy w' v.ownBlock → (v'.ownBlock = v.ownBlock ∨ v'.ownBlock = some w.heap.size) → K (a.put o.dst v') w') :
    if Region.wanted o (yielded ops a.tmps) = true then Oper.wp Tryd.prog o a w K Q else E := by
  have hw : Region.wanted o (yielded ops a.tmps) = true := by simp [Region.wanted, hg]
  rw [if_pos hw]
  obtain ⟨v', w', hrun, r1, r2, r3⟩ := run_apR w base o.type v l hown xv news hr b1 hb
  unfold Oper.wp
  simp [execOp, hop, resolve, invoke, builtin, hs, hx, hrun, Result.andThen]
  exact hK v' w' r1 r2 r3

/-- What lies below a row that is appended to reads as it did. -/
theorem readR_grown {x v : Value} {L l : List Rd.RR} {w w' : World} {base : Nat} (h : ReadR x L w) (hlt : ∀ ao len cap g, x = .slice (some ⟨g, ao, none⟩) len cap → g < base) (ho : OwnK encRR 5 23 base v l w) (hg : w.grownBy w' v.ownBlock) (hb : base ≤ w.heap.size) : ReadR x L w' := by
  have hB := below_ownK ho hg hb
  obtain ⟨ao, cap, rfl, hc⟩ := h.form
  exact ⟨ao, cap, rfl, fun j hj => by
    obtain ⟨g, off, e, c0, c1, c2, c3, c4⟩ := hc j hj
    subst e
    have hl := hlt off _ _ g rfl
    exact ⟨g, off, rfl, (hB.cell hl).trans c0, (hB.cell hl).trans c1, (hB.cell hl).trans c2, (hB.cell hl).trans c3, (hB.cell hl).trans c4⟩⟩

/-- s[k:] and s[:k]. -/
theorem run_dropR {ao : Option Addr} {cap : Nat} {l : List Rd.RR} {W : World} (h : ReadR (.slice ao l.length cap) l W) (hcap : l.length ≤ cap) {k : Nat} (hk : k ≤ l.length) :
    ∃ v, (∀ W' : World, (Instr.slice 41 (.slice ao l.length cap) (some (.int .i64 (k : Int))) none none).run Tryd.prog W' = .ok v W') ∧ (∀ W', ReadR (.slice ao l.length cap) l W' → ReadR v (l.drop k) W') ∧
      ∀ o' len' c' g, v = .slice (some ⟨g, o', none⟩) len' c' → ∃ ad, ao = some ad ∧ ad.block = g := by
  have hu : Tryd.prog.underlying 41 = some (.slice (Tryd.prog.elem 41)) := by kernel_rfl
  have hs : ∀ W', (sizeOf (Tryd.prog.elem 41)).run Tryd.prog W' = .ok 5 W' := fun W' => by
    obtain ⟨i, hi, _, h1, _⟩ := info_parts infoRR
    have he : Tryd.prog.elem 41 = 23 := by kernel_rfl
    rw [he]
    simp [sizeOf, typeInfo, hi, h1]
  refine ⟨sliced ao k l.length cap 5, fun W' => by rw [run_slice_l (w := W') 41 ao l.length cap hu .i64 (k : Int) (by omega) (by omega), hs W']; rfl, fun W' h' => ?_, ?_⟩
  · refine ⟨_, _, by rw [List.length_drop]; rfl, fun j hj => ?_⟩
    rw [List.length_drop] at hj
    obtain ⟨ao', cap', e, hc⟩ := h'.form
    cases e
    obtain ⟨g, off, e, c0, c1, c2, c3, c4⟩ := hc (k + j) (by omega)
    subst e
    have hne : ¬ cap = k := by omega
    have hi : off + (k + j) * 5 = off + k * 5 + j * 5 := by omega
    rw [hi] at c0 c1 c2 c3 c4
    refine ⟨g, off + k * 5, by rw [if_neg hne]; simp [Addr.add], ?_⟩
    rw [List.getElem_drop]
    exact ⟨c0, c1, c2, c3, c4⟩
  · intro o' len' c' g e
    unfold sliced at e
    injection e with e _ _
    split at e
    · exact ⟨_, e, rfl⟩
    · cases ao with
      | none => cases e
      | some a =>
        simp only [Option.map_some, Option.some.injEq] at e
        refine ⟨a, rfl, ?_⟩
        have hb := congrArg Addr.block e
        unfold Addr.add at hb
        split at hb <;> simpa using hb
theorem run_takeR {ao : Option Addr} {cap : Nat} {l : List Rd.RR} (hcap : l.length ≤ cap) {k : Nat} (hk : k ≤ l.length) :
    ∃ v, (∀ W' : World, (Instr.slice 41 (.slice ao l.length cap) none (some (.int .i64 (k : Int))) none).run Tryd.prog W' = .ok v W') ∧ (∀ W', ReadR (.slice ao l.length cap) l W' → ReadR v (l.take k) W') ∧
      ∀ o' len' c' g, v = .slice (some ⟨g, o', none⟩) len' c' → ∃ ad, ao = some ad ∧ ad.block = g := by
  have hu : Tryd.prog.underlying 41 = some (.slice (Tryd.prog.elem 41)) := by kernel_rfl
  have hs : ∀ W', (sizeOf (Tryd.prog.elem 41)).run Tryd.prog W' = .ok 5 W' := fun W' => by
    obtain ⟨i, hi, _, h1, _⟩ := info_parts infoRR
    have he : Tryd.prog.elem 41 = 23 := by kernel_rfl
    rw [he]
    simp [sizeOf, typeInfo, hi, h1]
  refine ⟨sliced ao 0 k cap 5, fun W' => by rw [run_slice_h (w := W') 41 ao l.length cap hu .i64 (k : Int) (by omega) (by omega), hs W']; rfl, fun W' h' => ?_, ?_⟩
  · refine ⟨_, _, by rw [List.length_take, Nat.min_eq_left hk]; rfl, fun j hj => ?_⟩
    rw [List.length_take] at hj
    obtain ⟨ao', cap', e, hc⟩ := h'.form
    cases e
    obtain ⟨g, off, e, c0, c1, c2, c3, c4⟩ := hc j (by omega)
    subst e
    refine ⟨g, off, ?_, ?_⟩
    · split
      · rfl
      · simp [Addr.add]
    · rw [List.getElem_take]
      exact ⟨c0, c1, c2, c3, c4⟩
  · intro o' len' c' g e
    unfold sliced at e
    injection e with e _ _
    split at e
    · exact ⟨_, e, rfl⟩
    · cases ao with
      | none => cases e
      | some a =>
        simp only [Option.map_some, Option.some.injEq] at e
        refine ⟨a, rfl, ?_⟩
        have hb := congrArg Addr.block e
        unfold Addr.add at hb
        split at hb <;> simpa using hb
end Go.Proofs.YtnnoooecbbkggaaDoor
