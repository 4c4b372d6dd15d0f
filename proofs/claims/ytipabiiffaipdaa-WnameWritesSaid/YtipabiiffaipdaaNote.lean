/- note: the place of what is left of a name is kept. -/
import Derived.Test.YtipabiiffaipdaaAct
namespace Go.Proofs.Ytipabiiffaipdaa
open Go.RowKit Go.Shelf Go.Maps
attribute [local go_sem] Oper.semAt_some

def WS.note (S : WS) (k : List UInt8) : WS := if 16384 ≤ S.size then S else { S with tab := (k, S.size) :: S.tab }
theorem keyed : Keyed Try.prog 9 := string_keyed Try.underlying9
theorem keyOfS (k : List UInt8) (h : k.length ≤ 1000000) : Go.keyOf Try.prog 9 (.string ⟨k.toArray⟩) = some (.string k) := by
  have := Go.WideMaps.keyOf_string_mk (P := Try.prog) (k := 9) Try.underlying9 (s := ⟨k.toArray⟩) (by show k.toArray.size ≤ _; unfold maxLen; simp; omega)
  simpa using this
theorem mapAt_grow {tab : List (List UInt8 × Nat)} {f : Nat → Prop} {vm : Value} {W W' : World} (h : MapAt tab f vm W) (hk : ∀ (k : Nat) es ck, W.heap[k]? = some (.map es ck) → W'.heap[k]? = W.heap[k]?) : MapAt tab (grow f W W') vm W' := by
  rcases h with hn | ⟨b, rfl, hf, hm⟩
  · exact .inl hn
  · refine .inr ⟨b, rfl, .inl hf, ?_⟩
    obtain ⟨es, ck, hb, r⟩ := hm
    exact ⟨es, ck, (hk b es ck hb).trans hb, r⟩
theorem equalIn_map {P : Program} (w : World) (d : Nat) (t : TypeId) {k e : TypeId} (x : Option Nat) (h : P.underlying t = some (.map k e)) :
    (Op.equalIn (d + 1) t (.map x) (.map none)).run P w = .ok x.isNone w := by
  cases x <;> simp [Op.equalIn, run_underlying h]
theorem eql_map (W : World) (x : Option Nat) : (binOp .eql 64 (.map x) (.map none)).run Try.prog W = .ok (.bool x.isNone) W := by
  simp only [binOp]
  simp [Op.equal, Op.maxDepth, equalIn_map W 9999 64 x Try.underlying64]
theorem grownBy_setCell4 (W : World) (b : Nat) {i : Nat} (v : Value) : W.grownBy (W.setCell ⟨b, i, none⟩ v) (some b) :=
  ⟨rfl, rfl, rfl, (KeepsWalks.setCell W _ v).size, fun k _ hk => Below.heap_setCell _ _ _ k (fun e => hk (by rw [e]))⟩
/-- A Writer again, with a map that says more. -/
theorem Wr.noted {B b : Nat} {S : WS} {f : Nat → Prop} {vo vm : Value} {k : List UInt8} {v : Nat} {W W' : World} (h : Wr B S f vo vm W) (hB : W'.heap[B]? = some (.cells (wCells S vo (.map (some b))) 66 (0, 0)))
    (hs : ∀ (g : Nat) cur, W.heap[g]? = some (.cells cur 5 (0, 0)) → W'.heap[g]? = W.heap[g]?) (hb : f b ∨ W.heap.size ≤ b) (hm : W'.ownsMap Try.prog 9 (plainElem Try.prog 3) b (S.tab.length + 1) ((tabD S.tab).put (.string k) (.lit (.int .i64 (v : Int))))) :
    WrE B { S with tab := (k, v) :: S.tab } (grow f W W') W' := by
  refine ⟨vo, .map (some b), hB, .inl h.self, ⟨h.own.1, ?_⟩, h.nil, fun g hg => .inl (h.mine g hg), h.len, .inr ⟨b, rfl, hb.imp id (fun h => ⟨h, hm.lt⟩), hm⟩⟩
  rcases h.own.2 with hn | ⟨g, cap, cur, rfl, hbg, hgb, r⟩
  · exact .inl hn
  · exact .inr ⟨g, cap, cur, rfl, hbg, (hs g cur hgb).trans hgb, r⟩

set_option maxRecDepth 100000 in
set_option maxHeartbeats 2000000 in
theorem note_any (B : Nat) (S : WS) (f : Nat → Prop) (k : List UInt8) (w : World) (h : WrE B S f w) (hk : k.length ≤ 100000) (hl : S.size ≤ 1000000) (ht : S.tab.length ≤ 1000000) :
    Calls Try.prog 39 #[.pointer (some ⟨B, 0, none⟩), .string ⟨k.toArray⟩] w (ActRet B (S.note k) f w) := by
  obtain ⟨vo, vm, h⟩ := h
  have c1 := blk_cell h.heap 1 (v := .int .i64 (S.size : Int)) rfl
  have c4 := blk_cell h.heap 4 (v := vm) rfl
  have f4 := blk_frozen h.heap 4
  by_cases hbig : 16384 ≤ S.size
  · have HN : Hid (S.note k = S) := Lib.hid (by unfold WS.note; rw [if_pos hbig])
    have HH := Lib.hid h
    clear h
    go_enter Try.func39, Try.ntmps39
    go_wp2
    go_end0
    rw [HN.out]
    exact ⟨rfl, Turn.refl _ _, WrE.widen ⟨vo, vm, HH.out⟩ fun _ _ => .inl⟩
  · have HN : Hid (S.note k = { S with tab := (k, S.size) :: S.tab }) := Lib.hid (by unfold WS.note; rw [if_neg hbig])
    have hkey := keyOfS k (by omega)
    have hwf : (Lit.int IntKind.i64 (S.size : Int)).wf = true := WalkArith.wf_i64 ⟨by omega, by omega⟩
    have hmp := h.map
    rcases hmp with ⟨rfl, hte⟩ | ⟨b, rfl, hfb, hm⟩
    · obtain ⟨w2, hw2⟩ : ∃ w2, w2 = (w.alloc (.map #[] 0)).setCell ⟨B, 4, none⟩ (.map (some w.heap.size)) := ⟨_, rfl⟩
      have hs2 : w2.heap.size = w.heap.size + 1 := by rw [hw2]; simp [World.setCell]
      have hB0 : (w.alloc (.map #[] 0)).heap[B]? = some (.cells (wCells S vo (.map none)) 66 (0, 0)) := (Below.heap_alloc w _ B h.lt).trans h.heap
      have hB2 : w2.heap[B]? = some (.cells (wCells S vo (.map (some w.heap.size))) 66 (0, 0)) := by
        rw [hw2, blk_set hB0 4]; simp [wCells]
      have hne : w.heap.size ≠ B := by have := h.lt; omega
      have hmade : w2.ownsMap Try.prog 9 (plainElem Try.prog 3) w.heap.size 0 (.map [] : DataW Unit) := by
        rw [hw2]
        exact World.ownsMap.kept (World.ownsMap_made w _ _ _) (grownBy_setCell4 _ B _) (by simp; exact hne)
      have hm' : w2.drew.ownsMap Try.prog 9 (plainElem Try.prog 3) w.heap.size 0 (.map [] : DataW Unit) := hmade
      obtain ⟨w1, hrun, hown1, hg1⟩ := hm'.update keyed (t := 64) (e := 3) Try.underlying64 (by unfold maxLen; omega) (key := .string ⟨k.toArray⟩) (val := .int .i64 (S.size : Int)) hkey (plainElem_int Try.underlying3 hwf)
      have hmm := @run_makeMap Try.prog
      have heq := eql_map w none
      have c4a := blk_cell hB0 4 (v := .map none) rfl
      have f4a := blk_frozen hB0 4
      have d1 := blk_cell hB2 1 (v := .int .i64 (S.size : Int)) rfl
      have d4 := blk_cell hB2 4 (v := .map (some w.heap.size)) rfl
      have HH := Lib.hid h
      have HM := Lib.hid hown1
      have HG := Lib.hid hg1
      have HB2 := Lib.hid hB2
      have HW2 := Lib.hid hw2
      have HTE := Lib.hid hte
      obtain ⟨es0, ck0, hob⟩ := ownsMap_obj hmade
      have HOB := Lib.hid hob
      clear hob hte hw2
      clear h hown1 hg1 hm' hkey hwf hmade hB2 hB0
      go_enter Try.func39, Try.ntmps39
      go_wp2
      generalize hW : (w.alloc (.map #[] 0)).setCell ⟨B, 4, none⟩ (.map (some w.heap.size)) = wx at *
      obtain rfl : w2 = wx := HW2.out
      go_region
      all_goals go_wp2
      all_goals go_end0
      have h := HH.out
      have hg := HG.out
      have hoth : ∀ k, k < w.heap.size → k ≠ B → w1.heap[k]? = w.heap[k]? := fun k hk hn => by
        rw [hg.block k (by show k < w2.heap.size; omega) (fun e => by cases e; omega)]
        show w2.heap[k]? = _
        rw [← hW, Below.heap_setCell _ ⟨B, 4, none⟩ _ k hn, Below.heap_alloc w _ k hk]
      have hB1 : w1.heap[B]? = some (.cells (wCells S vo (.map (some w.heap.size))) 66 (0, 0)) := (hg.block B (by show B < w2.heap.size; have := h.lt; omega) (fun e => hne (by cases e; rfl))).trans HB2.out
      have hsz1 : w.heap.size ≤ w1.heap.size := by have := hg.size; have e : w2.drew.heap.size = w2.heap.size := rfl; omega
      have hT1 : Turn f w w2 := by
        rw [← hW]
        exact (Turn.of_below ((Below.refl _ w).alloc (Nat.le_refl _) _)).then (turn_setCell ((Below.heap_alloc w _ B h.lt).trans h.heap) (by simp [wCells]) h.self 4 _)
      have hT2 : Turn (grow f w w2) w2 w1 := turn_grown_map (W := w2) ⟨hg.os, hg.tape, hg.output, hg.size, hg.block⟩ (.inr ⟨Nat.le_refl _, by omega⟩) HOB.out
      refine ⟨rfl, hT1.trans hT2, ?_⟩
      rw [HN.out]
      refine h.noted hB1 (fun g cur hgc => hoth g (blk_lt hgc) (by rintro rfl; rw [h.heap] at hgc; cases hgc)) (.inr (Nat.le_refl _)) ?_
      have := HM.out
      rw [HTE.out]
      exact this
    · have hm' : w.drew.ownsMap Try.prog 9 (plainElem Try.prog 3) b S.tab.length (tabD S.tab) := hm
      obtain ⟨w1, hrun, hown1, hg1⟩ := hm'.update keyed (t := 64) (e := 3) Try.underlying64 (by unfold maxLen; omega) (key := .string ⟨k.toArray⟩) (val := .int .i64 (S.size : Int)) hkey (plainElem_int Try.underlying3 hwf)
      have HH := Lib.hid h
      have HM := Lib.hid hown1
      have HG := Lib.hid hg1
      have HM0 := Lib.hid hm
      clear h hown1 hg1 hm hm' hkey hwf
      have heq := eql_map w (some b)
      go_enter Try.func39, Try.ntmps39
      go_wp2
      go_region
      all_goals go_wp2
      all_goals go_end0
      have h := HH.out
      obtain ⟨es0, ck0, hbo⟩ := ownsMap_obj HM0.out
      have hbB : B ≠ b := by rintro rfl; rw [h.heap] at hbo; cases hbo
      have hg := HG.out
      have hoth : ∀ k, k < w.heap.size → k ≠ b → w1.heap[k]? = w.heap[k]? := fun k hk hn => hg.block k hk (fun e => hn (by cases e; rfl))
      refine ⟨rfl, turn_grown_map (W := w) ⟨hg.os, hg.tape, hg.output, hg.size, hg.block⟩ hfb hbo, ?_⟩
      rw [HN.out]
      exact h.noted ((hoth B h.lt hbB).trans h.heap) (fun g cur hgc => hoth g (blk_lt hgc) (by rintro rfl; rw [hgc] at hbo; cases hbo)) (.inl hfb) HM.out
end Go.Proofs.Ytipabiiffaipdaa
