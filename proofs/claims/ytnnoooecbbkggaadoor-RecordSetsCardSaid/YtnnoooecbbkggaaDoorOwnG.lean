/- append onto []byte(s): a row of bytes whose mark of a conversion lies behind its end. -/
import Derived.Test.YtnnoooecbbkggaaDoorFold
import Derived.Laws.CopyRow
namespace Go.Proofs.YtnnoooecbbkggaaDoor
open Go Go.RowKit

/-- No cell of the row is frozen. -/
def Loose (fz : Nat × Nat) (n : Nat) : Prop := n ≤ fz.1 ∨ fz.2 = 0
theorem storeG (P : Program) (g o : Nat) (t : TypeId) (fz : Nat × Nat) : ∀ (vs : List Value) (i : Nat) (cur : Array Value) (w : World), w.heap[g]? = some (.cells cur t fz) → Loose fz cur.size → o + i + vs.length ≤ cur.size → (∀ v ∈ vs, v.oneCell' = true) →
    (storeCells ⟨g, o, none⟩ vs i).run P w = .ok () (w.setRow g (cur.toList.take (o + i) ++ vs ++ cur.toList.drop (o + i + vs.length)).toArray)
  | [], i, cur, w, hg, _, _, _ => by
    simp only [storeCells, List.append_nil, List.length_nil, Nat.add_zero, List.take_append_drop, Array.toArray_toList]
    rw [setRow_self w g cur t fz hg]
    rfl
  | v :: rest, i, cur, w, hg, hfz, hl, h1 => by
    have hi : o + i < cur.size := by simp at hl; omega
    have hadd : (⟨g, o, none⟩ : Addr).add i = ⟨g, o + i, none⟩ := by unfold Addr.add; split <;> simp_all
    have hcell : w.cell? ⟨g, o + i, none⟩ = some cur[o + i] := by simp [World.cell?, hg, hi]
    have hfro : w.frozen? ⟨g, o + i, none⟩ = false := by
      obtain ⟨lo, hi'⟩ := fz
      simp only [World.frozen?, hg, Bool.and_eq_false_iff, decide_eq_false_iff_not]
      rcases hfz with h | h
      · left; simp only at h; omega
      · right; simp only at h; omega
    have hst : (store ((⟨g, o, none⟩ : Addr).add i) v).run P w = .ok () (w.setRow g (cur.setIfInBounds (o + i) v)) := by
      rw [hadd, run_store P w _ v _ (h1 v (by simp)), hcell]
      simp [hfro, setCell_eq_setRow w g (o + i) cur t fz v hg]
    have ih := storeG P g o t fz rest (i + 1) (cur.setIfInBounds (o + i) v) (w.setRow g (cur.setIfInBounds (o + i) v)) (setRow_heap w g cur _ t _ hg) (by simpa using hfz) (by simp at hl ⊢; omega) (fun x hx => h1 x (by simp [hx]))
    simp only [storeCells, Sem.run_bind, hst, Result.andThen_ok, ih, setRow_setRow]
    congr 3
    have e := list_seg_step cur.toList (o + i) v rest (by simp at hl ⊢; omega)
    simpa [Array.toList_setIfInBounds, Nat.add_assoc] using e

def OwnG (base : Nat) (e : TypeId) (v : Value) (l : List UInt8) (W : World) : Prop :=
  ∃ g cap cur fz, v = .slice (some ⟨g, 0, none⟩) l.length cap ∧ base ≤ g ∧ W.heap[g]? = some (.cells cur e fz) ∧ Loose fz cur.size ∧ l.length ≤ cap ∧ cap ≤ maxLen ∧ cur.size = cap ∧ cur.toList.take l.length = l.map encB
theorem ownG_conv (w : World) (e : TypeId) (l : List UInt8) (hl : l.length ≤ 1000000) : OwnG w.heap.size e (.slice (some ⟨w.heap.size, 0, none⟩) l.length (grownCap w l.length 0 e)) l (Lib.bytesWorld w e ⟨l.toArray⟩) := by
  have hsz : (⟨l.toArray⟩ : ByteArray).size = l.length := by show l.toArray.size = _; simp
  have hge := grownCap_ge w l.length 0 e
  refine ⟨w.heap.size, _, _, _, rfl, Nat.le_refl _, Lib.bytesWorld_at_new w e ⟨l.toArray⟩, .inl (Nat.le_refl _), hge, grownCap_le_maxLen w l.length 0 e (Nat.le_trans hl (by unfold maxLen; decide)), ?_, ?_⟩
  · simp only [Lib.bytesCells, hsz, Array.size_append, Array.size_map, Array.size_replicate]
    have : (⟨l.toArray⟩ : ByteArray).data.size = l.length := hsz
    rw [this]; omega
  · simp only [Lib.bytesCells, Array.toList_append, Array.toList_map]
    rw [List.take_append_of_le_length (by simp)]
    rw [List.take_of_length_le (by simp)]
    rfl
theorem ownG_cell {base : Nat} {e : TypeId} {v : Value} {l : List UInt8} {W : World} (h : OwnG base e v l W) : ∃ g cap, v = .slice (some ⟨g, 0, none⟩) l.length cap ∧ base ≤ g ∧ g < W.heap.size ∧ ∀ j (hj : j < l.length), W.cell? ((⟨g, 0, none⟩ : Addr).add j) = some (encB l[j]) := by
  obtain ⟨g, cap, cur, fz, rfl, hb, hg, _, hlc, _, hcs, ht⟩ := h
  refine ⟨g, cap, rfl, hb, (Array.getElem?_eq_some_iff.1 hg).1, fun j hj => ?_⟩
  have hadd : (⟨g, 0, none⟩ : Addr).add j = ⟨g, j, none⟩ := by unfold Addr.add; split <;> simp_all
  rw [hadd, cell_of_row W g j cur e fz hg]
  have h2 : (cur.toList.take l.length)[j]? = some (encB l[j]) := by rw [ht]; simp [hj]
  rw [List.getElem?_take, if_pos hj] at h2
  simpa using h2
theorem ownG_str {P : Program} {src dst e : TypeId} (hs : P.underlying src = some (.slice e)) (he : P.underlying e = some (.int .u8)) (hd : P.underlying dst = some .string) {base : Nat} {v : Value} {l : List UInt8} {W : World} (h : OwnG base e v l W) :
    (convert src dst v).run P W = .ok (.string ⟨l.toArray⟩) W := by
  obtain ⟨g, cap, rfl, _, _, hc⟩ := ownG_cell h
  exact run_convert_bytes_back W src dst e ⟨g, 0, none⟩ cap l hs he hd hc
theorem ownG_below {base : Nat} {e : TypeId} {v : Value} {l : List UInt8} {W W' : World} (h : OwnG base e v l W) (hb : Below W.heap.size W W') : OwnG base e v l W' := by
  obtain ⟨g, cap, cur, fz, hv, hbg, hg, r⟩ := h
  exact ⟨g, cap, cur, fz, hv, hbg, (hb.block g (Array.getElem?_eq_some_iff.1 hg).1).trans hg, r⟩

theorem run_apg {P : Program} (w : World) (base : Nat) (t ty e : TypeId) (h1 : P.underlying t = some (.slice e))
    (h2 : (P.info? e).map (fun i => (i.zero, i.size, i.bytes)) = some (some (.int .u8 0), 1, 1)) (v : Value) (l : List UInt8) (hown : OwnG base e v l w) (ad : Addr) (m c : Nat) (news : List UInt8) (hm : news.length = m)
    (hc : ∀ j u, (news.map encB)[j]? = some u → w.cell? (ad.add j) = some u) (b1 : l.length + m ≤ 1000000) (hb : base ≤ w.heap.size) :
    ∃ v' w', (Builtin.append_ #[t, t] ty #[v, .slice (some ad) m c]).run P w = .ok v' w' ∧ OwnG base e v' (l ++ news) w' ∧ Below base w w' := by
  obtain ⟨i, hi, hz0, hz1, hz2⟩ := info_parts h2
  obtain ⟨g, cap, cur, fz, rfl, hbg, hg, hfz, hnc, hcm, hcs, htake⟩ := hown
  have hmax : l.length + m ≤ maxLen := Nat.le_trans b1 (by unfold maxLen; decide)
  have hlen : (news.map encB).length = m * i.size := by rw [List.length_map, hm, hz1, Nat.mul_one]
  have h1c : ∀ u ∈ news.map encB, u.oneCell' = true := fun u hu => by obtain ⟨x, _, rfl⟩ := List.mem_map.1 hu; exact encB_one x
  by_cases hroom : l.length + m ≤ cap
  · have hf := run_firstCells_some (P := P) w i.size m ad m c (news.map encB) hlen hc
    have hst := storeG P g (l.length * i.size) e fz (news.map encB) 0 cur w hg hfz (by rw [hz1, List.length_map, hm]; omega) h1c
    simp only [Nat.add_zero] at hst
    have hr : (Builtin.append_ #[t, t] ty #[.slice (some ⟨g, 0, none⟩) l.length cap, .slice (some ad) m c]).run P w =
        .ok (.slice (some ⟨g, 0, none⟩) (l.length + m) cap) (w.setRow g (cur.toList.take (l.length * i.size) ++ news.map encB ++ cur.toList.drop (l.length * i.size + (news.map encB).length)).toArray) := by
      simp [Builtin.append_, run_underlying h1, sizeOf, typeInfo, hi, Builtin.lenOf, hroom, hf, Addr.add_lit, hst]
    have hl2 : l.length * i.size = l.length := by rw [hz1, Nat.mul_one]
    refine ⟨_, _, hr, ⟨g, cap, _, fz, by rw [List.length_append, hm], hbg, setRow_heap w g cur _ e _ hg, ?_, by rw [List.length_append, hm]; exact hroom, hcm, ?_, ?_⟩, ?_⟩
    · have : ((cur.toList.take (l.length * i.size) ++ news.map encB ++ cur.toList.drop (l.length * i.size + (news.map encB).length)).toArray).size = cur.size := by
        simp only [List.size_toArray, List.length_append, List.length_take, List.length_drop, Array.length_toList, List.length_map]
        omega
      rw [this]; exact hfz
    · simp only [List.size_toArray, List.length_append, List.length_take, List.length_drop, Array.length_toList, List.length_map]
      omega
    · rw [hl2, htake, List.map_append]
      exact List.take_left' (by simp)
    · refine (Below.refl base w).grown (row := some g) ⟨rfl, rfl, rfl, by simp, fun k _ hk => setRow_other w g k _ (fun e => hk (by rw [e]))⟩ hb (fun k e => by cases e; exact hbg)
  · have holds : ∀ j u, (l.map encB)[j]? = some u → w.cell? ((⟨g, 0, none⟩ : Addr).add j) = some u := fun j u hu => by
      obtain ⟨g', cap', hv, _, _, hcell⟩ := ownG_cell (base := base) (e := e) (v := .slice (some ⟨g, 0, none⟩) l.length cap) (l := l) (W := w) ⟨g, cap, cur, fz, rfl, hbg, hg, hfz, hnc, hcm, hcs, htake⟩
      have hj : j < l.length := by
        rcases Nat.lt_or_ge j l.length with h | h
        · exact h
        · rw [List.getElem?_eq_none (by simpa using h)] at hu; cases hu
      cases hv
      rw [hcell j hj]
      rw [List.getElem?_map, List.getElem?_eq_getElem hj] at hu
      exact hu
    have hlim : (l.length + m) * i.bytes ≤ 140737488355328 := by rw [hz2, Nat.mul_one]; omega
    have hr := run_append_grow (P := P) w t ty e i (.int .u8 0) h1 hi hz0 ⟨g, 0, none⟩ l.length cap (l.map encB) (by rw [List.length_map, hz1, Nat.mul_one]) holds ad m c (news.map encB) hlen hc (by omega) (by omega) (growslice_fits (by omega) hlim)
    have hge := grownCap_ge w (l.length + m) cap e
    have hcm2 : grownCap w (l.length + m) cap e ≤ maxLen := grownCap_le_maxLen w (l.length + m) cap e hmax
    have hz1c : (Value.int IntKind.u8 0).cells.size = 1 := rfl
    refine ⟨_, _, hr, ⟨w.heap.size, _, _, (0, 0), by rw [List.length_append, hm], hb, heap_alloc_new w.drew _, .inr rfl, by rw [List.length_append, hm]; exact hge, hcm2, ?_, ?_⟩, ?_⟩
    · simp only [Array.size_append, List.size_toArray, size_zeroCells, hz1c, List.length_map, hm]
      omega
    · simp only [Array.toList_append, List.append_assoc, List.map_append]
      rw [← List.append_assoc]
      exact List.take_left' (by simp)
    · exact ((Below.refl base w).drew).alloc (by simpa using hb) _

/-- At the operation. -/
theorem wpListIn_apg {P : Program} {F : Fence} {n : Nat} (w : World) {ops : Array Oper} {rest : List Oper} {o : Oper} {a : Act} {Q : Exit → Act → World → Prop} (hg : o.guard = none) (s x : Operand) (t : TypeId)
    (hop : o.op = Op.call { callee := Callee.builtin Builtin.append, args := #[s, x], argTypes := #[t, t] })
    (base : Nat) (e : TypeId) (h1 : P.underlying t = some (.slice e))
    (h2 : (P.info? e).map (fun i => (i.zero, i.size, i.bytes)) = some (some (.int .u8 0), 1, 1)) (v : Value) (l : List UInt8) (hs : a.eval s = v) (hown : OwnG base e v l w) (ad : Addr) (m c : Nat) (news : List UInt8) (hx : a.eval x = .slice (some ad) m c) (hm : news.length = m)
    (hc : ∀ j u, (news.map encB)[j]? = some u → w.cell? (ad.add j) = some u) (b1 : l.length + m ≤ 1000000) (hb : base ≤ w.heap.size)
    (hK : ∀ v' w', OwnG base e v' (l ++ news) w' → Below base w w' → wpListIn F n P ops Q rest (a.put o.dst v') w') :
    wpListIn F n P ops Q (o :: rest) a w := by
  refine wpListIn_plain hg fun K hK' => ?_
  obtain ⟨v', w', hrun, r1, r2⟩ := run_apg (P := P) w base t o.type e h1 h2 v l hown ad m c news hm hc b1 hb
  unfold Oper.wpIn
  refine ⟨?_, ?_⟩
  · simp [Oper.about, hop, resolve, Target.leads, Sem.run_pure]
  · rw [Oper.semAt_plain F _ _ (by rw [hop]; intro c hc'; cases hc')]
    simp [execOp, hop, resolve, invoke, builtin, hs, hx, hrun, Result.andThen]
    exact hK' _ _ (hK v' w' r1 r2)
end Go.Proofs.YtnnoooecbbkggaaDoor
