/- 4 texts put together: Rle9, Out, Mdr, Wcp. -/
import Derived.IntWalk
import Derived.Test.YtchlemajppnehaaJW2
import Derived.Test.YtchlemajppnehaaJW3
import Derived.Test.YtchlemajppnehaaJW16
import Derived.Test.YtchlemajppnehaaJW18
import Derived.Test.YtchlemajppnehaaJW20
/- append in a region that draws its order: rows of the region's own are kept (a relation for the law of slots). -/
set_option maxRecDepth 100000
namespace Go.Proofs.Ytchlemajppnehaa
open Go Go.RowKit Go.Shelf
theorem Blk.setCells {B : Nat} {t : TypeId} : ∀ (vs : List Value) (o : Nat) (W : World) (l : List Value), Blk W B l t → o + vs.length ≤ l.length → Blk (W.setCells B o vs) B (l.take o ++ vs ++ l.drop (o + vs.length)) t ∧ Trn (fun k => k = B) W (W.setCells B o vs)
  | [], o, W, l, h, _ => ⟨by simpa [World.setCells] using h, Trn.refl _ _⟩
  | v :: vs, o, W, l, h, hl => by
    simp only [List.length_cons] at hl
    have h1 := h.set o v
    obtain ⟨h2, h3⟩ := Blk.setCells vs (o + 1) (W.setCell ⟨B, o, none⟩ v) (l.set o v) h1 (by simp; omega)
    refine ⟨?_, (Trn.set1 h o v).trans (h3.to (.inl rfl))⟩
    have e : (l.set o v).take (o + 1) ++ vs ++ (l.set o v).drop (o + 1 + vs.length) = l.take o ++ v :: vs ++ l.drop (o + (vs.length + 1)) := by
      rw [List.take_succ_eq_append_getElem (by simp; omega), List.getElem_set_self, List.take_set_of_le (by omega), List.drop_set_of_lt (by omega)]
      simp [Nat.add_assoc, Nat.add_comm 1]
    rw [List.length_cons, ← e]
    exact h2
theorem eval_tmp9 (a : Act) (k : Nat) : a.eval (.tmp k) = a.tmps[k]?.getD undef := by simp [Act.eval]
/-- Each predicate stands when the world goes on by le. -/
def StableBy (le : World → World → Prop) : List (Value → World → Prop) → Prop
  | [] => True
  | p :: l => (∀ v x y, le x y → p v x → p v y) ∧ StableBy le l
theorem slotPhi_by {le : World → World → Prop} : ∀ {l : List (Value → World → Prop)}, StableBy le l → ∀ j v x y, le x y → slotPhi l j v x → slotPhi l j v y
  | [], _, _, _, _, _, _, _ => trivial
  | _p :: _l, h, 0, v, x, y, hxy, hp => h.1 v x y hxy hp
  | _p :: l, h, j + 1, v, x, y, hxy, hp => slotPhi_by (l := l) h.2 j v x y hxy hp
def rowsKept {α : Type} (enc : α → List Value) (k : Nat) (e : TypeId) (base : Nat) (L : List α) (W W' : World) : Prop := ∀ v j, OwnK enc k e base v (L.take j) W → OwnK enc k e base v (L.take j) W'
def leRow {α : Type} (enc : α → List Value) (k : Nat) (e : TypeId) (base : Nat) (L : List α) (W W' : World) : Prop := Below base W W' ∧ rowsKept enc k e base L W W'
section
variable {α : Type} {enc : α → List Value} {k : Nat} {e : TypeId} {base : Nat} {L : List α}
theorem leRow_refl (W : World) : leRow enc k e base L W W := ⟨Below.refl _ W, fun _ _ h => h⟩
theorem leRow_trans {x y z : World} (h : leRow enc k e base L x y) (g : leRow enc k e base L y z) : leRow enc k e base L x z := ⟨h.1.trans g.1, fun v j o => g.2 v j (h.2 v j o)⟩
theorem leRow_of {x y : World} (h : slotLe x y) (hb : base ≤ x.heap.size) : leRow enc k e base L x y := ⟨h.mono hb, fun _ _ o => ownK_below o h⟩
/-- Cells that are written as the long list says keep all its beginnings. -/
theorem kept_take {F cur new : List Value} {a q : Nat} (h1 : ∀ i, i < a → new[i]? = F[i]?) (h2 : ∀ i, a ≤ i → new[i]? = cur[i]?) (hc : cur.take q = F.take q) : new.take q = F.take q := by
  apply List.ext_getElem?
  intro i
  rw [List.getElem?_take, List.getElem?_take]
  split
  · rename_i hi
    by_cases ha : i < a
    · exact h1 i ha
    · have h3 := congrArg (fun l => l[i]?) hc
      simp only [List.getElem?_take, if_pos hi] at h3
      rw [h2 i (by omega), h3]
  · rfl
theorem flat_prefix {l L : List α} (h : l <+: L) : ∃ R, L.flatMap enc = l.flatMap enc ++ R := by
  obtain ⟨t, rfl⟩ := h
  exact ⟨t.flatMap enc, List.flatMap_append⟩
theorem run_apKeep {P : Program} (hk : ∀ a, (enc a).length = k) (h0 : 0 < k) (henc : ∀ a, ∀ u ∈ enc a, u.oneCell' = true) {x : Nat → Prop} (w : World) (t ty : TypeId) (z : Value) (bytes : Nat) (h1 : P.underlying t = some (.slice e))
    (h2 : (P.info? e).map (fun i => (i.zero, i.size, i.bytes)) = some (some z, k, bytes)) (hz : z.cells.size = k) (v : Value) (l : List α) (hown : OwnK enc k e base v l w) (yv : Value) (news : List α) (hy : RK enc x yv news w) (b1 : l.length + news.length ≤ 1000000) (b2 : bytes ≤ 1000) (hb : base ≤ w.heap.size) (hL : (l ++ news) <+: L) :
    ∃ v' w', (Builtin.append_ #[t, t] ty #[v, yv]).run P w = .ok v' w' ∧ OwnK enc k e base v' (l ++ news) w' ∧ leRow enc k e base L w w' ∧ ∀ a', (l = [] → ∀ b, news = [b] → b = a') → ∀ g, Blk w g (enc a') e → Blk w' g (enc a') e := by
  obtain ⟨v', w', hrun, ho, hg, hat⟩ := run_apRK (P := P) hk h0 henc w base t ty e z bytes h1 h2 hz v l hown yv news hy b1 b2 hb
  suffices hh : rowsKept enc k e base L w w' ∧ ∀ a', (l = [] → ∀ b, news = [b] → b = a') → ∀ g, Blk w g (enc a') e → Blk w' g (enc a') e from ⟨v', w', hrun, ho, ⟨below_ownK hown hg hb, hh.1⟩, hh.2⟩
  obtain ⟨i, hi, hz0, hz1, hz2⟩ := info_parts h2
  have hown2 := hown
  rcases hown2.2 with ⟨rfl, hn⟩ | ⟨g, cap, cur, rfl, hbg, hg0, hnc, hcm, hcs, htake⟩
  · exact ⟨fun v0 j o => ownK_grown (row := none) o hg (fun _ _ e => by cases e), fun a' _ g hB => hB.kept (hg.block g hB.lt (fun e => by cases e))⟩
  obtain ⟨ao, cap', rfl, hcap', hc⟩ := hy.form
  by_cases hn : news = []
  · subst hn
    have hr : (Builtin.append_ #[t, t] ty #[.slice (some ⟨g, 0, none⟩) l.length cap, .slice ao ([] : List α).length cap']).run P w = .ok (.slice (some ⟨g, 0, none⟩) l.length cap) w := by
      cases ao with
      | none => exact run_append_nothing (P := P) w t t ty e i h1 hi _ l.length cap hnc _ (Src.ofNil w h1 cap')
      | some ad => exact run_append_nothing (P := P) w t t ty e i h1 hi _ l.length cap hnc _ (Src.ofSlice _ h1 ad 0 cap' [] (by simp) (fun j v hj => by simp at hj) (by simp))
    rw [hr] at hrun
    cases hrun
    exact ⟨fun _ _ o => o, fun _ _ _ hB => hB⟩
  have hpos : 0 < news.length := List.length_pos_iff.2 hn
  have hfl : (news.flatMap enc).length = news.length * k := flat_len enc k hk news
  have hll : (l.flatMap enc).length = l.length * k := flat_len enc k hk l
  obtain ⟨b, off, rfl, _, _⟩ := hc 0 ((news.flatMap enc)[0]'(by rw [hfl]; exact Nat.mul_pos hpos h0)) (List.getElem?_eq_getElem _)
  have hnew : ∀ j u, (news.flatMap enc)[j]? = some u → w.cell? ((⟨b, off, none⟩ : Addr).add j) = some u := fun j u hu => by
    obtain ⟨b', off', e', _, c⟩ := hc j u hu
    cases e'
    have e2 : (⟨b, off, none⟩ : Addr).add j = ⟨b, off + j, none⟩ := by unfold Addr.add; split <;> simp_all
    rw [e2]; exact c
  have hblk : Blk w g cur.toList e := by show w.heap[g]? = some (.cells cur.toList.toArray e (0, 0)); rw [hg0]
  have hlen : cur.toList.length = cap * k := by rw [Array.length_toList]; exact hcs
  have hmax : l.length + news.length ≤ maxLen := Nat.le_trans b1 (by unfold maxLen; decide)
  by_cases hroom : l.length + news.length ≤ cap
  · have hmk : (l.length + news.length) * k ≤ cap * k := Nat.mul_le_mul_right k hroom
    rw [Nat.add_mul] at hmk
    have hcell : ∀ j, j < (news.flatMap enc).length → (w.cell? ⟨g, 0 + l.length * i.size + j, none⟩).isSome = true := fun j hj => by
      rw [hblk.cell (i := 0 + l.length * i.size + j) (v := cur.toList[0 + l.length * i.size + j]'(by rw [hlen, hz1]; omega)) (List.getElem?_eq_getElem _)]
      rfl
    have hr := run_append_room_cells (P := P) w t ty e i h1 hi g 0 l.length cap ⟨b, off, none⟩ news.length cap' (news.flatMap enc) (by rw [hfl, hz1]) hnew (fun u hu => by obtain ⟨a, _, ha⟩ := List.mem_flatMap.1 hu; exact henc a u ha) hroom hcell (fun j _ => hblk.frozen _)
    rw [hr] at hrun
    cases hrun
    rw [Nat.zero_add, hz1]
    obtain ⟨hB, hT⟩ := Blk.setCells (news.flatMap enc) (l.length * k) w cur.toList hblk (by rw [hlen, hfl]; omega)
    refine ⟨fun v0 j o => ?_, fun a' ha' g' hB' => ?_⟩
    case refine_2 =>
      by_cases hgg : g' = g
      · subst hgg
        have h5 := hB'.cells hblk
        have h6 : k = cap * k := by rw [← hlen, ← h5, hk]
        have h7 : cap = 1 := by
          rcases Nat.lt_or_ge cap 1 with h | h
          · obtain rfl : cap = 0 := by omega
            omega
          · rcases Nat.lt_or_ge 1 cap with h | h
            · have := Nat.mul_le_mul_right k h
              omega
            · omega
        have h8 : l = [] := List.length_eq_zero_iff.1 (by omega)
        obtain ⟨b', hb'⟩ := List.length_eq_one_iff.1 (show news.length = 1 by omega)
        obtain rfl := ha' h8 b' hb'
        subst h8 hb'
        rw [← h5] at hB
        simp only [List.length_nil, Nat.zero_mul, List.take_zero, List.nil_append, Nat.zero_add, List.flatMap_cons, List.flatMap_nil, List.append_nil, List.drop_length] at hB ⊢
        exact hB
      · exact hB'.kept (hT.block g' hB'.lt hgg)
    rcases o.2 with ⟨rfl, hn0⟩ | ⟨g0, cap0, cur0, rfl, hbg0, hg00, hnc0, hcm0, hcs0, ht0⟩
    · exact ⟨o.1, .inl ⟨rfl, hn0⟩⟩
    · by_cases hgg : g0 = g
      · subst hgg
        rw [hg0] at hg00
        injection hg00 with hg00
        injection hg00 with hcc _
        subst hcc
        refine ⟨o.1, .inr ⟨g0, cap0, _, rfl, hbg0, hB, hnc0, hcm0, ?_, ?_⟩⟩
        · have h9 : cap * k = cap0 * k := hcs.symm.trans hcs0
          rw [List.size_toArray, List.length_append, List.length_append, List.length_take, List.length_drop, hlen, hfl]
          omega
        · obtain ⟨R, hR⟩ := flat_prefix (enc := enc) hL
          have hF : (L.take j).flatMap enc = (L.flatMap enc).take ((L.take j).length * k) := by
            have h3 : L.flatMap enc = (L.take j).flatMap enc ++ (L.drop j).flatMap enc := by rw [← List.flatMap_append, List.take_append_drop]
            rw [h3, List.take_left' (flat_len enc k hk _)]
          rw [hF] at ht0
          rw [hF]
          have htk : cur.toList.take (l.length * k) = l.flatMap enc := htake
          have hnl : (cur.toList.take (l.length * k) ++ news.flatMap enc) = (l ++ news).flatMap enc := by rw [htk, List.flatMap_append]
          have hnll : ((l ++ news).flatMap enc).length = l.length * k + news.length * k := by rw [List.flatMap_append, List.length_append, hll, hfl]
          simp only []
          refine kept_take (a := l.length * k + news.length * k) (fun i hi2 => ?_) (fun i hi2 => ?_) ht0
          · rw [hnl, List.getElem?_append_left (by rw [hnll]; exact hi2), hR, List.getElem?_append_left (by rw [hnll]; exact hi2)]
          · rw [hnl, List.getElem?_append_right (by rw [hnll]; exact hi2), List.getElem?_drop, hnll, hfl]
            congr 1
            omega
      · refine ⟨o.1, .inr ⟨g0, cap0, cur0, rfl, hbg0, ?_, hnc0, hcm0, hcs0, ht0⟩⟩
        exact (hT.block g0 (Array.getElem?_eq_some_iff.1 hg00).1 hgg).trans hg00
  · have hlim : (l.length + news.length) * bytes ≤ 140737488355328 := Nat.le_trans (Nat.mul_le_mul b1 b2) (by decide)
    have hr := run_append_grow (P := P) w t ty e i z h1 hi hz0 ⟨g, 0, none⟩ l.length cap (l.flatMap enc) (by rw [hll, hz1]) (fun j u hj => World.ownsRow.cells hown (g := g) rfl j u hj) ⟨b, off, none⟩ news.length cap' (news.flatMap enc) (by rw [hfl, hz1]) hnew (by omega) (by simp only [maxLen] at hmax; omega) (growslice_fits (by omega) (by rw [hz2]; exact hlim))
    rw [hr] at hrun
    cases hrun
    have hbb : Below w.heap.size w (w.drew.alloc (.cells ((l.flatMap enc).toArray ++ (news.flatMap enc).toArray ++ Builtin.zeroCells z.cells (grownCap w (l.length + news.length) cap e - (l.length + news.length))) e)) := ((Below.refl _ w).drew).alloc (Nat.le_refl _) _
    exact ⟨fun _ _ o => ownK_below o hbb, fun _ _ g' hB => hB.kept (hbb.block g' hB.lt)⟩
/-- At the operation. -/
theorem wp_apKeep {P : Program} (hk : ∀ a, (enc a).length = k) (h0 : 0 < k) (henc : ∀ a, ∀ u ∈ enc a, u.oneCell' = true) {x : Nat → Prop} {w : World} {t : TypeId} {z : Value} {bytes : Nat} (h1 : P.underlying t = some (.slice e))
    (h2 : (P.info? e).map (fun i => (i.zero, i.size, i.bytes)) = some (some z, k, bytes)) (hz : z.cells.size = k) (b2 : bytes ≤ 1000) {o : Oper} {a : Act} {K : Act → World → Prop} {Q : Exit → Act → World → Prop}
    (s y : Operand) (hop : o.op = Op.call { callee := Callee.builtin Builtin.append, args := #[s, y], argTypes := #[t, t] })
    (v : Value) (l : List α) (hs : a.eval s = v) (hown : OwnK enc k e base v l w) (yv : Value) (news : List α) (hy : a.eval y = yv) (hr : RK enc x yv news w) (b1 : l.length + news.length ≤ 1000000) (hb : base ≤ w.heap.size) (hL : (l ++ news) <+: L)
    (hK : ∀ v' w', OwnK enc k e base v' (l ++ news) w' → leRow enc k e base L w w' → (∀ a', (l = [] → ∀ b, news = [b] → b = a') → ∀ g, Blk w g (enc a') e → Blk w' g (enc a') e) → K (a.put o.dst v') w') : Oper.wp P o a w K Q := by
  obtain ⟨v', w', hrun, r1, r2, r3⟩ := run_apKeep (P := P) (base := base) (L := L) hk h0 henc w t o.type z bytes h1 h2 hz v l hown yv news hr b1 b2 hb hL
  unfold Oper.wp
  simp [execOp, hop, resolve, invoke, builtin, hs, hy, hrun, Result.andThen]
  exact hK v' w' r1 r2 r3
/-- append([]T{}, y...): what was there is left alone. -/
theorem run_litRK {P : Program} (hk : ∀ a, (enc a).length = k) (h0 : 0 < k) {x : Nat → Prop} (w : World) (t ty : TypeId) (z : Value) (bytes : Nat) (h1 : P.underlying t = some (.slice e))
    (h2 : (P.info? e).map (fun i => (i.zero, i.size, i.bytes)) = some (some z, k, bytes)) (hz : z.cells.size = k) (g : Nat) (hown : OwnK enc k e base (.slice (some ⟨g, 0, none⟩) 0 0) [] w) (yv : Value) (news : List α) (hy : RK enc x yv news w) (b1 : news.length ≤ 1000000) (b2 : bytes ≤ 1000) (hb : base ≤ w.heap.size) :
    ∃ v' w', (Builtin.append_ #[t, t] ty #[.slice (some ⟨g, 0, none⟩) 0 0, yv]).run P w = .ok v' w' ∧ OwnK enc k e base v' news w' ∧ Below w.heap.size w w' := by
  obtain ⟨ao, cap, rfl, hcap, hc⟩ := hy.form
  obtain ⟨i, hi, hz0, hz1, hz2⟩ := info_parts h2
  by_cases hn : news = []
  · subst hn
    refine ⟨_, _, ?_, hown, Below.refl _ w⟩
    cases ao with
    | none => exact run_append_nothing (P := P) w t t ty e i h1 hi _ 0 0 (Nat.le_refl _) _ (Src.ofNil w h1 cap)
    | some ad => exact run_append_nothing (P := P) w t t ty e i h1 hi _ 0 0 (Nat.le_refl _) _ (Src.ofSlice _ h1 ad 0 cap [] (by simp) (fun j v hj => by simp at hj) (by simp))
  · have hpos : 0 < news.length := List.length_pos_iff.2 hn
    have hfl : (news.flatMap enc).length = news.length * k := flat_len enc k hk news
    obtain ⟨b, off, rfl, _, _⟩ := hc 0 ((news.flatMap enc)[0]'(by rw [hfl]; exact Nat.mul_pos hpos h0)) (List.getElem?_eq_getElem _)
    have hnew : ∀ j u, (news.flatMap enc)[j]? = some u → w.cell? ((⟨b, off, none⟩ : Addr).add j) = some u := fun j u hu => by
      obtain ⟨b', off', e', _, c⟩ := hc j u hu
      cases e'
      have e2 : (⟨b, off, none⟩ : Addr).add j = ⟨b, off + j, none⟩ := by unfold Addr.add; split <;> simp_all
      rw [e2]; exact c
    have hlim : news.length * bytes ≤ 140737488355328 := Nat.le_trans (Nat.mul_le_mul b1 b2) (by decide)
    have hmax : news.length ≤ maxLen := Nat.le_trans b1 (by unfold maxLen; decide)
    have hr := run_append_grow (P := P) w t ty e i z h1 hi hz0 ⟨g, 0, none⟩ 0 0 [] (by simp) (fun j v hj => by simp at hj) ⟨b, off, none⟩ news.length cap (news.flatMap enc) (by rw [hfl, hz1]) hnew (by omega) (by simp only [maxLen] at hmax; omega) (growslice_fits (by omega) (by rw [hz2]; simpa using hlim))
    simp only [Nat.zero_add] at hr
    have hge := grownCap_ge w news.length 0 e
    have hcm := grownCap_le_maxLen w news.length 0 e hmax
    refine ⟨_, _, hr, ⟨hfl, .inr ⟨w.heap.size, _, _, rfl, hb, heap_alloc_new w.drew _, hge, hcm, ?_, ?_⟩⟩, (Below.refl _ w).drew.alloc (Nat.le_refl _) _⟩
    · simp only [Array.size_append, List.size_toArray, List.length_nil, size_zeroCells, hz, hfl, Nat.zero_add, ← Nat.add_mul]
      congr 1
      omega
    · simp only [Array.toList_append, List.nil_append]
      rw [← hfl]
      exact List.take_left
theorem wp_litRK {P : Program} (hk : ∀ a, (enc a).length = k) (h0 : 0 < k) {x : Nat → Prop} {w : World} {t : TypeId} {z : Value} {bytes : Nat} (h1 : P.underlying t = some (.slice e))
    (h2 : (P.info? e).map (fun i => (i.zero, i.size, i.bytes)) = some (some z, k, bytes)) (hz : z.cells.size = k) (b2 : bytes ≤ 1000) {o : Oper} {a : Act} {K : Act → World → Prop} {Q : Exit → Act → World → Prop}
    (s y : Operand) (hop : o.op = Op.call { callee := Callee.builtin Builtin.append, args := #[s, y], argTypes := #[t, t] })
    (hs : ∃ g, a.eval s = .slice (some ⟨g, 0, none⟩) 0 0 ∧ OwnK enc k e base (.slice (some ⟨g, 0, none⟩) 0 0) [] w) (yv : Value) (news : List α) (hy : a.eval y = yv) (hr : RK enc x yv news w) (b1 : news.length ≤ 1000000) (hb : base ≤ w.heap.size)
    (hK : ∀ v' w', OwnK enc k e base v' news w' → Below w.heap.size w w' → K (a.put o.dst v') w') : Oper.wp P o a w K Q := by
  obtain ⟨g, hs, hown⟩ := hs
  obtain ⟨v', w', hrun, r1, r2⟩ := run_litRK (P := P) (base := base) hk h0 w t o.type z bytes h1 h2 hz g hown yv news hr b1 b2 hb
  unfold Oper.wp
  simp [execOp, hop, resolve, invoke, builtin, hs, hy, hrun, Result.andThen]
  exact hK v' w' r1 r2
/-- Rows of the long list are kept, and a literal of one element too. -/
def leRow1 (enc : α → List Value) (k : Nat) (e : TypeId) (base : Nat) (L : List α) (r : α) (W W' : World) : Prop := leRow enc k e base L W W' ∧ ∀ g, Blk W g (enc r) e → Blk W' g (enc r) e
theorem leRow1_refl {r : α} (W : World) : leRow1 enc k e base L r W W := ⟨leRow_refl W, fun _ h => h⟩
theorem leRow1_trans {r : α} {x y z : World} (h : leRow1 enc k e base L r x y) (g : leRow1 enc k e base L r y z) : leRow1 enc k e base L r x z := ⟨leRow_trans h.1 g.1, fun i o => g.2 i (h.2 i o)⟩
theorem leRow1_of {r : α} {x y : World} (h : slotLe x y) (hb : base ≤ x.heap.size) : leRow1 enc k e base L r x y := ⟨leRow_of h hb, fun g o => o.kept (h.block g o.lt)⟩
theorem RK.blk {r : α} {W : World} {g : Nat} (h : Blk W g (enc r) e) : RK enc (fun _ => True) (.slice (some ⟨g, 0, none⟩) 1 1) [r] W :=
  ⟨some ⟨g, 0, none⟩, 1, rfl, Nat.le_refl _, fun j u hu => ⟨g, 0, rfl, trivial, by
    rw [List.flatMap_cons, List.flatMap_nil, List.append_nil] at hu
    rw [Nat.zero_add]
    exact h.cell hu⟩⟩
end
end Go.Proofs.Ytchlemajppnehaa

/- The document's own lists: one goes out. -/
set_option maxRecDepth 100000
namespace Go.Proofs.Ytchlemajppnehaa
open Go Go.RowKit Go.Shelf
attribute [local go_sem] Oper.semAt_some
theorem z_under : Try.prog.underlying 22 = some (.slice 3) := by kernel_rfl
theorem own_lit0z {n : Nat} (W : World) (h : n ≤ W.heap.size) : OwnK encZ 1 3 n (.slice (some ⟨W.heap.size, 0, none⟩) 0 0) [] (W.alloc (.cells #[] 3)) :=
  World.ownsRow_lit (base := n) (e := 3) (size := 1) W #[] 0 h (by simp) rfl
theorem below_undrZ {n : Nat} {w W : World} (h : Below n w.drew W) : Below n w W := ((Below.refl n w).drew).trans h
end Go.Proofs.Ytchlemajppnehaa

/- The document's own Due: Drop. -/
set_option maxRecDepth 100000
namespace Go.Proofs.Ytchlemajppnehaa
open Go Go.RowKit Go.Shelf
attribute [local go_sem] Oper.semAt_some
theorem q_under : Try.prog.underlying 35 = some (.slice 38) := by kernel_rfl
theorem infoQ : (Try.prog.info? 38).map (fun i => (i.zero, i.size, i.bytes)) = some (some (.agg #[.int .i64 0, .int .i64 0]), 2, 16) := by kernel_rfl
theorem own_lit0q {n : Nat} (W : World) (h : n ≤ W.heap.size) : OwnK encQ 2 38 n (.slice (some ⟨W.heap.size, 0, none⟩) 0 0) [] (W.alloc (.cells #[] 38)) :=
  World.ownsRow_lit (base := n) (e := 38) (size := 2) W #[] 0 h (by simp) rfl
theorem below_undrQ {n : Nat} {w W : World} (h : Below n w.drew W) : Below n w W := ((Below.refl n w).drew).trans h
theorem own_low {α : Type} {enc : α → List Value} {k : Nat} {e : TypeId} {base g : Nat} {v : Value} {l : List α} {W : World} (h : OwnK enc k e base v l W) (hv : v.ownBlock = some g) : base ≤ g := by
  rcases h.2 with ⟨rfl, _⟩ | ⟨g', cap, cur, rfl, hb, _⟩
  · cases hv
  · cases hv; exact hb
end Go.Proofs.Ytchlemajppnehaa

/- A walk is parted: what is left is gathered. Its mathematics. -/
set_option maxRecDepth 100000
namespace Go.Proofs.Ytchlemajppnehaa
open Go Go.RowKit Go.Shelf Go.Maps
attribute [local go_sem] Oper.semAt_some
theorem MvL.refl {f : Nat → Prop} (w : World) : MvL f w f w := ⟨Trn.refl _ _, fun k => ⟨.inl, fun e => e.elim id (fun e => by omega)⟩⟩
theorem MvL.next {f f1 : Nat → Prop} {w wr w' : World} (h : MvL f w f1 wr) (t : Trn f1 wr w') : MvL f w (grow f1 wr w') w' := by
  have h1 := h.1.size
  have h2 := t.size
  refine ⟨h.1.trans (t.mono fun b _ e => (h.2 b).1 e), fun k => ⟨fun e => ?_, fun e => ?_⟩⟩
  · rcases e with e | e
    · rcases (h.2 k).1 e with e | e
      · exact .inl e
      · exact .inr ⟨e.1, by omega⟩
    · exact .inr ⟨by omega, e.2⟩
  · rcases e with e | e
    · exact .inl ((h.2 k).2 (.inl e))
    · by_cases hk : k < wr.heap.size
      · exact .inl ((h.2 k).2 (.inr ⟨e.1, hk⟩))
      · exact .inr ⟨by omega, e.2⟩
section
variable {S : Du.St} {L : TL} {dv : Value} {o : List Nat}
variable {X : Nat} {E R R' pre : List (Int × Int)} {most : Int} {N xb lb vb : Nat} {f f1 : Nat → Prop} {w wr w' : World} {nf : Value}
/-- Only blocks of far kinds are changed. -/
def FarOnly (T : List TypeId) (W W' : World) : Prop := ∀ k, k < W.heap.size → (∀ cs t, t ∈ T → ¬ Blk W k cs t) → W'.heap[k]? = W.heap[k]?
theorem UDp.far (h : UDp X S L dv o E most N xb R f w) (hk : FarOnly farT w w') (hs : w.heap.size ≤ w'.heap.size) : UDp X S L dv o E most N xb R f w' := by
  obtain ⟨d, hd, hdf, hdk⟩ := h.core
  exact (hd.away (fun k e => hk k (hd.fb k e) (hdk k e)) hs).wide hdf fun k e => Nat.lt_of_lt_of_le (h.fb k e) hs
theorem DV.far (h : DV X E N f w) (hk : FarOnly farD w w') (hs : w.heap.size ≤ w'.heap.size) : DV X E N f w' := by
  obtain ⟨d, hd, hdf, hdk⟩ := h.core
  exact (hd.away (fun k e => hk k (hd.fb k e) (hdk k e)) hs).wide hdf fun k e => Nat.lt_of_lt_of_le (h.fb k e) hs
theorem FarOnly.of_below {T : List TypeId} (h : Below w.heap.size w w') : FarOnly T w w' := fun k hk _ => h.block k hk
theorem FarOnly.set {T : List TypeId} {b : Nat} {cs : List Value} {t : TypeId} (h : Blk w b cs t) (ht : t ∈ T) (i : Nat) (u : Value) : FarOnly T w (w.setCell ⟨b, i, none⟩ u) := fun k _ hn => Below.heap_setCell w ⟨b, i, none⟩ u k fun e => by
  have e : k = b := e
  subst e
  exact hn cs t ht h
theorem FarOnly.trans {T : List TypeId} {A B C : World} (h : FarOnly T A B) (g : FarOnly T B C) (hb : ∀ k cs t, k < A.heap.size → t ∈ T → Blk B k cs t → ∃ cs', Blk A k cs' t) (hs : A.heap.size ≤ B.heap.size) : FarOnly T A C := fun k hk hn =>
  (g k (by omega) fun cs t ht hB => by obtain ⟨cs', h'⟩ := hb k cs t hk ht hB; exact hn cs' t ht h').trans (h k hk hn)
/-- What an append to a list of the call's own leaves. -/
theorem FarOnly.app {α : Type} {enc : α → List Value} {k : Nat} {e : TypeId} {base : Nat} {v : Value} {l : List α} {T : List TypeId} (ho : OwnK enc k e base v l w) (he : e ∈ T) (hk : ∀ k, k < w.heap.size → v.ownBlock ≠ some k → w'.heap[k]? = w.heap[k]?) : FarOnly T w w' := fun b hb hn => hk b hb fun e2 => by
  obtain ⟨c, hc⟩ := own_blk' ho e2
  exact hn c e he hc
theorem own_appG {α : Type} {enc : α → List Value} {k : Nat} {e : TypeId} {base : Nat} {v : Value} {l : List α} {w w1 : World} {ob : Obj} {g : Nat} (h : OwnK enc k e base v l w) (hg : (w.alloc ob).grownBy w1 v.ownBlock) (hl : v.ownBlock = some g ∨ g = (w.alloc ob).heap.size) :
    (v.ownBlock = some g ∨ w.heap.size ≤ g) ∧ (∀ b, b < w.heap.size → v.ownBlock ≠ some b → w1.heap[b]? = w.heap[b]?) ∧ Trn (fun b => v.ownBlock = some b) w w1 := by
  have hsz : (w.alloc ob).heap.size = w.heap.size + 1 := by simp
  have hb : ∀ b, b < w.heap.size → v.ownBlock ≠ some b → w1.heap[b]? = w.heap[b]? := fun b hb hne =>
    (hg.block b (by omega) (fun e => hne e.symm)).trans (Below.heap_alloc w ob b hb)
  have hs : w.heap.size ≤ w1.heap.size := by have := hg.size; omega
  refine ⟨hl.imp id (fun e => by omega), hb, hg.os, hg.tape, hg.output, hs, fun b hlt hn => hb b hlt hn, fun b ob' hob hbk => ?_⟩
  have hlt : b < w.heap.size := (Array.getElem?_eq_some_iff.1 hob).1
  refine (hb b hlt (fun e => ?_)).trans hob
  obtain ⟨c, hc⟩ := own_blk' h e
  rw [show w.heap[b]? = _ from hc] at hob
  cases hob
  cases hbk
/-- On the way: pre is gathered in the box lb, R' left, the one in hand in the box vb. -/
structure CopI (X : Nat) (S : Du.St) (L : TL) (dv : Value) (o : List Nat) (E : List (Int × Int)) (most : Int) (N xb : Nat) (f : Nat → Prop) (w : World) (nf : Value) (lb vb : Nat) (pre R' : List (Int × Int)) (f1 : Nat → Prop) (x : Int × Int) (wr : World) : Prop where
  mv : MvL f w f1 wr
  ud : UDp X S L dv o E most N xb R' f1 wr
  nf : Blk wr xb [nf] tWb
  lbx : ∃ u, Blk wr lb [u] tLs ∧ OwnK encQ 2 tTm w.heap.size u pre wr ∧ u.ownBlock ≠ some vb
  vbx : Blk wr vb [.int .i64 x.1, .int .i64 x.2] tTm
  lo : w.heap.size ≤ lb ∧ w.heap.size ≤ vb
  old : ∀ (b : Nat) (cs : List Value) (t : TypeId), t ≠ tHp → t ≠ 3 → Blk w b cs t → wr.heap[b]? = w.heap[b]?
variable {x y : Int × Int}
theorem CopI.in_ (h : CopI X S L dv o E most N xb f w nf lb vb pre R' f1 x wr) {k : Nat} (h1 : w.heap.size ≤ k) (h2 : k < wr.heap.size) : f1 k := (h.mv.2 k).2 (.inr ⟨h1, h2⟩)
/-- One is gathered. -/
theorem CopI.push (h : CopI X S L dv o E most N xb f w nf lb vb pre R' f1 x wr) {u : Value} {g n c : Nat} {ob : Obj} {w1 : World} (hB : Blk wr lb [u] tLs) (ho : OwnK encQ 2 tTm w.heap.size u pre wr) (hu : u.ownBlock ≠ some vb) (h1 : OwnK encQ 2 tTm w.heap.size (.slice (some ⟨g, 0, none⟩) n c) (pre ++ [x]) w1)
    (hg : (wr.alloc ob).grownBy w1 u.ownBlock) (hgg : u.ownBlock = some g ∨ g = (wr.alloc ob).heap.size) :
    CopI X S L dv o E most N xb f w nf lb vb (pre ++ [x]) R' (grow f1 wr (w1.setCell ⟨lb, 0, none⟩ (.slice (some ⟨g, 0, none⟩) n c))) x (w1.setCell ⟨lb, 0, none⟩ (.slice (some ⟨g, 0, none⟩) n c)) ∧ Blk w1 lb [u] tLs := by
  obtain ⟨hgg2, hk, t1⟩ := own_appG ho hg hgg
  have hsz := t1.size
  have hll := hB.lt
  have hvl := h.vbx.lt
  obtain ⟨gc, hgc⟩ := own_blk h1
  have hnl : u.ownBlock ≠ some lb := fun e => by
    obtain ⟨c, hc⟩ := own_blk' ho e
    exact hB.ne hc (by decide) rfl
  have B1 := hB.kept (hk lb hll hnl)
  have V1 := h.vbx.kept (hk vb hvl hu)
  have nlv : vb ≠ lb := h.vbx.ne hB (by decide)
  have nlg : g ≠ lb := hgc.ne B1 (by decide)
  have f1u : ∀ b, u.ownBlock = some b → f1 b := fun b e => by
    obtain ⟨c, hc⟩ := own_blk' ho e
    exact h.in_ (own_low ho e) hc.lt
  have t2 : Trn f1 wr (w1.setCell ⟨lb, 0, none⟩ (.slice (some ⟨g, 0, none⟩) n c)) := (t1.mono fun b _ e => f1u b e).trans (Trn.set (f := grow f1 wr w1) B1 (.inl (h.in_ h.lo.1 hll)) 0 _)
  have fo : FarOnly farT wr (w1.setCell ⟨lb, 0, none⟩ (.slice (some ⟨g, 0, none⟩) n c)) := fun k hk2 hn => (Below.heap_setCell w1 ⟨lb, 0, none⟩ _ k fun e => by
      have e : k = lb := e
      subst e
      exact hn _ _ (by decide) hB).trans (hk k hk2 fun e => by
      obtain ⟨c, hc⟩ := own_blk' ho e
      exact hn _ _ (by decide) hc)
  have hxk := fo xb h.nf.lt fun cs t ht hb => h.nf.ne hb (ne_far ht (by decide)) rfl
  refine ⟨⟨h.mv.next t2, (h.ud.far fo t2.size).wide (fun k e => .inl e) (fun k e => e.elim (fun e => Nat.lt_of_lt_of_le (h.ud.fb k e) t2.size) (fun e => e.2)), h.nf.kept hxk, ⟨_, B1.set 0 _, own_kept h1 (fun b e => by cases e; exact Below.heap_setCell _ ⟨lb, 0, none⟩ _ _ nlg), fun e => ?_⟩, V1.other nlv 0 _, h.lo, fun b cs t n1 n2 hb => ?_⟩, B1⟩
  · have e : g = vb := by simpa [Value.ownBlock] using e
    subst e
    rcases hgg2 with e2 | e2
    · exact hu e2
    · omega
  · have hbl := hb.lt
    have hz := h.mv.1.size
    have hlo := h.lo.1
    exact ((Below.heap_setCell w1 ⟨lb, 0, none⟩ _ b (fun e => by have e : b = lb := e; omega)).trans (hk b (by omega) fun e => by have := own_low ho e; omega)).trans (h.old b cs t n1 n2 hb)
/-- The one in hand is put into a new box. -/
theorem CopI.box (h : CopI X S L dv o E most N xb f w nf lb vb pre R' f1 x wr) (y : Int × Int) :
    CopI X S L dv o E most N xb f w nf lb wr.heap.size pre R' (grow f1 wr (wr.alloc (.cells #[.int .i64 y.1, .int .i64 y.2] tTm))) y (wr.alloc (.cells #[.int .i64 y.1, .int .i64 y.2] tTm)) := by
  have hb : Below wr.heap.size wr (wr.alloc (.cells #[.int .i64 y.1, .int .i64 y.2] tTm)) := (Below.refl _ _).alloc (Nat.le_refl _) _
  obtain ⟨u, h1, h2, h3⟩ := h.lbx
  refine ⟨h.mv.next (Trn.of_below hb), h.ud.below hb, h.nf.alloc _, ⟨u, h1.alloc _, ownK_alloc h2 _, fun e => ?_⟩, Blk.new wr _ _, ⟨h.lo.1, h.mv.1.size⟩, fun b cs t n1 n2 hB => (hb.block b (Nat.lt_of_lt_of_le hB.lt h.mv.1.size)).trans (h.old b cs t n1 n2 hB)⟩
  obtain ⟨c, hc⟩ := own_blk' h2 e
  have := hc.lt
  omega
/-- A store into the box of the one in hand. -/
theorem CopI.store (h : CopI X S L dv o E most N xb f w nf lb vb pre R' f1 x wr) (y : Int × Int) :
    ∃ f2, CopI X S L dv o E most N xb f w nf lb vb pre R' f2 y ((wr.setCell ⟨vb, 0, none⟩ (.int .i64 y.1)).setCell ⟨vb, 1, none⟩ (.int .i64 y.2)) := by
  obtain ⟨u, h1, h2, h3⟩ := h.lbx
  have B1 := h.vbx.set 0 (.int .i64 y.1)
  have B2 := B1.set 1 (.int .i64 y.2)
  have hf := h.in_ h.lo.2 h.vbx.lt
  have t1 : Trn f1 wr ((wr.setCell ⟨vb, 0, none⟩ (.int .i64 y.1)).setCell ⟨vb, 1, none⟩ (.int .i64 y.2)) := (Trn.set h.vbx hf 0 _).trans (Trn.set (f := grow f1 wr _) B1 (.inl hf) 1 _)
  have ho := fun b (hb : b ≠ vb) => (Below.heap_setCell (wr.setCell ⟨vb, 0, none⟩ (.int .i64 y.1)) ⟨vb, 1, none⟩ (.int .i64 y.2) b hb).trans (Below.heap_setCell wr ⟨vb, 0, none⟩ (.int .i64 y.1) b hb)
  have fo : FarOnly farT wr ((wr.setCell ⟨vb, 0, none⟩ (.int .i64 y.1)).setCell ⟨vb, 1, none⟩ (.int .i64 y.2)) := fun k _ hn => ho k fun e => by
    subst e
    exact hn _ _ (by decide) h.vbx
  refine ⟨_, h.mv.next t1, (h.ud.far fo t1.size).wide (fun k e => .inl e) (fun k e => e.elim (fun e => Nat.lt_of_lt_of_le (h.ud.fb k e) t1.size) (fun e => e.2)), h.nf.kept (ho _ (h.nf.ne h.vbx (by decide))), ⟨u, h1.kept (ho _ (h1.ne h.vbx (by decide))), own_kept h2 (fun b e => ho b fun e2 => h3 (e2 ▸ e)), h3⟩, B2, h.lo, fun b cs t n1 n2 hB => (ho b fun e => by have := hB.lt; have := h.lo.2; omega).trans (h.old b cs t n1 n2 hB)⟩
/-- What next has left. -/
theorem CopI.step (h : CopI X S L dv o E most N xb f w nf lb vb pre R f1 x wr) (t : Trn f1 wr w') (hu : UDp X S L dv o E most N xb R' (grow f1 wr w') w') (hk : ∀ (b : Nat) (cs : List Value) (t : TypeId), t ≠ tHp → t ≠ 3 → Blk wr b cs t → w'.heap[b]? = wr.heap[b]?) : CopI X S L dv o E most N xb f w nf lb vb pre R' (grow f1 wr w') x w' := by
  obtain ⟨u, h1, h2, h3⟩ := h.lbx
  exact ⟨h.mv.next t, hu, h.nf.kept (hk _ _ _ (by decide) (by decide) h.nf), ⟨u, h1.kept (hk _ _ _ (by decide) (by decide) h1), own_kept h2 (fun b e => by obtain ⟨c, hc⟩ := own_blk' h2 e; exact hk _ _ _ (by decide) (by decide) hc), h3⟩, h.vbx.kept (hk _ _ _ (by decide) (by decide) h.vbx), h.lo, fun b cs t n1 n2 hB => (hk b cs t n1 n2 (hB.kept (h.old b cs t n1 n2 hB))).trans (h.old b cs t n1 n2 hB)⟩
end
end Go.Proofs.Ytchlemajppnehaa
