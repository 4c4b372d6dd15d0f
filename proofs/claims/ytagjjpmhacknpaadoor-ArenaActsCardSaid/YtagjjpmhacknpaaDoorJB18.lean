/- 3 texts put together: Rle, QuietRound, SlotsIn. -/
import Derived.Sort.BigQuietIn
import Derived.Below
import Derived.RangeFuncCalls
import Derived.Test.YtagjjpmhacknpaaDoorJB5
import Derived.Test.YtagjjpmhacknpaaDoorJB6
import Derived.Test.YtagjjpmhacknpaaDoorJB17
/- append in a region that draws its order: rows of the region's own are kept (a relation for the law of slots). -/
set_option maxRecDepth 100000
namespace Go.Proofs.YtagjjpmhacknpaaDoor
open Go Go.RowKit Go.Shelf
theorem eval_tmp (a : Act) (k : Nat) : a.eval (.tmp k) = a.tmps[k]?.getD undef := by simp [Act.eval]
/-- Each predicate stands when the world goes on by le. -/
def StableBy (le : World → World → Prop) : List (Value → World → Prop) → Prop
  | [] => True
  | p :: l => (∀ v x y, le x y → p v x → p v y) ∧ StableBy le l
theorem slotPhi_by {le : World → World → Prop} : ∀ {l : List (Value → World → Prop)}, StableBy le l → ∀ j v x y, le x y → slotPhi l j v x → slotPhi l j v y
  | [], _, _, _, _, _, _, _ => trivial
  | _p :: _l, h, 0, v, x, y, hxy, hp => h.1 v x y hxy hp
  | _p :: l, h, j + 1, v, x, y, hxy, hp => slotPhi_by (l := l) h.2 j v x y hxy hp
def rowsKept {α : Type} (enc : α → List Value) (k : Nat) (e : TypeId) (base : Nat) (L : List α) (W W' : World) : Prop := ∀ v j, OwnK enc k e base v (L.take j) W → OwnK enc k e base v (L.take j) W'
def leRow {α : Type} (enc : α → List Value) (k : Nat) (e : TypeId) (base : Nat) (L : List α) (W W' : World) : Prop := Below base W W' ∧ rowsKept enc k e base L W W'
section
variable {α : Type} {enc : α → List Value} {k : Nat} {e : TypeId} {base : Nat} {L : List α}
theorem leRow_refl (W : World) : leRow enc k e base L W W := ⟨Below.refl _ W, fun _ _ h => h⟩
theorem leRow_trans {x y z : World} (h : leRow enc k e base L x y) (g : leRow enc k e base L y z) : leRow enc k e base L x z := ⟨h.1.trans g.1, fun v j o => g.2 v j (h.2 v j o)⟩
theorem leRow_of {x y : World} (h : slotLe x y) (hb : base ≤ x.heap.size) : leRow enc k e base L x y := ⟨h.mono hb, fun _ _ o => ownK_below o h⟩
/-- Cells that are written as the long list says keep all its beginnings. -/
theorem kept_take {F cur new : List Value} {a q : Nat} (h1 : ∀ i, i < a → new[i]? = F[i]?) (h2 : ∀ i, a ≤ i → new[i]? = cur[i]?) (hc : cur.take q = F.take q) : new.take q = F.take q := by
  apply List.ext_getElem?
  intro i
  rw [List.getElem?_take, List.getElem?_take]
  split
  · rename_i hi
    by_cases ha : i < a
    · exact h1 i ha
    · have h3 := congrArg (fun l => l[i]?) hc
      simp only [List.getElem?_take, if_pos hi] at h3
      rw [h2 i (by omega), h3]
  · rfl
theorem flat_prefix {l L : List α} (h : l <+: L) : ∃ R, L.flatMap enc = l.flatMap enc ++ R := by
  obtain ⟨t, rfl⟩ := h
  exact ⟨t.flatMap enc, List.flatMap_append⟩
theorem run_apKeep {P : Program} (hk : ∀ a, (enc a).length = k) (h0 : 0 < k) (henc : ∀ a, ∀ u ∈ enc a, u.oneCell' = true) {x : Nat → Prop} (w : World) (t ty : TypeId) (z : Value) (bytes : Nat) (h1 : P.underlying t = some (.slice e))
    (h2 : (P.info? e).map (fun i => (i.zero, i.size, i.bytes)) = some (some z, k, bytes)) (hz : z.cells.size = k) (v : Value) (l : List α) (hown : OwnK enc k e base v l w) (yv : Value) (news : List α) (hy : RK enc x yv news w) (b1 : l.length + news.length ≤ 1000000) (b2 : bytes ≤ 1000) (hb : base ≤ w.heap.size) (hL : (l ++ news) <+: L) :
    ∃ v' w', (Builtin.append_ #[t, t] ty #[v, yv]).run P w = .ok v' w' ∧ OwnK enc k e base v' (l ++ news) w' ∧ leRow enc k e base L w w' ∧ ∀ a', (l = [] → ∀ b, news = [b] → b = a') → ∀ g, Blk w g (enc a') e → Blk w' g (enc a') e := by
  obtain ⟨v', w', hrun, ho, hg, hat⟩ := run_apRK (P := P) hk h0 henc w base t ty e z bytes h1 h2 hz v l hown yv news hy b1 b2 hb
  suffices hh : rowsKept enc k e base L w w' ∧ ∀ a', (l = [] → ∀ b, news = [b] → b = a') → ∀ g, Blk w g (enc a') e → Blk w' g (enc a') e from ⟨v', w', hrun, ho, ⟨below_ownK hown hg hb, hh.1⟩, hh.2⟩
  obtain ⟨i, hi, hz0, hz1, hz2⟩ := info_parts h2
  have hown2 := hown
  rcases hown2.2 with ⟨rfl, hn⟩ | ⟨g, cap, cur, rfl, hbg, hg0, hnc, hcm, hcs, htake⟩
  · exact ⟨fun v0 j o => ownK_grown (row := none) o hg (fun _ _ e => by cases e), fun a' _ g hB => hB.kept (hg.block g hB.lt (fun e => by cases e))⟩
  obtain ⟨ao, cap', rfl, hcap', hc⟩ := hy.form
  by_cases hn : news = []
  · subst hn
    have hr : (Builtin.append_ #[t, t] ty #[.slice (some ⟨g, 0, none⟩) l.length cap, .slice ao ([] : List α).length cap']).run P w = .ok (.slice (some ⟨g, 0, none⟩) l.length cap) w := by
      cases ao with
      | none => exact run_append_nothing (P := P) w t t ty e i h1 hi _ l.length cap hnc _ (Src.ofNil w h1 cap')
      | some ad => exact run_append_nothing (P := P) w t t ty e i h1 hi _ l.length cap hnc _ (Src.ofSlice _ h1 ad 0 cap' [] (by simp) (fun j v hj => by simp at hj) (by simp))
    rw [hr] at hrun
    cases hrun
    exact ⟨fun _ _ o => o, fun _ _ _ hB => hB⟩
  have hpos : 0 < news.length := List.length_pos_iff.2 hn
  have hfl : (news.flatMap enc).length = news.length * k := flat_len enc k hk news
  have hll : (l.flatMap enc).length = l.length * k := flat_len enc k hk l
  obtain ⟨b, off, rfl, _, _⟩ := hc 0 ((news.flatMap enc)[0]'(by rw [hfl]; exact Nat.mul_pos hpos h0)) (List.getElem?_eq_getElem _)
  have hnew : ∀ j u, (news.flatMap enc)[j]? = some u → w.cell? ((⟨b, off, none⟩ : Addr).add j) = some u := fun j u hu => by
    obtain ⟨b', off', e', _, c⟩ := hc j u hu
    cases e'
    have e2 : (⟨b, off, none⟩ : Addr).add j = ⟨b, off + j, none⟩ := by unfold Addr.add; split <;> simp_all
    rw [e2]; exact c
  have hblk : Blk w g cur.toList e := by show w.heap[g]? = some (.cells cur.toList.toArray e (0, 0)); rw [hg0]
  have hlen : cur.toList.length = cap * k := by rw [Array.length_toList]; exact hcs
  have hmax : l.length + news.length ≤ maxLen := Nat.le_trans b1 (by unfold maxLen; decide)
  by_cases hroom : l.length + news.length ≤ cap
  · have hmk : (l.length + news.length) * k ≤ cap * k := Nat.mul_le_mul_right k hroom
    rw [Nat.add_mul] at hmk
    have hcell : ∀ j, j < (news.flatMap enc).length → (w.cell? ⟨g, 0 + l.length * i.size + j, none⟩).isSome = true := fun j hj => by
      rw [hblk.cell (i := 0 + l.length * i.size + j) (v := cur.toList[0 + l.length * i.size + j]'(by rw [hlen, hz1]; omega)) (List.getElem?_eq_getElem _)]
      rfl
    have hr := run_append_room_cells (P := P) w t ty e i h1 hi g 0 l.length cap ⟨b, off, none⟩ news.length cap' (news.flatMap enc) (by rw [hfl, hz1]) hnew (fun u hu => by obtain ⟨a, _, ha⟩ := List.mem_flatMap.1 hu; exact henc a u ha) hroom hcell (fun j _ => hblk.frozen _)
    rw [hr] at hrun
    cases hrun
    rw [Nat.zero_add, hz1]
    obtain ⟨hB, hT⟩ := Blk.setCells (news.flatMap enc) (l.length * k) w cur.toList hblk (by rw [hlen, hfl]; omega)
    refine ⟨fun v0 j o => ?_, fun a' ha' g' hB' => ?_⟩
    case refine_2 =>
      by_cases hgg : g' = g
      · subst hgg
        have h5 := hB'.cells hblk
        have h6 : k = cap * k := by rw [← hlen, ← h5, hk]
        have h7 : cap = 1 := by
          rcases Nat.lt_or_ge cap 1 with h | h
          · obtain rfl : cap = 0 := by omega
            omega
          · rcases Nat.lt_or_ge 1 cap with h | h
            · have := Nat.mul_le_mul_right k h
              omega
            · omega
        have h8 : l = [] := List.length_eq_zero_iff.1 (by omega)
        obtain ⟨b', hb'⟩ := List.length_eq_one_iff.1 (show news.length = 1 by omega)
        obtain rfl := ha' h8 b' hb'
        subst h8 hb'
        rw [← h5] at hB
        simp only [List.length_nil, Nat.zero_mul, List.take_zero, List.nil_append, Nat.zero_add, List.flatMap_cons, List.flatMap_nil, List.append_nil, List.drop_length] at hB ⊢
        exact hB
      · exact hB'.kept (hT.block g' hB'.lt hgg)
    rcases o.2 with ⟨rfl, hn0⟩ | ⟨g0, cap0, cur0, rfl, hbg0, hg00, hnc0, hcm0, hcs0, ht0⟩
    · exact ⟨o.1, .inl ⟨rfl, hn0⟩⟩
    · by_cases hgg : g0 = g
      · subst hgg
        rw [hg0] at hg00
        injection hg00 with hg00
        injection hg00 with hcc _
        subst hcc
        refine ⟨o.1, .inr ⟨g0, cap0, _, rfl, hbg0, hB, hnc0, hcm0, ?_, ?_⟩⟩
        · have h9 : cap * k = cap0 * k := hcs.symm.trans hcs0
          rw [List.size_toArray, List.length_append, List.length_append, List.length_take, List.length_drop, hlen, hfl]
          omega
        · obtain ⟨R, hR⟩ := flat_prefix (enc := enc) hL
          have hF : (L.take j).flatMap enc = (L.flatMap enc).take ((L.take j).length * k) := by
            have h3 : L.flatMap enc = (L.take j).flatMap enc ++ (L.drop j).flatMap enc := by rw [← List.flatMap_append, List.take_append_drop]
            rw [h3, List.take_left' (flat_len enc k hk _)]
          rw [hF] at ht0
          rw [hF]
          have htk : cur.toList.take (l.length * k) = l.flatMap enc := htake
          have hnl : (cur.toList.take (l.length * k) ++ news.flatMap enc) = (l ++ news).flatMap enc := by rw [htk, List.flatMap_append]
          have hnll : ((l ++ news).flatMap enc).length = l.length * k + news.length * k := by rw [List.flatMap_append, List.length_append, hll, hfl]
          simp only []
          refine kept_take (a := l.length * k + news.length * k) (fun i hi2 => ?_) (fun i hi2 => ?_) ht0
          · rw [hnl, List.getElem?_append_left (by rw [hnll]; exact hi2), hR, List.getElem?_append_left (by rw [hnll]; exact hi2)]
          · rw [hnl, List.getElem?_append_right (by rw [hnll]; exact hi2), List.getElem?_drop, hnll, hfl]
            congr 1
            omega
      · refine ⟨o.1, .inr ⟨g0, cap0, cur0, rfl, hbg0, ?_, hnc0, hcm0, hcs0, ht0⟩⟩
        exact (hT.block g0 (Array.getElem?_eq_some_iff.1 hg00).1 hgg).trans hg00
  · have hlim : (l.length + news.length) * bytes ≤ 140737488355328 := Nat.le_trans (Nat.mul_le_mul b1 b2) (by decide)
    have hr := run_append_grow (P := P) w t ty e i z h1 hi hz0 ⟨g, 0, none⟩ l.length cap (l.flatMap enc) (by rw [hll, hz1]) (fun j u hj => World.ownsRow.cells hown (g := g) rfl j u hj) ⟨b, off, none⟩ news.length cap' (news.flatMap enc) (by rw [hfl, hz1]) hnew (by omega) (by simp only [maxLen] at hmax; omega) (growslice_fits (by omega) (by rw [hz2]; exact hlim))
    rw [hr] at hrun
    cases hrun
    have hbb : Below w.heap.size w (w.drew.alloc (.cells ((l.flatMap enc).toArray ++ (news.flatMap enc).toArray ++ Builtin.zeroCells z.cells (grownCap w (l.length + news.length) cap e - (l.length + news.length))) e)) := ((Below.refl _ w).drew).alloc (Nat.le_refl _) _
    exact ⟨fun _ _ o => ownK_below o hbb, fun _ _ g' hB => hB.kept (hbb.block g' hB.lt)⟩
/-- At the operation. -/
theorem wp_apKeep {P : Program} (hk : ∀ a, (enc a).length = k) (h0 : 0 < k) (henc : ∀ a, ∀ u ∈ enc a, u.oneCell' = true) {x : Nat → Prop} {w : World} {t : TypeId} {z : Value} {bytes : Nat} (h1 : P.underlying t = some (.slice e))
    (h2 : (P.info? e).map (fun i => (i.zero, i.size, i.bytes)) = some (some z, k, bytes)) (hz : z.cells.size = k) (b2 : bytes ≤ 1000) {o : Oper} {a : Act} {K : Act → World → Prop} {Q : Exit → Act → World → Prop}
    (s y : Operand) (hop : o.op = Op.call { callee := Callee.builtin Builtin.append, args := #[s, y], argTypes := #[t, t] })
    (v : Value) (l : List α) (hs : a.eval s = v) (hown : OwnK enc k e base v l w) (yv : Value) (news : List α) (hy : a.eval y = yv) (hr : RK enc x yv news w) (b1 : l.length + news.length ≤ 1000000) (hb : base ≤ w.heap.size) (hL : (l ++ news) <+: L)
    (hK : ∀ v' w', OwnK enc k e base v' (l ++ news) w' → leRow enc k e base L w w' → (∀ a', (l = [] → ∀ b, news = [b] → b = a') → ∀ g, Blk w g (enc a') e → Blk w' g (enc a') e) → K (a.put o.dst v') w') : Oper.wp P o a w K Q := by
  obtain ⟨v', w', hrun, r1, r2, r3⟩ := run_apKeep (P := P) (base := base) (L := L) hk h0 henc w t o.type z bytes h1 h2 hz v l hown yv news hr b1 b2 hb hL
  unfold Oper.wp
  simp [execOp, hop, resolve, invoke, builtin, hs, hy, hrun, Result.andThen]
  exact hK v' w' r1 r2 r3
/-- append([]T{}, y...): what was there is left alone. -/
theorem run_litRK {P : Program} (hk : ∀ a, (enc a).length = k) (h0 : 0 < k) {x : Nat → Prop} (w : World) (t ty : TypeId) (z : Value) (bytes : Nat) (h1 : P.underlying t = some (.slice e))
    (h2 : (P.info? e).map (fun i => (i.zero, i.size, i.bytes)) = some (some z, k, bytes)) (hz : z.cells.size = k) (g : Nat) (hown : OwnK enc k e base (.slice (some ⟨g, 0, none⟩) 0 0) [] w) (yv : Value) (news : List α) (hy : RK enc x yv news w) (b1 : news.length ≤ 1000000) (b2 : bytes ≤ 1000) (hb : base ≤ w.heap.size) :
    ∃ v' w', (Builtin.append_ #[t, t] ty #[.slice (some ⟨g, 0, none⟩) 0 0, yv]).run P w = .ok v' w' ∧ OwnK enc k e base v' news w' ∧ Below w.heap.size w w' := by
  obtain ⟨ao, cap, rfl, hcap, hc⟩ := hy.form
  obtain ⟨i, hi, hz0, hz1, hz2⟩ := info_parts h2
  by_cases hn : news = []
  · subst hn
    refine ⟨_, _, ?_, hown, Below.refl _ w⟩
    cases ao with
    | none => exact run_append_nothing (P := P) w t t ty e i h1 hi _ 0 0 (Nat.le_refl _) _ (Src.ofNil w h1 cap)
    | some ad => exact run_append_nothing (P := P) w t t ty e i h1 hi _ 0 0 (Nat.le_refl _) _ (Src.ofSlice _ h1 ad 0 cap [] (by simp) (fun j v hj => by simp at hj) (by simp))
  · have hpos : 0 < news.length := List.length_pos_iff.2 hn
    have hfl : (news.flatMap enc).length = news.length * k := flat_len enc k hk news
    obtain ⟨b, off, rfl, _, _⟩ := hc 0 ((news.flatMap enc)[0]'(by rw [hfl]; exact Nat.mul_pos hpos h0)) (List.getElem?_eq_getElem _)
    have hnew : ∀ j u, (news.flatMap enc)[j]? = some u → w.cell? ((⟨b, off, none⟩ : Addr).add j) = some u := fun j u hu => by
      obtain ⟨b', off', e', _, c⟩ := hc j u hu
      cases e'
      have e2 : (⟨b, off, none⟩ : Addr).add j = ⟨b, off + j, none⟩ := by unfold Addr.add; split <;> simp_all
      rw [e2]; exact c
    have hlim : news.length * bytes ≤ 140737488355328 := Nat.le_trans (Nat.mul_le_mul b1 b2) (by decide)
    have hmax : news.length ≤ maxLen := Nat.le_trans b1 (by unfold maxLen; decide)
    have hr := run_append_grow (P := P) w t ty e i z h1 hi hz0 ⟨g, 0, none⟩ 0 0 [] (by simp) (fun j v hj => by simp at hj) ⟨b, off, none⟩ news.length cap (news.flatMap enc) (by rw [hfl, hz1]) hnew (by omega) (by simp only [maxLen] at hmax; omega) (growslice_fits (by omega) (by rw [hz2]; simpa using hlim))
    simp only [Nat.zero_add] at hr
    have hge := grownCap_ge w news.length 0 e
    have hcm := grownCap_le_maxLen w news.length 0 e hmax
    refine ⟨_, _, hr, ⟨hfl, .inr ⟨w.heap.size, _, _, rfl, hb, heap_alloc_new w.drew _, hge, hcm, ?_, ?_⟩⟩, (Below.refl _ w).drew.alloc (Nat.le_refl _) _⟩
    · simp only [Array.size_append, List.size_toArray, List.length_nil, size_zeroCells, hz, hfl, Nat.zero_add, ← Nat.add_mul]
      congr 1
      omega
    · simp only [Array.toList_append, List.nil_append]
      rw [← hfl]
      exact List.take_left
theorem wp_litRK {P : Program} (hk : ∀ a, (enc a).length = k) (h0 : 0 < k) {x : Nat → Prop} {w : World} {t : TypeId} {z : Value} {bytes : Nat} (h1 : P.underlying t = some (.slice e))
    (h2 : (P.info? e).map (fun i => (i.zero, i.size, i.bytes)) = some (some z, k, bytes)) (hz : z.cells.size = k) (b2 : bytes ≤ 1000) {o : Oper} {a : Act} {K : Act → World → Prop} {Q : Exit → Act → World → Prop}
    (s y : Operand) (hop : o.op = Op.call { callee := Callee.builtin Builtin.append, args := #[s, y], argTypes := #[t, t] })
    (hs : ∃ g, a.eval s = .slice (some ⟨g, 0, none⟩) 0 0 ∧ OwnK enc k e base (.slice (some ⟨g, 0, none⟩) 0 0) [] w) (yv : Value) (news : List α) (hy : a.eval y = yv) (hr : RK enc x yv news w) (b1 : news.length ≤ 1000000) (hb : base ≤ w.heap.size)
    (hK : ∀ v' w', OwnK enc k e base v' news w' → Below w.heap.size w w' → K (a.put o.dst v') w') : Oper.wp P o a w K Q := by
  obtain ⟨g, hs, hown⟩ := hs
  obtain ⟨v', w', hrun, r1, r2⟩ := run_litRK (P := P) (base := base) hk h0 w t o.type z bytes h1 h2 hz g hown yv news hr b1 b2 hb
  unfold Oper.wp
  simp [execOp, hop, resolve, invoke, builtin, hs, hy, hrun, Result.andThen]
  exact hK v' w' r1 r2
/-- Rows of the long list are kept, and a literal of one element too. -/
def leRow1 (enc : α → List Value) (k : Nat) (e : TypeId) (base : Nat) (L : List α) (r : α) (W W' : World) : Prop := leRow enc k e base L W W' ∧ ∀ g, Blk W g (enc r) e → Blk W' g (enc r) e
theorem leRow1_refl {r : α} (W : World) : leRow1 enc k e base L r W W := ⟨leRow_refl W, fun _ h => h⟩
theorem leRow1_trans {r : α} {x y z : World} (h : leRow1 enc k e base L r x y) (g : leRow1 enc k e base L r y z) : leRow1 enc k e base L r x z := ⟨leRow_trans h.1 g.1, fun i o => g.2 i (h.2 i o)⟩
theorem leRow1_of {r : α} {x y : World} (h : slotLe x y) (hb : base ≤ x.heap.size) : leRow1 enc k e base L r x y := ⟨leRow_of h hb, fun g o => o.kept (h.block g o.lt)⟩
theorem RK.blk {r : α} {W : World} {g : Nat} (h : Blk W g (enc r) e) : RK enc (fun _ => True) (.slice (some ⟨g, 0, none⟩) 1 1) [r] W :=
  ⟨some ⟨g, 0, none⟩, 1, rfl, Nat.le_refl _, fun j u hu => ⟨g, 0, rfl, trivial, by
    rw [List.flatMap_cons, List.flatMap_nil, List.append_nil] at hu
    rw [Nat.zero_add]
    exact h.cell hu⟩⟩
end
end Go.Proofs.YtagjjpmhacknpaaDoor

/- A region that draws its order, in a round of a loop over a function, whose operations only read: one walk in the order of the text serves every order. -/
namespace Go.Proofs.YtagjjpmhacknpaaDoor
open Go
section
variable {F : Fence} {n : Nat} {P : Program} {ops : Array Oper} {md : Region.Mode} {C : World → Prop}

/-- No operation of the list is a defer statement. -/
def noDefer (ops : Array Oper) : Bool := ops.all fun o => match o.op with | .defer _ => false | _ => true

theorem noDefer_spec (h : noDefer ops = true) {i : Nat} {o : Oper} (hi : ops[i]? = some o) : ∀ c, o.op ≠ .defer c := by
  intro c hc
  unfold noDefer at h
  rw [Array.all_eq_true'] at h
  have := h o (Array.mem_of_getElem? hi)
  rw [hc] at this
  cases this

theorem wpIn_of_quiet_r {o : Oper} {a : Act} {K : Act → Prop} {K' : Act → World → Prop} {Q' : Exit → Act → World → Prop} {w : World} (hnd : ∀ c, o.op ≠ .defer c) (hw : C w) (h : ∀ a w', C w' → K a → K' a w')
    (ha : o.askedIn F P a C) (hh : o.quietIn F n P a C K) : o.wpIn F n P a w K' Q' := by
  obtain ⟨v, h1, h2⟩ := hh
  have h3 := h1 w hw
  unfold Oper.quietAtIn at h3
  unfold Oper.wpIn
  refine ⟨ha w hw, ?_⟩
  rw [Oper.semAt_eq _ _ _ hnd]
  generalize (execOp a.eval o).run P w = r at *
  cases r with
  | ok x w' =>
    cases x <;> simp only [Oper.quietUponIn] at h3 <;> simp only [Oper.uponIn]
    case value u =>
      obtain ⟨e1, e2⟩ := h3
      rw [e1, e2]
      exact h _ _ hw h2
    case skip =>
      obtain ⟨e1, e2⟩ := h3
      rw [e1, ← e2]
      exact h _ _ hw h2
    case enter f args =>
      obtain ⟨e1, hd, hc⟩ := h3
      rw [e1]
      exact ⟨hd, hc.mono fun e w'' ⟨he, hw''⟩ => by subst he; exact h _ _ hw'' h2⟩
  | halt x w' => simp only [Oper.quietUponIn] at h3

theorem wpOpIn_of_qOpIn_r {i : Nat} {a : Act} {K : Act → Prop} {K' : Act → World → Prop} {Q' : Exit → Act → World → Prop} {w : World} (hnd : noDefer ops = true) (hC : C w) (h : ∀ a w', C w' → K a → K' a w')
    (hh : qOpIn F n P ops C i K a) : wpOpIn F n P ops Q' i K' a w := by
  unfold qOpIn at hh
  unfold wpOpIn
  split
  · rename_i ho; simp only [ho] at hh; exact h _ _ hC hh
  · rename_i o ho
    simp only [ho] at hh
    obtain ⟨ha, hh⟩ := hh
    split
    · rename_i hw; simp only [hw, if_true] at hh; exact wpIn_of_quiet_r (noDefer_spec hnd ho) hC h ha hh
    · rename_i hw; simp only [hw] at hh; exact ⟨ha w hC, h _ _ hC hh⟩

theorem wpAnyIn_of_quiet_r {Q : Act → Prop} {Q' : Exit → Act → World → Prop} (hnd : noDefer ops = true) (hQ : ∀ a w, C w → Q a → Q' .normal a w) : ∀ (fuel : Nat) (listed : Array Bool) (a : Act) (w : World), C w →
    wpAnyQIn F n P md ops C Q fuel listed a → wpAnyIn F n P md ops Q' fuel listed a w
  | 0, _, _, _, hw, h => ⟨h.1, hQ _ _ hw h.2⟩
  | fuel + 1, _, _, _, hw, h => ⟨fun h0 => hQ _ _ hw (h.1 h0), fun i hi => wpOpIn_of_qOpIn_r hnd hw (fun a' w' hw' => wpAnyIn_of_quiet_r hnd hQ fuel _ a' w' hw') (h.2 i hi)⟩

theorem wpIn_region_quiet_r {id : Nat} {Q : Exit → Act → World → Prop} {a : Act} {w : World} (hnd : noDefer ops = true) (hm : P.follows .mixedOrders = true) (hB : Region.lexB .any ops = true) (hC : C { w with drawn := w.drawn + 1 })
    (h : wpQuietIn F n P ops C (fun a' => ∀ w', C w' → Q .normal a' w') ops.toList a) : (Code.region id ops true).wpIn F n P Q a w := by
  simp only [Region.lexB, Bool.and_eq_true] at hB
  refine wpIn_region_any hm (wpAnyIn_of_quiet_r (Q := fun a' => ∀ w', C w' → Q .normal a' w') hnd (fun _ w' hw' h => h w' hw') _ _ _ _ hC ?_)
  have := wpAnyQIn_lex (F := F) (n := n) (C := C) (md := .any) hB.1 ops.toList 0 (Array.replicate ops.size false) a (by simp) (by simpa using hB.2) h
  simpa using this

/-- At the class: some draws. -/
theorem wpIn_region_quiet_rlit {id : Nat} {Q : Exit → Act → World → Prop} {a : Act} {w : World} {l : List Oper} (hnd : noDefer l.toArray = true) (hm : P.follows .mixedOrders = true) (hB : Region.lexB .any l.toArray = true)
    (h : wpQuietIn F n P l.toArray (fun w' => ∃ n, w' = w.drewN n) (fun a' => ∀ w', (∃ n, w' = w.drewN n) → Q .normal a' w') l a) : (Code.region id l.toArray true).wpIn F n P Q a w :=
  wpIn_region_quiet_r (C := fun w' => ∃ n, w' = w.drewN n) hnd hm hB ⟨1, rfl⟩ (by simpa using h)
/-- At whatever class. -/
theorem wpIn_region_class {id : Nat} {Q : Exit → Act → World → Prop} {a : Act} {w : World} {l : List Oper} (C : World → Prop) (hnd : noDefer l.toArray = true) (hm : P.follows .mixedOrders = true) (hB : Region.lexB .any l.toArray = true) (hC : C w.drew)
    (h : wpQuietIn F n P l.toArray C (fun a' => ∀ w', C w' → Q .normal a' w') l a) : (Code.region id l.toArray true).wpIn F n P Q a w :=
  wpIn_region_quiet_r (C := C) hnd hm hB hC (by simpa using h)
end

/-- A world that has grown out of W: what lay in W lies as it lay. -/
structure Grew (W : World) : Type where
  w : World
  below : RowKit.Below W.heap.size W w

instance Grew.some_world (W : World) : Nonempty (Grew W) := ⟨⟨W, RowKit.Below.refl _ W⟩⟩
theorem Grew.cell {W : World} {a : Addr} {v : Value} (h : W.cell? a = some v) (i : Grew W) : i.w.cell? a = some v := by
  have hl : a.block < W.heap.size := by
    rcases Nat.lt_or_ge a.block W.heap.size with h' | h'
    · exact h'
    · simp [World.cell?, Array.getElem?_eq_none h'] at h
  exact (i.below.cell hl).trans h
theorem Grew.calls {F : Fence} {n : Nat} {P : Program} {f : FuncId} {args : Array Value} {W : World} (i : Grew W) (v : Value) (h : CallsIn F n P f args i.w fun e w' => e = .returned v ∧ RowKit.Below i.w.heap.size i.w w') :
    CallsIn F n P f args i.w fun e w'' => e = .returned v ∧ ∃ j : Grew W, w'' = j.w :=
  h.mono fun _ _ ⟨he, hb⟩ => ⟨he, ⟨_, i.below.trans (hb.mono i.below.size)⟩, rfl⟩
theorem wpIn_region_grew {F : Fence} {n : Nat} {P : Program} {id : Nat} {Q : Exit → Act → World → Prop} {a : Act} {W : World} {l : List Oper} (hnd : noDefer l.toArray = true) (hm : P.follows .mixedOrders = true) (hB : Region.lexB .any l.toArray = true)
    (h : wpQuietIn F n P l.toArray (fun w' => ∃ i : Grew W, w' = i.w) (fun a' => ∀ w', (∃ i : Grew W, w' = i.w) → Q .normal a' w') l a) : (Code.region id l.toArray true).wpIn F n P Q a W :=
  wpIn_region_class (fun w' => ∃ i : Grew W, w' = i.w) hnd hm hB ⟨⟨W.drew, (RowKit.Below.refl _ W).drew⟩, rfl⟩ h
end Go.Proofs.YtagjjpmhacknpaaDoor

/- The law of slots in a round of a range over a function. -/
namespace Go.Proofs.YtagjjpmhacknpaaDoor
open Go

theorem rowsIn_wide {l n : Nat} {P : Program} {row : String} {args : Array Value} {w : World} {R : Value → World → Prop} (h : Rows P row args w R) : RowsIn (Fence.wide.inRound l) n P row args w R := by
  intro c cs _
  obtain ⟨v, w', r, s⟩ := h c cs
  exact ⟨v, w', r, (stepsIn_wide (P := P)).2 s⟩
theorem wpIn_of_wp {l n : Nat} {P : Program} {o : Oper} {a : Act} {w : World} {K : Act → World → Prop} {Q : Exit → Act → World → Prop} (hd : ∀ c, o.op ≠ .defer c) (h : o.wp P a w K Q) : o.wpIn (Fence.wide.inRound l) n P a w K Q := by
  refine ⟨fun _ _ => trivial, ?_⟩
  rw [Oper.semAt_eq _ _ _ hd]
  unfold Oper.wp at h
  generalize (execOp a.eval o).run P w = res at h
  cases res with
  | ok x w' =>
    cases x with
    | value v => exact h
    | skip => exact h
    | defer d => exact h
    | enter f args => exact ⟨fun e => by simp [Fence.wide] at e, CallsIn.inRound l (callsIn_wide.2 h)⟩
    | row row args => exact ⟨fun e => by simp [Fence.wide] at e, rowsIn_wide h⟩
    | _ => first | exact h.elim | exact h
  | halt x w' =>
    cases x with
    | panic v => exact h
    | _ => first | exact h.elim | exact h

theorem countP_lt {l : List Nat} {p q : Nat → Bool} {i : Nat} (hi : i ∈ l) (hpq : ∀ j ∈ l, p j = true → q j = true) (hq : q i = true) (hp : p i = false) : l.countP p < l.countP q := by
  induction l with
  | nil => cases hi
  | cons x l ih =>
    rw [List.countP_cons, List.countP_cons]
    rcases List.mem_cons.1 hi with rfl | hi
    · have := List.countP_mono_left (p := p) (q := q) (l := l) (fun j hj => hpq j (List.mem_cons_of_mem _ hj))
      rw [hq, hp]
      simp
      omega
    · have h1 := ih hi (fun j hj => hpq j (List.mem_cons_of_mem _ hj))
      have h2 := hpq x (List.mem_cons_self ..)
      cases hpx : p x <;> cases hqx : q x <;> simp_all <;> omega

section
variable {P : Program} {ops : Array Oper} {Q : Exit → Act → World → Prop} {le : World → World → Prop} {φ : Nat → Value → World → Prop} {a0 : Act} {w0 : World}
theorem wpAnyIn_of_steps {r n : Nat} (hnd : noDefer ops = true) (trans : ∀ {x y z}, le x y → le y z → le x z) (stable : ∀ j v x y, le x y → φ j v x → φ j v y) (hD : dstsOk ops a0.tmps.size = true)
    (steps : ∀ i o, ops[i]? = some o → StepOk P ops Q le φ a0 w0 i o)
    (fin : ∀ listed a w, Inv ops le φ a0 w0 listed a w → Region.ready .any ops listed = [] → Q .normal a w) :
    ∀ (fuel : Nat) (listed : Array Bool) (a : Act) (w : World), Inv ops le φ a0 w0 listed a w → (List.range ops.size).countP (fun i => !listed.getD i true) ≤ fuel → wpAnyIn (Fence.wide.inRound r) n P .any ops Q fuel listed a w
  | 0, listed, a, w, I, hc => by
    have : Region.ready .any ops listed = [] := by
      rw [List.eq_nil_iff_forall_not_mem]
      intro i hi
      obtain ⟨hn, o, ho, _⟩ := mem_ready.1 hi
      have hlt : i < ops.size := (Array.getElem?_eq_some_iff.1 ho).1
      have : 0 < (List.range ops.size).countP (fun i => !listed.getD i true) := List.countP_pos_iff.2 ⟨i, List.mem_range.2 hlt, by simp only [hn, Bool.not_false]⟩
      omega
    exact ⟨this, fin listed a w I this⟩
  | fuel + 1, listed, a, w, I, hc => by
    refine ⟨fun h => fin listed a w I h, fun i hi => ?_⟩
    obtain ⟨hn, o, ho, _⟩ := mem_ready.1 hi
    have hlt : i < ops.size := (Array.getElem?_eq_some_iff.1 ho).1
    have hs := steps i o ho a w (fun a' w' => wpAnyIn (Fence.wide.inRound r) n P .any ops Q fuel (listed.setIfInBounds i true) a' w') (I.now hi)
      (fun v w' hw hv => wpAnyIn_of_steps hnd trans stable hD steps fin fuel _ _ _ (I.step trans stable hD hi ho hw (fun _ _ => hv)) (by
        have hlt' : i < listed.size := by rw [I.size]; exact hlt
        have h1 : (List.range ops.size).countP (fun j => !(listed.setIfInBounds i true).getD j true) < (List.range ops.size).countP (fun i => !listed.getD i true) := by
          refine countP_lt (i := i) (List.mem_range.2 hlt) ?_ ?_ ?_
          · intro j _ hj
            by_cases hji : j = i
            · subst hji; rw [hn]; rfl
            · rw [getD_set_ne true (Ne.symm hji)] at hj; exact hj
          · rw [hn]; rfl
          · simp [Array.getD_eq_getD_getElem?, Array.getElem?_setIfInBounds_self_of_lt hlt']
        omega))
    unfold wpOpIn
    rw [ho]
    simp only
    split
    · rename_i hw; rw [if_pos hw] at hs; exact wpIn_of_wp (noDefer_spec hnd ho) hs
    · rename_i hw; rw [if_neg hw] at hs; exact ⟨fun _ _ => trivial, hs⟩
/-- The law. -/
theorem wpIn_region_slots {id r n : Nat} {l : List Oper} (le : World → World → Prop) (φ : Nat → Value → World → Prop) (refl : ∀ x, le x x) (trans : ∀ {x y z}, le x y → le y z → le x z) (stable : ∀ j v x y, le x y → φ j v x → φ j v y)
    (hm : P.follows .mixedOrders = true) (hnd : noDefer l.toArray = true) (hF : fwdOk l.toArray = true) (hD : dstsOk l.toArray a0.tmps.size = true)
    (steps : StepsOk P l.toArray Q le φ a0 w0.drew 0 l)
    (fin : ∀ w, le w0.drew w → FinAll φ w (fun a => Q .normal a w) 0 l a0) :
    (Code.region id l.toArray true).wpIn (Fence.wide.inRound r) n P Q a0 w0 := by
  refine wpIn_region_any hm ?_
  refine wpAnyIn_of_steps (le := le) (φ := φ) (a0 := a0) (w0 := w0.drew) hnd trans stable hD (fun i o ho => ?_) (fun listed a w I hr => ?_) _ _ _ _ ?_ ?_
  · have := stepsOk_at l 0 steps i o (by simpa using ho)
    rwa [Nat.zero_add] at this
  · have hall := fun i hi => all_listed hF I.size hr (i + 1) i (Nat.lt_succ_self i) hi
    have hf := finAll_take (fun d => a.eval (.tmp d)) l 0 a0 (fin w I.le) (fun j o d hj hd => by
      rw [Nat.zero_add]
      have hj' : l.toArray[j]? = some o := by simpa using hj
      exact I.done j d (by unfold dstAt; rw [hj']; exact hd) (hall j (Array.getElem?_eq_some_iff.1 hj').1))
    have hin : ∀ o ∈ l, ∀ d, o.dst = some d → d < a0.tmps.size := by
      intro o ho d hd
      obtain ⟨j, hj⟩ := List.getElem?_of_mem ho
      have hj' : l.toArray[j]? = some o := by simpa using hj
      unfold dstsOk at hD
      rw [List.all_eq_true] at hD
      have := hD j (List.mem_range.2 (Array.getElem?_eq_some_iff.1 hj').1)
      have e : dstAt l.toArray j = some d := by unfold dstAt; rw [hj']; exact hd
      rw [e] at this
      simp only [Bool.and_eq_true, decide_eq_true_eq] at this
      exact this.1
    have hs := putAll_size (fun d => a.eval (.tmp d)) l a0
    have : putAll a0 l (fun d => a.eval (.tmp d)) = a := by
      refine act_ext (hs.1.trans I.tmps.symm) (hs.2.trans I.defers.symm) fun k => ?_
      rw [putAll_get _ _ _ _ hin]
      split
      · rfl
      · rename_i h
        refine (I.rest k fun j hj hd => h ?_).symm
        rw [List.any_eq_true]
        unfold dstAt at hd
        cases ho : l.toArray[j]? with
        | none => rw [ho] at hd; cases hd
        | some o =>
          rw [ho] at hd
          exact ⟨o, List.mem_of_getElem? (by simpa using ho), by simpa using hd⟩
    rw [this] at hf
    exact hf
  · refine ⟨by simp, refl _, rfl, rfl, ?_, ?_, fun k _ => rfl⟩
    · intro j o _ hl
      simp only [Array.getD_eq_getD_getElem?, Array.getElem?_replicate] at hl
      split at hl <;> cases hl
    · intro j d _ hl
      simp only [Array.getD_eq_getD_getElem?, Array.getElem?_replicate] at hl
      split at hl <;> cases hl
  · have := List.countP_le_length (p := fun i => !(Array.replicate l.toArray.size false).getD i true) (l := List.range l.toArray.size)
    simpa using this
end
end Go.Proofs.YtagjjpmhacknpaaDoor
