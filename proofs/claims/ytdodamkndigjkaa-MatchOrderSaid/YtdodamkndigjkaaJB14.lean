/- 2 texts put together: Note, Labels. -/
import Derived.Test.YtdodamkndigjkaaJB8
import Derived.Test.YtdodamkndigjkaaJB13
/- note: the place of what is left of a name is kept. -/
namespace Go.Proofs.Ytdodamkndigjkaa
open Go.RowKit Go.Shelf Go.Maps
attribute [local go_sem] Oper.semAt_some

theorem keyed : Keyed Try.prog 9 := string_keyed Try.underlying9
theorem keyOfS (k : List UInt8) (h : k.length ≤ 1000000) : Go.keyOf Try.prog 9 (.string ⟨k.toArray⟩) = some (.string k) := by
  have := Go.WideMaps.keyOf_string_mk (P := Try.prog) (k := 9) Try.underlying9 (s := ⟨k.toArray⟩) (by show k.toArray.size ≤ _; unfold maxLen; simp; omega)
  simpa using this
theorem mapAt_grow {tab : List (List UInt8 × Nat)} {f : Nat → Prop} {vm : Value} {W W' : World} (h : MapAt tab f vm W) (hk : ∀ (k : Nat) es ck, W.heap[k]? = some (.map es ck) → W'.heap[k]? = W.heap[k]?) : MapAt tab (grow f W W') vm W' := by
  rcases h with hn | ⟨b, rfl, hf, hm⟩
  · exact .inl hn
  · refine .inr ⟨b, rfl, .inl hf, ?_⟩
    obtain ⟨es, ck, hb, r⟩ := hm
    exact ⟨es, ck, (hk b es ck hb).trans hb, r⟩
theorem equalIn_map {P : Program} (w : World) (d : Nat) (t : TypeId) {k e : TypeId} (x : Option Nat) (h : P.underlying t = some (.map k e)) :
    (Op.equalIn (d + 1) t (.map x) (.map none)).run P w = .ok x.isNone w := by
  cases x <;> simp [Op.equalIn, run_underlying h]
theorem eql_map (W : World) (x : Option Nat) : (binOp .eql 118 (.map x) (.map none)).run Try.prog W = .ok (.bool x.isNone) W := by
  simp only [binOp]
  simp [Op.equal, Op.maxDepth, equalIn_map W 9999 118 x Try.underlying118]
theorem grownBy_setCell4 (W : World) (b : Nat) {i : Nat} (v : Value) : W.grownBy (W.setCell ⟨b, i, none⟩ v) (some b) :=
  ⟨rfl, rfl, rfl, (KeepsWalks.setCell W _ v).size, fun k _ hk => Below.heap_setCell _ _ _ k (fun e => hk (by rw [e]))⟩
/-- A Writer again, with a map that says more. -/
theorem Wr.noted {B b : Nat} {S : WS} {f : Nat → Prop} {vo vm : Value} {k : List UInt8} {v : Nat} {W W' : World} (h : Wr B S f vo vm W) (hB : W'.heap[B]? = some (.cells (wCells S vo (.map (some b))) 120 (0, 0)))
    (hs : ∀ (g : Nat) cur, W.heap[g]? = some (.cells cur 5 (0, 0)) → W'.heap[g]? = W.heap[g]?) (hb : f b ∨ W.heap.size ≤ b) (hm : W'.ownsMap Try.prog 9 (plainElem Try.prog 3) b (S.tab.length + 1) ((tabD S.tab).put (.string k) (.lit (.int .i64 (v : Int))))) :
    WrE B { S with tab := (k, v) :: S.tab } (grow f W W') W' := by
  refine ⟨vo, .map (some b), hB, .inl h.self, ⟨h.own.1, ?_⟩, h.nil, fun g hg => .inl (h.mine g hg), h.len, .inr ⟨b, rfl, hb.imp id (fun h => ⟨h, hm.lt⟩), hm⟩⟩
  rcases h.own.2 with hn | ⟨g, cap, cur, rfl, hbg, hgb, r⟩
  · exact .inl hn
  · exact .inr ⟨g, cap, cur, rfl, hbg, (hs g cur hgb).trans hgb, r⟩

set_option maxRecDepth 100000 in
set_option maxHeartbeats 2000000 in
theorem note_any (B : Nat) (S : WS) (f : Nat → Prop) (k : List UInt8) (w : World) (h : WrE B S f w) (hk : k.length ≤ 100000) (hl : S.size ≤ 1000000) (ht : S.tab.length ≤ 1000000) :
    Calls Try.prog 97 #[.pointer (some ⟨B, 0, none⟩), .string ⟨k.toArray⟩] w (ActRet B (S.note k) f w) := by
  obtain ⟨vo, vm, h⟩ := h
  have c1 := blk_cell h.heap 1 (v := .int .i64 (S.size : Int)) rfl
  have c4 := blk_cell h.heap 4 (v := vm) rfl
  have f4 := blk_frozen h.heap 4
  by_cases hbig : 16384 ≤ S.size
  · have HN : Hid (S.note k = S) := Lib.hid (by unfold WS.note; rw [if_pos hbig])
    have HH := Lib.hid h
    clear h
    go_enter Try.func97, Try.ntmps97
    go_wp2
    go_end0
    rw [HN.out]
    exact ⟨rfl, Turn.refl _ _, WrE.widen ⟨vo, vm, HH.out⟩ fun _ _ => .inl⟩
  · have HN : Hid (S.note k = { S with tab := (k, S.size) :: S.tab }) := Lib.hid (by unfold WS.note; rw [if_neg hbig])
    have hkey := keyOfS k (by omega)
    have hwf : (Lit.int IntKind.i64 (S.size : Int)).wf = true := WalkArith.wf_i64 ⟨by omega, by omega⟩
    have hmp := h.map
    rcases hmp with ⟨rfl, hte⟩ | ⟨b, rfl, hfb, hm⟩
    · obtain ⟨w2, hw2⟩ : ∃ w2, w2 = (w.alloc (.map #[] 0)).setCell ⟨B, 4, none⟩ (.map (some w.heap.size)) := ⟨_, rfl⟩
      have hs2 : w2.heap.size = w.heap.size + 1 := by rw [hw2]; simp [World.setCell]
      have hB0 : (w.alloc (.map #[] 0)).heap[B]? = some (.cells (wCells S vo (.map none)) 120 (0, 0)) := (Below.heap_alloc w _ B h.lt).trans h.heap
      have hB2 : w2.heap[B]? = some (.cells (wCells S vo (.map (some w.heap.size))) 120 (0, 0)) := by
        rw [hw2, blk_set hB0 4]; simp [wCells]
      have hne : w.heap.size ≠ B := by have := h.lt; omega
      have hmade : w2.ownsMap Try.prog 9 (plainElem Try.prog 3) w.heap.size 0 (.map [] : DataW Unit) := by
        rw [hw2]
        exact World.ownsMap.kept (World.ownsMap_made w _ _ _) (grownBy_setCell4 _ B _) (by simp; exact hne)
      have hm' : w2.drew.ownsMap Try.prog 9 (plainElem Try.prog 3) w.heap.size 0 (.map [] : DataW Unit) := hmade
      obtain ⟨w1, hrun, hown1, hg1⟩ := hm'.update keyed (t := 118) (e := 3) Try.underlying118 (by unfold maxLen; omega) (key := .string ⟨k.toArray⟩) (val := .int .i64 (S.size : Int)) hkey (plainElem_int Try.underlying3 hwf)
      have hmm := @run_makeMap Try.prog
      have heq := eql_map w none
      have c4a := blk_cell hB0 4 (v := .map none) rfl
      have f4a := blk_frozen hB0 4
      have d1 := blk_cell hB2 1 (v := .int .i64 (S.size : Int)) rfl
      have d4 := blk_cell hB2 4 (v := .map (some w.heap.size)) rfl
      have HH := Lib.hid h
      have HM := Lib.hid hown1
      have HG := Lib.hid hg1
      have HB2 := Lib.hid hB2
      have HW2 := Lib.hid hw2
      have HTE := Lib.hid hte
      obtain ⟨es0, ck0, hob⟩ := ownsMap_obj hmade
      have HOB := Lib.hid hob
      clear hob hte hw2
      clear h hown1 hg1 hm' hkey hwf hmade hB2 hB0
      go_enter Try.func97, Try.ntmps97
      go_wp2
      generalize hW : (w.alloc (.map #[] 0)).setCell ⟨B, 4, none⟩ (.map (some w.heap.size)) = wx at *
      obtain rfl : w2 = wx := HW2.out
      go_region
      all_goals go_wp2
      all_goals go_end0
      have h := HH.out
      have hg := HG.out
      have hoth : ∀ k, k < w.heap.size → k ≠ B → w1.heap[k]? = w.heap[k]? := fun k hk hn => by
        rw [hg.block k (by show k < w2.heap.size; omega) (fun e => by cases e; omega)]
        show w2.heap[k]? = _
        rw [← hW, Below.heap_setCell _ ⟨B, 4, none⟩ _ k hn, Below.heap_alloc w _ k hk]
      have hB1 : w1.heap[B]? = some (.cells (wCells S vo (.map (some w.heap.size))) 120 (0, 0)) := (hg.block B (by show B < w2.heap.size; have := h.lt; omega) (fun e => hne (by cases e; rfl))).trans HB2.out
      have hsz1 : w.heap.size ≤ w1.heap.size := by have := hg.size; have e : w2.drew.heap.size = w2.heap.size := rfl; omega
      have hT1 : Turn f w w2 := by
        rw [← hW]
        exact (Turn.of_below ((Below.refl _ w).alloc (Nat.le_refl _) _)).then (turn_setCell ((Below.heap_alloc w _ B h.lt).trans h.heap) (by simp [wCells]) h.self 4 _)
      have hT2 : Turn (grow f w w2) w2 w1 := turn_grown_map (W := w2) ⟨hg.os, hg.tape, hg.output, hg.size, hg.block⟩ (.inr ⟨Nat.le_refl _, by omega⟩) HOB.out
      refine ⟨rfl, hT1.trans hT2, ?_⟩
      rw [HN.out]
      refine h.noted hB1 (fun g cur hgc => hoth g (blk_lt hgc) (by rintro rfl; rw [h.heap] at hgc; cases hgc)) (.inr (Nat.le_refl _)) ?_
      have := HM.out
      rw [HTE.out]
      exact this
    · have hm' : w.drew.ownsMap Try.prog 9 (plainElem Try.prog 3) b S.tab.length (tabD S.tab) := hm
      obtain ⟨w1, hrun, hown1, hg1⟩ := hm'.update keyed (t := 118) (e := 3) Try.underlying118 (by unfold maxLen; omega) (key := .string ⟨k.toArray⟩) (val := .int .i64 (S.size : Int)) hkey (plainElem_int Try.underlying3 hwf)
      have HH := Lib.hid h
      have HM := Lib.hid hown1
      have HG := Lib.hid hg1
      have HM0 := Lib.hid hm
      clear h hown1 hg1 hm hm' hkey hwf
      have heq := eql_map w (some b)
      go_enter Try.func97, Try.ntmps97
      go_wp2
      go_region
      all_goals go_wp2
      all_goals go_end0
      have h := HH.out
      obtain ⟨es0, ck0, hbo⟩ := ownsMap_obj HM0.out
      have hbB : B ≠ b := by rintro rfl; rw [h.heap] at hbo; cases hbo
      have hg := HG.out
      have hoth : ∀ k, k < w.heap.size → k ≠ b → w1.heap[k]? = w.heap[k]? := fun k hk hn => hg.block k hk (fun e => hn (by cases e; rfl))
      refine ⟨rfl, turn_grown_map (W := w) ⟨hg.os, hg.tape, hg.output, hg.size, hg.block⟩ hfb hbo, ?_⟩
      rw [HN.out]
      exact h.noted ((hoth B h.lt hbB).trans h.heap) (fun g cur hgc => hoth g (blk_lt hgc) (by rintro rfl; rw [hgc] at hbo; cases hbo)) (.inl hfb) HM.out
end Go.Proofs.Ytdodamkndigjkaa

/- Labels: the iterator over labels. -/
namespace Go.Proofs.Ytdodamkndigjkaa
open Go.RowKit Go.Shelf
attribute [local go_sem] Oper.semAt_some

set_option maxHeartbeats 400000 in
theorem labels_any (n : List UInt8) (w : World) :
    Calls Try.prog 96 #[.string ⟨n.toArray⟩] w fun e w' => e = .returned (.func (.func 110) #[] #[.pointer (some ⟨w.heap.size, 0, none⟩)]) ∧ w' = w.alloc (.cells #[.string ⟨n.toArray⟩] 9) := by
  go_enter Try.func96, Try.ntmps96
  go_wp2
  go_ret
  exact ⟨rfl, rfl⟩

theorem places_stopsB (m : Nat) (hm : 1 ≤ m) (Bn : Nat) (n : List UInt8) (hs : n.length ≤ 100000) (w : World) (hc : w.cell? ⟨Bn, 0, none⟩ = some (.string ⟨n.toArray⟩)) :
    SeqStopsB Fence.wide m Try.prog 117 #[.pointer (some ⟨Bn, 0, none⟩)] (fun x : Nm.Pos n => #[Value.int .i64 (x.1 : Int)]) (KB Bn) (fun ys => ys.map Subtype.val = Nm.placesN n) (fun pre => pre.map Subtype.val <+: Nm.placesN n) 255 w :=
  fun l J Jx W hW _ _ hY h0 => places1_in m l Bn hm n hs J Jx (fun pre x W1 hJ hl hp => by
    obtain ⟨fn, tmps, assign, body, hy, hR⟩ := hY pre x W1 hJ hl hp
    exact ⟨fn, tmps, assign, body, hy, hR.mono fun e W' h => h.imp (fun h => ⟨h.1, h.2.1, h.2.2.1⟩) (fun h => ⟨h.1, h.2.1⟩)⟩) W (KB.below hW _ hc) h0

/-- What Labels asks of a round: boxes from B on hold what they held. -/
def KA (B : Nat) (W W' : World) : Prop := ∀ k t u, B ≤ k → Boxed W k t u → Boxed W' k t u
theorem KA.refl (B : Nat) (W : World) : KA B W W := fun _ _ _ _ h => h
theorem KA.trans {B : Nat} {A W W' : World} (h : KA B A W) (k : KA B W W') : KA B A W' := fun i t u hi e => k i t u hi (h i t u hi e)
theorem KA.below {B : Nat} {W W' : World} (h : Below W.heap.size W W') : KA B W W' := fun _ _ _ _ hb => boxed_below hb h
theorem KA.setCell {B b : Nat} (h : b < B) (W : World) (v : Value) : KA B W (W.setCell ⟨b, 0, none⟩ v) := fun k _ _ hk hb => hb.other (by omega) v
theorem ka_t {B : Nat} {A W C : World} (h : KA B A W) (k : KA B W C) : KA B A C := h.trans k
theorem ka_b {B : Nat} {w : World} (W : World) (l : Nat) (o o' : Obj) (_ : w.heap.size ≤ l) (h : W.heap[l]? = some o) (hc : o.isCells = false) (_ : o.isWalk = false) : KA B W (W.putObj l o') := fun _ _ _ _ hb =>
  boxed_putD hb h hc o'

theorem roundIn_any {P : Program} {l1 k k' l f : Nat} {tmps : Array Value} {asg body : Code} {W : World} {R : Ending → World → Prop} (h : RoundIn Fence.wide k P l f tmps asg body W R) : RoundIn (Fence.wide.inRound l1) k' P l f tmps asg body W R :=
  ⟨h.1, fun c cs _ => h.2 c cs (room_wide _)⟩

theorem one_of {e : Ending} {A B : Prop} (h : (e = .returned (.bool true) ∧ A) ∨ (e = .returned (.bool false) ∧ B)) : ∃ b : Bool, e = .returned (.bool b) ∧ Hid ((b = true ∧ A) ∨ (b = false ∧ B)) :=
  h.elim (fun ⟨e, a⟩ => ⟨true, e, .inl ⟨rfl, a⟩⟩) (fun ⟨e, b⟩ => ⟨false, e, .inr ⟨rfl, b⟩⟩)

abbrev Lab := { l : List UInt8 // l.length ≤ 255 }
def toLab (n : List UInt8) (x : Nm.Pos n) : Lab := ⟨Nm.labAt n x.1, by
  unfold Nm.labAt
  have := (n[x.1]?.getD 0).toNat_lt
  rw [List.length_take]
  omega⟩

set_option maxRecDepth 100000 in
set_option maxHeartbeats 4000000 in
theorem labels1_in (m l Bn : Nat) (hm : 4 ≤ m) (n : List UInt8) (hs : n.length ≤ 100000) (J Jx : List Lab → World → Prop) (W : World) (hJ : OwnBk W.heap.size J) (hJx : OwnBk W.heap.size Jx)
    (hY : ∀ pre x W1, J pre W1 → pre.length < 255 → (pre ++ [x]).map Subtype.val <+: Nm.labsD n → YieldAt Fence.wide (m - 1) Try.prog l #[.string ⟨x.1.toArray⟩] W1 fun e W' =>
      (e = .returned (.bool true) ∧ J (pre ++ [x]) W' ∧ KA Bn W1 W' ∧ KeepsBk W.heap.size W1 W') ∨ (e = .returned (.bool false) ∧ Jx (pre ++ [x]) W' ∧ KeepsBk W.heap.size W1 W'))
    (hBn : Boxed W Bn 9 (.string ⟨n.toArray⟩)) (h0 : J [] W) :
    CallsIn Fence.wide m Try.prog 110 #[.func (.yield l) #[] #[], .pointer (some ⟨Bn, 0, none⟩)] W fun e W' => (∃ v, e = .returned v) ∧
      ((∃ ys, ys.map Subtype.val = Nm.labsD n ∧ J ys W') ∨ (∃ pre, pre.map Subtype.val <+: Nm.labsD n ∧ Jx pre W')) := by
  have hm1 : 1 ≤ m := by omega
  have hm2 : 1 ≤ m - 1 := by omega
  have hm3 : 1 ≤ m - 1 - 1 := by omega
  refine callsIn_of_wp_marks Try.func110 rfl trivial ?_ rfl
  simp only [Try.ntmps110, List.size_toArray, List.length_cons, List.length_nil, Nat.reduceAdd, Nat.reduceSub, Array.replicate_succ, Array.replicate_zero, List.push_toArray, List.append_toArray, List.nil_append, List.cons_append]
  have c1 := (hBn.alloc (.cells #[.func (.yield l) #[] #[]] 112)).cell
  gi_wp2_with (refine ⟨trivial, ?_⟩; gi_at_call 111; refine (callsIn_wide.2 (places_any n _)).mono ?_; rintro e w' ⟨rfl, rfl⟩)
  have hbn := (hBn.alloc (.cells #[.func (.yield l) #[] #[]] 112)).alloc (.cells #[.string ⟨n.toArray⟩] 9)
  have hby := (Boxed.new W 112 (.func (.yield l) #[] #[])).alloc (.cells #[.string ⟨n.toArray⟩] 9)
  have hbp := Boxed.new (W.alloc (.cells #[.func (.yield l) #[] #[]] 112)) 9 (.string ⟨n.toArray⟩)
  have hJ0 : J [] ((W.alloc (.cells #[.func (.yield l) #[] #[]] 112)).alloc (.cells #[.string ⟨n.toArray⟩] 9)) := hJ.alloc _ (hJ.alloc _ h0)
  have hsz : ((W.alloc (.cells #[.func (.yield l) #[] #[]] 112)).alloc (.cells #[.string ⟨n.toArray⟩] 9)).heap.size = W.heap.size + 2 := by simp
  have hlt := hBn.lt
  simp only [World.size_alloc] at hbp
  generalize ((W.alloc (.cells #[.func (.yield l) #[] #[]] 112)).alloc (.cells #[.string ⟨n.toArray⟩] 9)) = W0 at *
  refine wpIn_rangeFunc_ownB rfl (by omega) (gf := 117) (lb := #[.pointer (some ⟨W.heap.size + 1, 0, none⟩)]) (by rfl) trivial (enters_of Try.func117 (by kernel_rfl) rfl)
    (places_stopsB _ (by omega) (W.heap.size + 1) n hs _ hbp.cell) kb_t kb_b (Below.refl _ _) (fun _ => rfl)
    (fun pre W' => (J (pre.map (toLab n)) W' ∧ (Boxed W' Bn 9 (.string ⟨n.toArray⟩) ∧ Boxed W' W.heap.size 112 (.func (.yield l) #[] #[]))) ∧ Boxed W' (W.heap.size + 1) 9 (.string ⟨n.toArray⟩))
    (fun c pre W' => Jx (pre.map (toLab n)) W' ∧ c = .ret)
    (fun s A B row hs hg hr => ⟨⟨hJ _ A B row hs.1.1 hg (fun r e => ⟨by have := (hr r e).1; omega, (hr r e).2⟩), boxed_own Bn _ (fun _ : Unit => _) () A B row hs.1.2.1 hg (fun r e => bookC (hr r e).2), boxed_own W.heap.size _ (fun _ : Unit => _) () A B row hs.1.2.2 hg (fun r e => bookC (hr r e).2)⟩, boxed_own (W.heap.size + 1) _ (fun _ : Unit => _) () A B row hs.2 hg (fun r e => bookC (hr r e).2)⟩)
    (fun c s A B row hs hg hr => ⟨hJx _ A B row hs.1 hg (fun r e => ⟨by have := (hr r e).1; omega, (hr r e).2⟩), hs.2⟩)
    ⟨⟨hJ0, hbn, hby⟩, hbp⟩
    (fun x => { tmps := #[.func (.yield l) #[] #[], .pointer (some ⟨Bn, 0, none⟩), .pointer (some ⟨W.heap.size, 0, none⟩), .int .i64 (x.1 : Int), .string ⟨n.toArray⟩, .func (.func 117) #[] #[.pointer (some ⟨W.heap.size + 1, 0, none⟩)], .int .i64 (x.1 : Int), undef, undef, undef, undef, undef, undef, undef], defers := [] }) ?assign ?body ?done ?stop
  case assign =>
    intro l x W K hK
    gi_wp2
    exact hK
  case body =>
    have hF1 : Fence.wide.fn 112 := trivial
    have hF2 : Fence.wide.fn 67 := trivial
    have hmx : Try.prog.follows .mixedOrders = true := by kernel_rfl
    rintro l1 pre x W1 ⟨⟨hJ1, hx1, hx2⟩, hx3⟩ hlen hsp
    have d1 := hx1.cell
    have d2 := hx2.cell
    obtain ⟨hxl, hxk⟩ := x.2
    have hlab : ∀ W', Calls Try.prog 112 #[.string ⟨n.toArray⟩, .int .i64 (x.1 : Int)] W' fun e w' => e = .returned (.string ⟨(Nm.labAt n x.1).toArray⟩) ∧ W' = w' := fun W' => by
      rw [Nm.labAt_of hxl]; exact label_any n x.1 W' hs hxl hxk
    have hcl : ∀ W', Calls Try.prog 67 #[.string ⟨(Nm.labAt n x.1).toArray⟩] W' fun e w' => e = .returned (.string ⟨(Nm.labAt n x.1).toArray⟩) ∧ Below W'.heap.size W' w' := fun W' => clone_any _ W' (by have := (toLab n x).2; simp only [toLab] at this; omega)
    have hpl : (pre.map (toLab n)).length < 255 := by rw [List.length_map]; exact hlen
    have hyr : ∀ W2, Below W1.heap.size W1 W2 → J (pre.map (toLab n)) W2 := fun W2 hb => hJ _ W1 W2 none hJ1 ⟨hb.os, hb.tape, hb.output, hb.size, fun k hk _ => hb.block k hk⟩ (fun r e => by cases e)
    have hspl : (pre.map (toLab n) ++ [toLab n x]).map Subtype.val <+: Nm.labsD n := by
      have h := List.IsPrefix.map (Nm.labAt n) hsp
      rw [Nm.labAt_placesN, List.map_map] at h
      rw [show (pre.map (toLab n) ++ [toLab n x]).map Subtype.val = (pre ++ [x]).map (Nm.labAt n ∘ Subtype.val) from by simp [toLab, Function.comp_def]]
      exact h
    have HSpl := Lib.hid hspl
    clear hspl hsp
    have HLab := Lib.hid hlab
    have HCl := Lib.hid hcl
    have HYr := Lib.hid hyr
    have HPl := Lib.hid hpl
    clear hlab hcl hyr hpl
    gi_wp2
    gi_region_with_o (first
      | (gi_at_call 112; refine (CallsIn.inRound l1 (callsIn_wide.2 (HLab.out _))).mono ?_; rintro e w' ⟨rfl, rfl⟩)
      | (gi_at_call 67; refine (CallsIn.inRound l1 (callsIn_wide.2 (HCl.out _))).mono ?_; rintro e W2 ⟨rfl, hb2⟩; have hbb := ((Below.refl W1.heap.size W1).drew).trans hb2; have e2 := (boxed_below hx2 hbb).cell; have e1 := (boxed_below hx1 hbb).cell; obtain ⟨fn, tmps, assign, body, hy, hR⟩ := hY _ (toLab n x) W2 (HYr.out W2 hbb) HPl.out HSpl.out; simp only [toLab] at hy)
      | (refine (roundIn_any hR).mono ?_; intro e W3 hor; obtain ⟨bb, rfl, hbb3⟩ := one_of hor))
    all_goals
      have hfin := hbb3.out
      clear hbb3
      have hkb : KeepsBk W0.heap.size W1 W3 := by
        have hkf : KeepsBk W.heap.size W2 W3 := hfin.elim (fun h => h.2.2.2) (fun h => h.2.2)
        exact ((keepsFrom_book ((ko_below hbb).from _))).trans ⟨hkf.size, fun k o hk => hkf.same k o (by omega)⟩
      cases bb
      · obtain ⟨hJ3, _⟩ := (hfin.resolve_left (fun h => by cases h.1)).2
        gi_wp2
        exact ⟨by rw [← hsz]; exact hkb, by simpa using hJ3, rfl⟩
      · obtain ⟨hJ3, hk3, _⟩ := (hfin.resolve_right (fun h => by cases h.1)).2
        have hx1' := hk3 _ _ _ (Nat.le_refl _) (boxed_below hx1 hbb)
        have hx2' := hk3 _ _ _ (by omega) (boxed_below hx2 hbb)
        have hx3' := hk3 _ _ _ (by omega) (boxed_below hx3 hbb)
        gi_wp2
        exact ⟨by rw [← hsz]; exact hkb, fun v hv => by rw [hx3.cell] at hv; cases hv; exact hx3'.cell, ⟨by simpa using hJ3, hx1', hx2'⟩, hx3'⟩
  case done =>
    rintro D ys W2 hD hS ⟨⟨hJ1, hx1, hx2⟩, hx3⟩ hK
    gi_wp2
    refine ⟨by simp, .inl ⟨_, _, rfl, run_takeDeferred hK, ?_⟩⟩
    exact ⟨_, results_none rfl _ _ _, ⟨_, rfl⟩, .inl ⟨ys.map (toLab n), by rw [← Nm.labAt_placesN, ← hS, List.map_map, List.map_map]; rfl, hJ.putObj _ hJ1 (by omega) hK rfl⟩⟩
  case stop =>
    rintro D c pre W2 hD hSp ⟨hJ1, rfl⟩ hK
    gi_wp2
    refine ⟨by simp, .inl ⟨_, _, rfl, run_takeDeferred hK, ?_⟩⟩
    refine ⟨_, results_none rfl _ _ _, ⟨_, rfl⟩, .inr ⟨pre.map (toLab n), ?_, hJx.putObj _ hJ1 (by omega) hK rfl⟩⟩
    have h := hSp
    rw [← Nm.labAt_placesN]
    obtain ⟨r, e⟩ := h
    exact ⟨r.map (Nm.labAt n), by rw [← e, List.map_append, List.map_map, List.map_map]; rfl⟩

theorem labels_stops (m : Nat) (hm : 4 ≤ m) (Bn : Nat) (n : List UInt8) (hs : n.length ≤ 100000) (w : World) (hc : Boxed w Bn 9 (.string ⟨n.toArray⟩)) :
    SeqStopsB Fence.wide m Try.prog 110 #[.pointer (some ⟨Bn, 0, none⟩)] (fun x : Lab => #[Value.string ⟨x.1.toArray⟩]) (KA Bn) (fun ys => ys.map Subtype.val = Nm.labsD n) (fun pre => pre.map Subtype.val <+: Nm.labsD n) 255 w :=
  fun l J Jx W hW hJ hJx hY h0 => labels1_in m l Bn hm n hs J Jx W hJ hJx hY (boxed_below hc hW) h0
end Go.Proofs.Ytdodamkndigjkaa
