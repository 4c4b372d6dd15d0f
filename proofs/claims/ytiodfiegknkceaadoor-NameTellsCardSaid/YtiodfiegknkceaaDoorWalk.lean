/- walk, Texts, Round. -/
import Derived.Test.YtiodfiegknkceaaDoorParse
import Derived.Test.YtiodfiegknkceaaDoorLess
namespace Go.Proofs.YtiodfiegknkceaaDoor
open Go.RowKit Go.Shelf
attribute [local go_sem] Oper.semAt_some

namespace Nm
def walkL (n : List UInt8) (most : Int) : List (List UInt8) := if 1 ≤ most ∧ most ≤ (labsD n).length then (labsD n).take most.toNat else labsD n
theorem walkL_all {n : List UInt8} {most : Int} (h : ∀ j : Nat, 1 ≤ j → j ≤ (labsD n).length → (j : Int) ≠ most) : walkL n most = labsD n := by
  unfold walkL
  rw [if_neg]
  rintro ⟨h1, h2⟩
  exact h most.toNat (by omega) (by omega) (by omega)
theorem walkL_take {n : List UInt8} {most : Int} {pre : List (List UInt8)} (h : pre <+: labsD n) (h0 : pre ≠ []) (hm : (pre.length : Int) = most) : walkL n most = pre := by
  have hl := h.length_le
  have h1 : 1 ≤ pre.length := List.length_pos_iff.2 h0
  unfold walkL
  rw [if_pos (by omega), ← hm]
  have := List.prefix_iff_eq_take.1 h
  simpa using this.symm
end Nm

theorem equalIn_func {P : Program} (w : World) (d : Nat) (t : TypeId) {u : TypeDesc} (f : Fn) (x y : Array Value) (h : P.underlying t = some u) (hu : ∃ p r v, u = .func p r v) :
    (Op.equalIn (d + 1) t (.func f x y) .nilFunc).run P w = .ok false w := by
  obtain ⟨p, r, v, rfl⟩ := hu
  simp [Op.equalIn, run_underlying h]
theorem eql_nilFunc (W : World) (f B : Nat) : (binOp .eql 53 (.func (.func f) #[] #[.pointer (some ⟨B, 0, none⟩)]) .nilFunc).run Tryd.prog W = .ok (.bool false) W := by
  simp only [binOp]
  simp [Op.equal, Op.maxDepth, equalIn_func W 9999 53 _ _ _ Tryd.underlying53 ⟨_, _, _, rfl⟩]

set_option maxRecDepth 100000 in
set_option maxHeartbeats 4000000 in
theorem walk_any (n : List UInt8) (most : Int) (w : World) (hs : n.length ≤ 100000) :
    Calls Tryd.prog 17 #[.string ⟨n.toArray⟩, .int .i64 most] w fun e w' => ∃ v, e = .returned v ∧ OwnE encS 9 w.heap.size v (Nm.walkL n most) w' ∧ Below w.heap.size w w' := by
  refine (callsIn_wide (n := 9)).1 ?_
  refine callsIn_of_wp_marks Tryd.func17 rfl trivial ?_ rfl
  simp only [Tryd.ntmps17, List.size_toArray, List.length_cons, List.length_nil, Nat.reduceAdd, Nat.reduceSub, Array.replicate_succ, Array.replicate_zero, List.push_toArray, List.append_toArray, List.nil_append, List.cons_append]
  have hnil := eql_nilFunc
  gi_wp2_with (refine ⟨trivial, ?_⟩; gi_at_call 39; refine (callsIn_wide.2 (labels_any n _)).mono ?_; rintro e w' ⟨rfl, rfl⟩)
  have hb3 := ((Boxed.new w 3 (.int .i64 most)).alloc (.cells #[.slice none 0 0] 23)).alloc (.cells #[.string ⟨n.toArray⟩] 9)
  have hb5 := (Boxed.new (w.alloc (.cells #[.int .i64 most] 3)) 23 (.slice none 0 0)).alloc (.cells #[.string ⟨n.toArray⟩] 9)
  have hbn := Boxed.new ((w.alloc (.cells #[.int .i64 most] 3)).alloc (.cells #[.slice none 0 0] 23)) 9 (.string ⟨n.toArray⟩)
  have hbw : Below w.heap.size w (((w.alloc (.cells #[.int .i64 most] 3)).alloc (.cells #[.slice none 0 0] 23)).alloc (.cells #[.string ⟨n.toArray⟩] 9)) := (((Below.refl _ w).alloc (Nat.le_refl _) _).alloc (by simp) _).alloc (by simp; omega) _
  have hsz : (((w.alloc (.cells #[.int .i64 most] 3)).alloc (.cells #[.slice none 0 0] 23)).alloc (.cells #[.string ⟨n.toArray⟩] 9)).heap.size = w.heap.size + 3 := by simp
  simp only [World.size_alloc] at hb5 hbn
  generalize (((w.alloc (.cells #[.int .i64 most] 3)).alloc (.cells #[.slice none 0 0] 23)).alloc (.cells #[.string ⟨n.toArray⟩] 9)) = W0 at *
  refine wpIn_rangeFunc_ownO rfl (by omega) (gf := 50) (lb := #[.pointer (some ⟨w.heap.size + 1 + 1, 0, none⟩)]) (by rfl) trivial (enters_of Tryd.func50 (by kernel_rfl) rfl)
    (labels_stops _ (by omega) (w.heap.size + 1 + 1) n hs _ hbn) ka_t ka_b (Below.refl _ _) (fun _ => rfl)
    (fun pre W => (((∃ v, Boxed W (w.heap.size + 1) 23 v ∧ W.ownsRow w.heap.size 9 1 v (pre.map Subtype.val).length ((pre.map Subtype.val).map encS) ∧ (v = .slice none 0 0 ∨ (pre.map Subtype.val) ≠ [])) ∧ Boxed W w.heap.size 3 (.int .i64 most)) ∧ Below w.heap.size w W) ∧ (∀ j : Nat, 1 ≤ j → j ≤ pre.length → (j : Int) ≠ most))
    (fun c pre W => ((∃ v, Boxed W (w.heap.size + 1) 23 v ∧ W.ownsRow w.heap.size 9 1 v (pre.map Subtype.val).length ((pre.map Subtype.val).map encS) ∧ True) ∧ Below w.heap.size w W) ∧ (c = .exit 0 ∧ pre ≠ [] ∧ (pre.length : Int) = most))
    (((OwnFrom.and (Own.from (holdsRow_own w.heap.size (w.heap.size + 1) 23 9 1 (fun pre : List Lab => (pre.map Subtype.val).length) (fun pre => (pre.map Subtype.val).map encS) (fun pre v => v = .slice none 0 0 ∨ (pre.map Subtype.val) ≠ [])) _) (Own.from (boxed_own w.heap.size 3 (fun _ : List Lab => .int .i64 most)) _)).and (ownFrom_below (Nat.le_refl _) (by omega))).and (ownFrom_pure _ _))
    (fun c => ((Own.from (holdsRow_own w.heap.size (w.heap.size + 1) 23 9 1 (fun pre : List Lab => (pre.map Subtype.val).length) (fun pre => (pre.map Subtype.val).map encS) (fun _ _ => True)) _).and (ownFrom_below (Nat.le_refl _) (by omega))).and (ownFrom_pure _ _))
    ⟨⟨⟨⟨_, hb5, World.ownsRow_nil _ _ _ _, .inl rfl⟩, hb3⟩, hbw⟩, fun j h1 h2 => by simp at h2; omega⟩
    (fun x => { tmps := #[.string ⟨n.toArray⟩, .int .i64 most, undef, .pointer (some ⟨w.heap.size, 0, none⟩), .slice none 0 0, .pointer (some ⟨w.heap.size + 1, 0, none⟩), .func (.func 50) #[] #[.pointer (some ⟨w.heap.size + 1 + 1, 0, none⟩)], .string ⟨x.1.toArray⟩, .string ⟨n.toArray⟩, .func (.func 50) #[] #[.pointer (some ⟨w.heap.size + 1 + 1, 0, none⟩)], .func (.func 50) #[] #[.pointer (some ⟨w.heap.size + 1 + 1, 0, none⟩)], .bool false, .func (.func 50) #[] #[.pointer (some ⟨w.heap.size + 1 + 1, 0, none⟩)], .string ⟨x.1.toArray⟩, undef, undef, undef, undef, undef, undef, undef, undef, undef], defers := [] }) ?assign ?body ?done ?stop
  case assign =>
    intro l x W K hK
    gi_wp2
    exact hK
  case body =>
    rintro l1 pre x W ⟨⟨⟨⟨v0, hx, ho, hv⟩, hm⟩, hbl⟩, hno⟩ hlen
    have hwr := hbl.size
    have c5 := hx.cell
    have e3 : (pre ++ [x]).map Subtype.val = pre.map Subtype.val ++ [x.1] := by simp
    have hTl : (pre.map Subtype.val).length = pre.length := by simp
    obtain ⟨T, hT⟩ : ∃ T, T = pre.map Subtype.val := ⟨_, rfl⟩
    rw [← hT] at ho hv hTl e3
    have HTl := Lib.hid hTl
    have hT255 : T.length ≤ 255 := by omega
    have E3 := Lib.hid e3
    have HNO := Lib.hid hno
    clear e3 hT hno hTl
    gi_wp2_with (gi_at_builtin; refine wpListIn_apd _ rfl _ _ 23 rfl encS encS_one w.heap.size 9 _ 16 Tryd.underlying23 infoStr rfl v0 T rfl (ownE_alloc ho _) ⟨_, 0, none⟩ 1 1 [x.1] rfl rfl (cell_one_new _ _ _) (by omega) (by omega) (by simp; omega) ?_; intro v1 w1 ho1 ha1' hn1; have ha1 := ha1'.of_alloc hwr; have hxb1 := ha1.boxed hv _ _ _ hx; have hm1 := ha1.boxed hv _ _ _ hm; have c1 := hxb1.cell; have f1 := hxb1.frozen; have cm := hm1.cell; obtain ⟨g1, cp1, rfl⟩ := (ownE_form ho1).resolve_left (fun h => by have := h.2; simp at this); refine Hid.out ?_)
    refine Lib.hid ?_
    have hl1 : (T ++ [x.1]).length = T.length + 1 := by simp
    rw [hl1] at ho1
    have HL1 := Lib.hid hl1
    clear hl1
    have hmb := hm1.other (B' := w.heap.size + 1) (by omega) (.slice (some ⟨g1, 0, none⟩) (T.length + 1) cp1)
    have hbox2 := hxb1.set (.slice (some ⟨g1, 0, none⟩) (T.length + 1) cp1)
    have hm2 := hmb.cell
    have hx2 := hbox2.cell
    have hko := (ha1.others.trans (KeepsOthers.setCell w1 ⟨w.heap.size + 1, 0, none⟩ (.slice (some ⟨g1, 0, none⟩) (T.length + 1) cp1))).from W0.heap.size
    have hbb := (hbl.trans ha1.below).setCell (p := ⟨w.heap.size + 1, 0, none⟩) (by show w.heap.size ≤ w.heap.size + 1; omega) (.slice (some ⟨g1, 0, none⟩) (T.length + 1) cp1)
    have hown2 := ownE_setBox ho1 hxb1 (by decide) (.slice (some ⟨g1, 0, none⟩) (T.length + 1) cp1)
    have hka : KA (w.heap.size + 1 + 1) W (w1.setCell ⟨w.heap.size + 1, 0, none⟩ (.slice (some ⟨g1, 0, none⟩) (T.length + 1) cp1)) := KA.trans (fun k t u _ hb => ha1.boxed hv k t u hb) (KA.setCell (by omega) _ _)
    by_cases hmo : (T.length : Int) + 1 = most
    · have t1 : ((T.length : Int) + 1 == most) = true := by rw [beq_iff_eq]; exact hmo
      have HM := Lib.hid hmo
      clear hmo
      gi_wp2
      exact ⟨hko, ⟨⟨_, hbox2, by rw [E3.out]; exact hown2, trivial⟩, hbb⟩, rfl, by simp, by rw [← HM.out, List.length_append, List.length_singleton, ← HTl.out]; push_cast; rfl⟩
    · have t1 : ((T.length : Int) + 1 == most) = false := by rw [beq_eq_false_iff_ne]; exact hmo
      have HM := Lib.hid hmo
      clear hmo
      gi_wp2
      refine ⟨hko, hka, ⟨⟨⟨_, hbox2, by rw [E3.out]; exact hown2, .inr (by rw [E3.out]; simp)⟩, hmb⟩, hbb⟩, fun j h1 h2 => ?_⟩
      rw [List.length_append, List.length_singleton] at h2
      by_cases hj : j ≤ pre.length
      · exact HNO.out j h1 hj
      · intro e
        have := HTl.out
        exact HM.out (by omega)
  case done =>
    rintro D ys W hD hS ⟨⟨⟨⟨v, hx, ho, hv⟩, hm⟩, hbl⟩, hno⟩ hK
    have c5 := hx.cell
    have hl : (Nm.labsD n).length = ys.length := by rw [← hS]; simp
    have H := Lib.hid (Nm.walkL_all (n := n) (most := most) (fun j h1 h2 => hno j h1 (by omega)))
    rw [hS] at ho
    clear hno hS hl hv
    gi_wp2
    refine ⟨by simp, .inl ⟨_, _, rfl, run_takeDeferred hK, ?_⟩⟩
    exact ⟨_, results_tmp rfl _ _ _, v, rfl, by rw [H.out]; exact ownsRow_putObj ho _ hK rfl, below_putD hbl (by omega) hK rfl rfl _⟩
  case stop =>
    rintro D c pre W hD hSp ⟨⟨⟨v, hx, ho, _⟩, hbl⟩, rfl, hne, hm⟩ hK
    have c5 := hx.cell
    have H := Lib.hid (Nm.walkL_take (n := n) (most := most) hSp (fun e => hne (List.map_eq_nil_iff.1 e)) (by rw [List.length_map]; exact hm))
    clear hSp hne hm
    gi_wp2
    refine ⟨by simp, .inl ⟨_, _, rfl, run_takeDeferred hK, ?_⟩⟩
    exact ⟨_, results_tmp rfl _ _ _, v, rfl, by rw [H.out]; exact ownsRow_putObj ho _ hK rfl, below_putD hbl (by omega) hK rfl rfl _⟩

set_option maxRecDepth 100000 in
set_option maxHeartbeats 2000000 in
theorem texts_any (a b : List (List UInt8)) (va vb : Value) (w : World) (ha : ReadS va a w) (hb : ReadS vb b w) (hn : a.length ≤ 100000) (hm : b.length ≤ 100000) :
    Calls Tryd.prog 16 #[va, vb] w fun e w' => e = .returned (.bool (a == b)) ∧ Drew w w' := by
  obtain ⟨ao, ca, rfl, hca⟩ := ha.form
  obtain ⟨bo, cb, rfl, hcb⟩ := hb.form
  by_cases hl : a.length = b.length
  · have t1 : ((a.length : Int) != (b.length : Int)) = false := by rw [bne_eq_false_iff_eq]; omega
    have t2 : ((b.length : Int) != (b.length : Int)) = false := by rw [bne_eq_false_iff_eq]
    have HCA := Lib.hid hca
    have HCB := Lib.hid hcb
    have HL := Lib.hid hl
    clear hca hcb hl
    go_enter Tryd.func16, Tryd.ntmps16
    go_wp2
    go_loopw [5] (fun i wr => ∃ k : Nat, k ≤ a.length ∧ i = .int .i64 (k : Int) ∧ Drew w wr ∧ Hid (a.take k = b.take k)) (fun i _ => a.length + 1 - (intOf i).toNat)
    case atStart => exact ⟨0, by omega, rfl, Drew.refl _, Lib.hid rfl⟩
    case round =>
      obtain ⟨k, hk, rfl, hd, he⟩ := hrel
      by_cases hlt : k < a.length
      · have hlb : k < b.length := by have := HL.out; omega
        obtain ⟨g, off, rfl, c1⟩ := HCA.out k hlt
        obtain ⟨g2, off2, rfl, c2⟩ := HCB.out k hlb
        replace c1 := (hd.cell _).trans c1
        replace c2 := (hd.cell _).trans c2
        simp only [encS] at c1 c2
        have hta := List.take_succ_eq_append_getElem hlt
        have htb := List.take_succ_eq_append_getElem hlb
        by_cases hx : a[k] = b[k]
        · have hstep : a.take (k + 1) = b.take (k + 1) := by rw [hta, htb, he.out, hx]
          have HS := Lib.hid hstep
          rw [← hx] at c2
          obtain ⟨x, hxx⟩ : ∃ x, x = a[k] := ⟨_, rfl⟩
          rw [← hxx] at c1 c2
          clear hstep hta htb hx hxx
          go_wp2
          go_quiet (fail)
          go_wp2
          go_roundw
          case rel => exact ⟨k + 1, by omega, by go_num, hd.drewN _, HS⟩
          case measure => simp [intOf]; omega
        · have hfin : (a == b) = false := by
            rw [beq_eq_false_iff_ne]
            intro e
            subst e
            exact hx rfl
          have H := Lib.hid hfin
          obtain ⟨x, hxx⟩ : ∃ x, x = a[k] := ⟨_, rfl⟩
          obtain ⟨y, hyy⟩ : ∃ y, y = b[k] := ⟨_, rfl⟩
          rw [← hxx] at c1
          rw [← hyy] at c2
          have hxy : (x == y) = false := by rw [beq_eq_false_iff_ne, hxx, hyy]; exact hx
          clear hta htb hx hxx hyy hfin
          go_wp2
          go_quiet (fail)
          go_wp2
          go_ret
          exact ⟨ret_bool H.out.symm, hd.drewN _⟩
      · obtain rfl : k = a.length := by omega
        have hfin : (a == b) = true := by
          have := he.out
          rw [List.take_length, HL.out, List.take_length] at this
          rw [this]; simp
        have H := Lib.hid hfin
        clear hfin
        go_wp2
        go_ret
        exact ⟨ret_bool H.out.symm, hd⟩
  · have H := Lib.hid (show (a == b) = false by rw [beq_eq_false_iff_ne]; intro e; exact hl (by rw [e]))
    have t1 : ((a.length : Int) != (b.length : Int)) = true := by rw [bne_iff_ne]; omega
    clear hl
    go_enter Tryd.func16, Tryd.ntmps16
    go_wp2
    go_ret
    exact ⟨ret_bool H.out.symm, Drew.refl _⟩
end Go.Proofs.YtiodfiegknkceaaDoor
