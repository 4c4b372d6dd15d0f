/- slices.AppendSeq over the places. -/
import Derived.Test.YtiodfiegknkceaaDoorLabels
namespace Go.Proofs.YtiodfiegknkceaaDoor
open Go.RowKit Go.Shelf
attribute [local go_sem] Oper.semAt_some

set_option maxRecDepth 100000 in
set_option maxHeartbeats 2000000 in
theorem appendSeq_any (n : List UInt8) (hs : n.length ≤ 100000) (base Bn : Nat) (sv : Value) (w : World) (ho : OwnE encI 3 base sv [] w) (hb : base ≤ w.heap.size) (hn : Boxed w Bn 9 (.string ⟨n.toArray⟩)) (hsv : ∃ g cap, sv = .slice (some ⟨g, 0, none⟩) 0 cap) :
    Calls Tryd.prog 47 #[sv, .func (.func 51) #[] #[.pointer (some ⟨Bn, 0, none⟩)]] w fun e w' => ∃ v', e = .returned v' ∧ OwnE encI 3 base v' (Nm.placesN n) w' ∧ Below base w w' := by
  obtain ⟨g0, cap0, rfl⟩ := hsv
  refine (callsIn_wide (n := 8)).1 ?_
  refine callsIn_of_wp_marks Tryd.func47 rfl trivial ?_ rfl
  simp only [Tryd.ntmps47, List.size_toArray, List.length_cons, List.length_nil, Nat.reduceAdd, Nat.reduceSub, Array.replicate_succ, Array.replicate_zero, List.push_toArray, List.append_toArray, List.nil_append, List.cons_append]
  have hbx := Boxed.new w 47 (.slice (some ⟨g0, 0, none⟩) 0 cap0)
  have ho1 := ownE_alloc ho (.cells #[.slice (some ⟨g0, 0, none⟩) 0 cap0] 47)
  have hn1 := hn.alloc (.cells #[.slice (some ⟨g0, 0, none⟩) 0 cap0] 47)
  have hbw : Below base w (w.alloc (.cells #[.slice (some ⟨g0, 0, none⟩) 0 cap0] 47)) := (Below.refl base w).alloc hb _
  have hsz : (w.alloc (.cells #[.slice (some ⟨g0, 0, none⟩) 0 cap0] 47)).heap.size = w.heap.size + 1 := by simp
  gi_wp2
  generalize (w.alloc (.cells #[.slice (some ⟨g0, 0, none⟩) 0 cap0] 47)) = W0 at *
  refine wpIn_rangeFunc_ownF rfl (by omega) (gf := 51) (lb := #[.pointer (some ⟨Bn, 0, none⟩)]) (by rfl) trivial (enters_of Tryd.func51 (by kernel_rfl) rfl)
    (places_stops _ (by omega) Bn n hs _ hn1.cell) kb_t kb_b (Below.refl _ _) (fun _ => rfl)
    (fun pre W => ((∃ v, Boxed W w.heap.size 47 v ∧ W.ownsRow base 3 1 v (pre.map Subtype.val).length ((pre.map Subtype.val).map encI) ∧ (∃ g cap, v = .slice (some ⟨g, 0, none⟩) (pre.map Subtype.val).length cap)) ∧ Boxed W Bn 9 (.string ⟨n.toArray⟩)) ∧ Below base w W)
    (fun _ _ _ => False)
    (OwnFrom.and (OwnFrom.and (Own.from (holdsRow_own base w.heap.size 47 3 1 (fun pre : List (Nm.Pos n) => (pre.map Subtype.val).length) (fun pre => (pre.map Subtype.val).map encI) (fun pre v => ∃ g cap, v = .slice (some ⟨g, 0, none⟩) (pre.map Subtype.val).length cap)) _) (Own.from (boxed_own Bn 9 (fun _ : List (Nm.Pos n) => .string ⟨n.toArray⟩)) _)) (ownFrom_below hb (by omega)))
    (fun _ _ _ _ _ hs _ _ => hs)
    ⟨⟨⟨_, hbx, ho1, g0, cap0, rfl⟩, hn1⟩, hbw⟩
    (fun x => { tmps := #[.slice (some ⟨g0, 0, none⟩) 0 cap0, .func (.func 51) #[] #[.pointer (some ⟨Bn, 0, none⟩)], .pointer (some ⟨w.heap.size, 0, none⟩), undef, .slice none 0 0, .int .i64 (x.1 : Int), .func (.func 51) #[] #[.pointer (some ⟨Bn, 0, none⟩)], .int .i64 (x.1 : Int), undef, undef, undef, undef, undef], defers := [] }) ?assign ?body ?done ?stop
  case assign =>
    intro l x W K hK
    gi_wp2
    exact hK
  case body =>
    rintro l1 pre x W ⟨⟨⟨v, hx, ho2, hform⟩, hn2⟩, hbl⟩ hlen
    have hwr := hbl.size
    have c2 := hx.cell
    have hT : (pre.map Subtype.val).length ≤ 255 := by rw [List.length_map]; omega
    have e3 : (pre ++ [x]).map Subtype.val = pre.map Subtype.val ++ [x.1] := by simp
    obtain ⟨T, hTe⟩ : ∃ T, T = pre.map Subtype.val := ⟨_, rfl⟩
    rw [← hTe] at ho2 hform hT e3
    have E3 := Lib.hid e3
    clear e3 hTe
    obtain ⟨g, cap, rfl⟩ := hform
    gi_wp2_with (gi_at_builtin; refine wpListIn_apd _ rfl _ _ 47 rfl encI encI_one base 3 _ 8 Tryd.underlying47 infoInt rfl _ T rfl (ownE_alloc ho2 _) ⟨_, 0, none⟩ 1 1 [x.1] rfl rfl (cell_one_new _ _ _) (by omega) (by omega) (by simp; omega) ?_; intro v1 w1 ho1' ha1' hn1'; have ha1 := ha1'.of_alloc (by omega); have hxb1 : Boxed w1 w.heap.size 47 (.slice (some ⟨g, 0, none⟩) T.length cap) := ha1.other _ _ (hx.not_row (by decide) ho2) hx; have hnb1 : Boxed w1 Bn 9 (.string ⟨n.toArray⟩) := ha1.other _ _ (hn2.not_row (by decide) ho2) hn2; have c1 := hxb1.cell; have f1 := hxb1.frozen; obtain ⟨g1, cp1, rfl⟩ := (ownE_form ho1').resolve_left (fun h => by have := h.2; simp at this); refine Hid.out ?_)
    refine Lib.hid ?_
    gi_wp2
    have hne : w.heap.size ≠ Bn := fun e => by
      have h1 := hnb1
      rw [← e] at h1
      have h2 := Option.some.inj ((show w1.heap[w.heap.size]? = _ from hxb1).symm.trans (show w1.heap[w.heap.size]? = _ from h1))
      injection h2 with h3 h4
      exact absurd h4 (by decide)
    exact ⟨ha1.others.trans (KeepsOthers.setCell _ _ _), fun u hu => by rw [hn2.cell] at hu; cases hu; exact (hnb1.other (Ne.symm hne) _).cell, ⟨⟨_, hxb1.set _, by rw [E3.out]; exact ownE_setBox (by first | exact ho1' | simpa using ho1') hxb1 (by decide) _, _, _, by rw [E3.out, List.length_append, List.length_singleton]⟩, hnb1.other (Ne.symm hne) _⟩, (hbl.trans ha1.below).setCell (p := ⟨w.heap.size, 0, none⟩) hb _⟩
  case done =>
    rintro D ys W hD hS ⟨⟨⟨v, hx, ho2, hform⟩, hn2⟩, hbl⟩ hK
    have c2 := hx.cell
    rw [hS] at ho2 hform
    obtain ⟨g, cap, rfl⟩ := hform
    gi_wp2
    refine ⟨by simp, .inl ⟨_, _, rfl, run_takeDeferred hK, ?_⟩⟩
    exact ⟨_, results_tmp rfl _ _ _, .slice (some ⟨g, 0, none⟩) (Nm.placesN n).length cap, rfl, ownsRow_putObj ho2 _ hK rfl, hbl.trans (belowK_b (w := w) hb W D _ _ (by omega) hK rfl rfl)⟩
  case stop =>
    rintro D c pre W _ _ h _
    exact h.elim
end Go.Proofs.YtiodfiegknkceaaDoor
