/- Under and Common. -/
import Derived.Test.YtiodfiegknkceaaDoorCount
import Derived.Test.YtiodfiegknkceaaDoorQuietRound
import Derived.WalkSmall
namespace Go.Proofs.YtiodfiegknkceaaDoor
open Go.RowKit Go.Shelf
attribute [local go_sem] Oper.semAt_some

set_option maxRecDepth 100000 in
set_option maxHeartbeats 1000000 in
theorem under_any (n z : List UInt8) (w : World) (hs : n.length ≤ 100000) (hz : z.length ≤ 100000) :
    Calls Tryd.prog 30 #[.string ⟨n.toArray⟩, .string ⟨z.toArray⟩] w fun e w' => e = .returned (.bool (Nm.under n z)) ∧ Below w.heap.size w w' := by
  refine (callsIn_wide (n := 8)).1 ?_
  refine callsIn_of_wp_marks Tryd.func30 rfl trivial ?_ rfl
  simp only [Tryd.ntmps30, List.size_toArray, List.length_cons, List.length_nil, Nat.reduceAdd, Nat.reduceSub, Array.replicate_succ, Array.replicate_zero, List.push_toArray, List.append_toArray, List.nil_append, List.cons_append]
  gi_wp2_with (refine ⟨trivial, ?_⟩; gi_at_call 40; refine (callsIn_wide.2 (places_any n _)).mono ?_; rintro e w' ⟨rfl, rfl⟩)
  have hb2 := (((Boxed.new w 9 (.string ⟨n.toArray⟩)).alloc (.cells #[.string ⟨z.toArray⟩] 9)).alloc (.cells #[.bool false] 4)).alloc (.cells #[.string ⟨n.toArray⟩] 9)
  have hb3 := ((Boxed.new (w.alloc (.cells #[.string ⟨n.toArray⟩] 9)) 9 (.string ⟨z.toArray⟩)).alloc (.cells #[.bool false] 4)).alloc (.cells #[.string ⟨n.toArray⟩] 9)
  have hb4 := (Boxed.new ((w.alloc (.cells #[.string ⟨n.toArray⟩] 9)).alloc (.cells #[.string ⟨z.toArray⟩] 9)) 4 (.bool false)).alloc (.cells #[.string ⟨n.toArray⟩] 9)
  have hb6 := Boxed.new (((w.alloc (.cells #[.string ⟨n.toArray⟩] 9)).alloc (.cells #[.string ⟨z.toArray⟩] 9)).alloc (.cells #[.bool false] 4)) 9 (.string ⟨n.toArray⟩)
  have hbw : Below w.heap.size w ((((w.alloc (.cells #[.string ⟨n.toArray⟩] 9)).alloc (.cells #[.string ⟨z.toArray⟩] 9)).alloc (.cells #[.bool false] 4)).alloc (.cells #[.string ⟨n.toArray⟩] 9)) :=
    ((((Below.refl _ w).alloc (Nat.le_refl _) _).alloc (by simp) _).alloc (by simp; omega) _).alloc (by simp; omega) _
  have hsz : ((((w.alloc (.cells #[.string ⟨n.toArray⟩] 9)).alloc (.cells #[.string ⟨z.toArray⟩] 9)).alloc (.cells #[.bool false] 4)).alloc (.cells #[.string ⟨n.toArray⟩] 9)).heap.size = w.heap.size + 4 := by simp
  simp only [World.size_alloc] at hb3 hb4 hb6
  generalize ((((w.alloc (.cells #[.string ⟨n.toArray⟩] 9)).alloc (.cells #[.string ⟨z.toArray⟩] 9)).alloc (.cells #[.bool false] 4)).alloc (.cells #[.string ⟨n.toArray⟩] 9)) = W0 at *
  refine wpIn_rangeFunc_ownF rfl (by omega) (gf := 51) (lb := #[.pointer (some ⟨w.heap.size + 1 + 1 + 1, 0, none⟩)]) (by rfl) trivial (enters_of Tryd.func51 (by kernel_rfl) rfl)
    (places_stops _ (by omega) (w.heap.size + 1 + 1 + 1) n hs _ hb6.cell) kb_t kb_b (Below.refl _ _) (fun _ => rfl)
    (fun pre W => (((Boxed W w.heap.size 9 (.string ⟨n.toArray⟩) ∧ Boxed W (w.heap.size + 1) 9 (.string ⟨z.toArray⟩)) ∧ Boxed W (w.heap.size + 1 + 1) 4 (.bool false)) ∧ Below w.heap.size w W) ∧ ∀ x ∈ pre, Nm.same (n.drop x.1) z = false)
    (fun c pre W => ((Boxed W (w.heap.size + 1 + 1) 4 (.bool true)) ∧ Below w.heap.size w W) ∧ (c = .ret ∧ ∃ x ∈ pre, Nm.same (n.drop x.1) z = true))
    ((((OwnFrom.and (Own.from (boxed_own w.heap.size 9 (fun _ : List (Nm.Pos n) => .string ⟨n.toArray⟩)) _) (Own.from (boxed_own (w.heap.size + 1) 9 (fun _ : List (Nm.Pos n) => .string ⟨z.toArray⟩)) _)).and (Own.from (boxed_own (w.heap.size + 1 + 1) 4 (fun _ : List (Nm.Pos n) => .bool false)) _)).and (ownFrom_below (Nat.le_refl _) (by omega))).and (ownFrom_pure _ _))
    (fun c => ((Own.from (boxed_own (w.heap.size + 1 + 1) 4 (fun _ : List (Nm.Pos n) => .bool true)) _).and (ownFrom_below (Nat.le_refl _) (by omega))).and (ownFrom_pure _ _))
    ⟨⟨⟨⟨hb2, hb3⟩, hb4⟩, hbw⟩, fun x hx => by cases hx⟩
    (fun x => { tmps := #[.string ⟨n.toArray⟩, .string ⟨z.toArray⟩, .pointer (some ⟨w.heap.size, 0, none⟩), .pointer (some ⟨w.heap.size + 1, 0, none⟩), .pointer (some ⟨w.heap.size + 1 + 1, 0, none⟩), .int .i64 (x.1 : Int), .string ⟨n.toArray⟩, .func (.func 51) #[] #[.pointer (some ⟨w.heap.size + 1 + 1 + 1, 0, none⟩)], .int .i64 (x.1 : Int), undef, undef, undef, undef, undef, undef, undef, undef, undef, undef, undef], defers := [] }) ?assign ?body ?done ?stop
  case assign =>
    intro l x W K hK
    gi_wp2
    exact hK
  case body =>
    have hF : Fence.wide.fn 28 := trivial
    rintro l pre x W ⟨⟨⟨⟨hx2, hx3⟩, hx4⟩, hbl⟩, hno⟩ hlen
    have c2 := hx2.cell
    have c3 := hx3.cell
    have c4 := hx4.cell
    have f4 := hx4.frozen
    obtain ⟨hxl, hxk⟩ := x.2
    have hsl := ext_from n x.1
    have HNO := Lib.hid hno
    clear hno
    cases hsm : Nm.same (n.drop x.1) z
    · have HS := Lib.hid hsm
      clear hsm
      gi_wp2
      refine wpIn_region_quiet_rlit (by kernel_rfl) (by kernel_rfl) (by kernel_rfl) ?_
      repeat (gi_big_quiet_step ((gi_at_call 28; exact CallsIn.quiet_of (v := .bool false) ((CallsIn.inRound l (callsIn_wide.2 (same_any (n.drop x.1) z _ (by simp; omega) hz))).mono (fun _ _ h => ⟨by rw [h.1, HS.out], h.2⟩)))))
      refine wpQuietIn_nil ?_
      intro _ hw'
      obtain ⟨nq, hw''⟩ := hw'
      subst hw''
      gi_wp2
      have hdw : Below W.heap.size W (W.drewN nq) := below_drewN (Below.refl _ _) _
      exact ⟨ko_below hdw, KB.below hdw, ⟨⟨⟨boxed_below hx2 hdw, boxed_below hx3 hdw⟩, boxed_below hx4 hdw⟩, below_trans hbl hdw⟩, fun y hy => (List.mem_append.1 hy).elim (HNO.out y) (fun hy => by rw [List.mem_singleton.1 hy]; exact HS.out)⟩
    · have HS := Lib.hid hsm
      clear hsm
      gi_wp2
      refine wpIn_region_quiet_rlit (by kernel_rfl) (by kernel_rfl) (by kernel_rfl) ?_
      repeat (gi_big_quiet_step ((gi_at_call 28; exact CallsIn.quiet_of (v := .bool true) ((CallsIn.inRound l (callsIn_wide.2 (same_any (n.drop x.1) z _ (by simp; omega) hz))).mono (fun _ _ h => ⟨by rw [h.1, HS.out], h.2⟩)))))
      refine wpQuietIn_nil ?_
      intro _ hw'
      obtain ⟨nq, hw''⟩ := hw'
      subst hw''
      have hdw : Below W.heap.size W (W.drewN nq) := below_drewN (Below.refl _ _) _
      have hx4' := boxed_below hx4 hdw
      gi_wp2
      exact ⟨(ko_below hdw).trans (KeepsOthers.setCell _ _ _), ⟨hx4'.set _, (below_trans hbl hdw).setCell (p := ⟨w.heap.size + 1 + 1, 0, none⟩) (by show w.heap.size ≤ w.heap.size + 1 + 1; omega) _⟩, rfl, x, by simp, HS.out⟩
  case done =>
    rintro D ys W hD hS ⟨⟨⟨⟨hx2, hx3⟩, hx4⟩, hbl⟩, hno⟩ hK
    have c2 := hx2.cell
    have c3 := hx3.cell
    have c4 := hx4.cell
    have f4 := hx4.frozen
    have H := Lib.hid (Nm.underC_no (n := n) (z := z) (fun k hk => by rw [← hS] at hk; obtain ⟨y, hy, rfl⟩ := List.mem_map.1 hk; exact hno y hy))
    rw [Nm.underC_eq] at H
    clear hno hS
    cases hv : Nm.valid n
    · have HV := Lib.hid hv
      clear hv
      gi_wp2_with (refine ⟨trivial, ?_⟩; gi_at_call 15; refine (callsIn_wide.2 (valid_any n _ hs)).mono ?_; rw [HV.out]; rintro e w' ⟨rfl, rfl⟩)
      have hK' := (KeepsOthers.setCell W ⟨w.heap.size + 1 + 1, 0, none⟩ (.bool false)).same D _ hK rfl
      have hx5 := (boxed_putD (hx4.set (.bool false)) hK' rfl (.deferred none)).cell
      refine ⟨by simp, .inl ⟨_, _, rfl, run_takeDeferred hK', ?_⟩⟩
      refine ⟨.bool false, ?_, ret_bool (by rw [H.out, HV.out, Bool.false_and]), below_putD (hbl.setCell (p := ⟨w.heap.size + 1 + 1, 0, none⟩) (by show w.heap.size ≤ w.heap.size + 1 + 1; omega) _) (by omega) hK' rfl rfl _⟩
      simp [results, Tryd.f30, go_sem, hx5]
    · have HV := Lib.hid hv
      clear hv
      gi_wp2_with (refine ⟨trivial, ?_⟩; gi_at_call 15; refine (callsIn_wide.2 (valid_any n _ hs)).mono ?_; rw [HV.out]; rintro e w' ⟨rfl, rfl⟩)
      have hK' := (KeepsOthers.setCell W ⟨w.heap.size + 1 + 1, 0, none⟩ (.bool (z == [0]))).same D _ hK rfl
      have hx5 := (boxed_putD (hx4.set (.bool (z == [0]))) hK' rfl (.deferred none)).cell
      refine ⟨by simp, .inl ⟨_, _, rfl, run_takeDeferred hK', ?_⟩⟩
      refine ⟨.bool (z == [0]), ?_, ret_bool (by rw [H.out, HV.out, Bool.true_and]), below_putD (hbl.setCell (p := ⟨w.heap.size + 1 + 1, 0, none⟩) (by show w.heap.size ≤ w.heap.size + 1 + 1; omega) _) (by omega) hK' rfl rfl _⟩
      simp [results, Tryd.f30, go_sem, hx5]
  case stop =>
    rintro D c pre W hD hSp ⟨⟨hx4, hbl⟩, rfl, hyes⟩ hK
    have c4 := hx4.cell
    obtain ⟨x, hx, hxs⟩ := hyes
    have H := Lib.hid (Nm.underC_yes (n := n) (z := z) (hSp.subset (List.mem_map.2 ⟨x, hx, rfl⟩)) hxs)
    rw [Nm.underC_eq] at H
    gi_wp2
    refine ⟨by simp, .inl ⟨_, _, rfl, run_takeDeferred hK, ?_⟩⟩
    have hx5 := (boxed_putD hx4 hK rfl (.deferred none)).cell
    refine ⟨.bool true, ?_, ret_bool H.out.symm, below_putD hbl (by omega) hK rfl rfl _⟩
    simp [results, Tryd.f30, go_sem, hx5]

set_option maxRecDepth 100000 in
set_option maxHeartbeats 1000000 in
theorem common_any (a b : List UInt8) (w : World) (ha : a.length ≤ 100000) (hb : b.length ≤ 100000) :
    Calls Tryd.prog 34 #[.string ⟨a.toArray⟩, .string ⟨b.toArray⟩] w fun e w' => e = .returned (.string ⟨(Nm.commonC a b).toArray⟩) ∧ Below w.heap.size w w' := by
  refine (callsIn_wide (n := 8)).1 ?_
  refine callsIn_of_wp_marks Tryd.func34 rfl trivial ?_ rfl
  simp only [Tryd.ntmps34, List.size_toArray, List.length_cons, List.length_nil, Nat.reduceAdd, Nat.reduceSub, Array.replicate_succ, Array.replicate_zero, List.push_toArray, List.append_toArray, List.nil_append, List.cons_append]
  gi_wp2_with (refine ⟨trivial, ?_⟩; gi_at_call 40; refine (callsIn_wide.2 (places_any a _)).mono ?_; rintro e w' ⟨rfl, rfl⟩)
  have hb2 := (((Boxed.new w 9 (.string ⟨a.toArray⟩)).alloc (.cells #[.string ⟨b.toArray⟩] 9)).alloc (.cells #[.string ⟨#[0]⟩] 9)).alloc (.cells #[.string ⟨a.toArray⟩] 9)
  have hb3 := ((Boxed.new (w.alloc (.cells #[.string ⟨a.toArray⟩] 9)) 9 (.string ⟨b.toArray⟩)).alloc (.cells #[.string ⟨#[0]⟩] 9)).alloc (.cells #[.string ⟨a.toArray⟩] 9)
  have hb5 := (Boxed.new ((w.alloc (.cells #[.string ⟨a.toArray⟩] 9)).alloc (.cells #[.string ⟨b.toArray⟩] 9)) 9 (.string ⟨#[0]⟩)).alloc (.cells #[.string ⟨a.toArray⟩] 9)
  have hb7 := Boxed.new (((w.alloc (.cells #[.string ⟨a.toArray⟩] 9)).alloc (.cells #[.string ⟨b.toArray⟩] 9)).alloc (.cells #[.string ⟨#[0]⟩] 9)) 9 (.string ⟨a.toArray⟩)
  have hbw : Below w.heap.size w ((((w.alloc (.cells #[.string ⟨a.toArray⟩] 9)).alloc (.cells #[.string ⟨b.toArray⟩] 9)).alloc (.cells #[.string ⟨#[0]⟩] 9)).alloc (.cells #[.string ⟨a.toArray⟩] 9)) :=
    ((((Below.refl _ w).alloc (Nat.le_refl _) _).alloc (by simp) _).alloc (by simp; omega) _).alloc (by simp; omega) _
  have hsz : ((((w.alloc (.cells #[.string ⟨a.toArray⟩] 9)).alloc (.cells #[.string ⟨b.toArray⟩] 9)).alloc (.cells #[.string ⟨#[0]⟩] 9)).alloc (.cells #[.string ⟨a.toArray⟩] 9)).heap.size = w.heap.size + 4 := by simp
  simp only [World.size_alloc] at hb3 hb5 hb7
  generalize ((((w.alloc (.cells #[.string ⟨a.toArray⟩] 9)).alloc (.cells #[.string ⟨b.toArray⟩] 9)).alloc (.cells #[.string ⟨#[0]⟩] 9)).alloc (.cells #[.string ⟨a.toArray⟩] 9)) = W0 at *
  refine wpIn_rangeFunc_ownF rfl (by omega) (gf := 51) (lb := #[.pointer (some ⟨w.heap.size + 1 + 1 + 1, 0, none⟩)]) (by rfl) trivial (enters_of Tryd.func51 (by kernel_rfl) rfl)
    (places_stops _ (by omega) (w.heap.size + 1 + 1 + 1) a ha _ hb7.cell) kb_t kb_b (Below.refl _ _) (fun _ => rfl)
    (fun pre W => (((Boxed W w.heap.size 9 (.string ⟨a.toArray⟩) ∧ Boxed W (w.heap.size + 1) 9 (.string ⟨b.toArray⟩)) ∧ Boxed W (w.heap.size + 1 + 1) 9 (.string ⟨#[0]⟩)) ∧ Below w.heap.size w W) ∧ ∀ x ∈ pre, Nm.under b (a.drop x.1) = false)
    (fun c pre W => (Boxed W (w.heap.size + 1 + 1) 9 (.string ⟨(match pre.getLast? with | some x => a.drop x.1 | none => []).toArray⟩) ∧ Below w.heap.size w W) ∧ (c = .exit 0 ∧ ∃ p x, pre = p ++ [x] ∧ (∀ y ∈ p, Nm.under b (a.drop y.1) = false) ∧ Nm.under b (a.drop x.1) = true))
    ((((OwnFrom.and (Own.from (boxed_own w.heap.size 9 (fun _ : List (Nm.Pos a) => .string ⟨a.toArray⟩)) _) (Own.from (boxed_own (w.heap.size + 1) 9 (fun _ : List (Nm.Pos a) => .string ⟨b.toArray⟩)) _)).and (Own.from (boxed_own (w.heap.size + 1 + 1) 9 (fun _ : List (Nm.Pos a) => .string ⟨#[0]⟩)) _)).and (ownFrom_below (Nat.le_refl _) (by omega))).and (ownFrom_pure _ _))
    (fun c => ((Own.from (boxed_own (w.heap.size + 1 + 1) 9 (fun pre : List (Nm.Pos a) => .string ⟨(match pre.getLast? with | some x => a.drop x.1 | none => []).toArray⟩)) _).and (ownFrom_below (Nat.le_refl _) (by omega))).and (ownFrom_pure _ _))
    ⟨⟨⟨⟨hb2, hb3⟩, hb5⟩, hbw⟩, fun x hx => by cases hx⟩
    (fun x => { tmps := #[.string ⟨a.toArray⟩, .string ⟨b.toArray⟩, .pointer (some ⟨w.heap.size, 0, none⟩), .pointer (some ⟨w.heap.size + 1, 0, none⟩), .string ⟨#[]⟩, .pointer (some ⟨w.heap.size + 1 + 1, 0, none⟩), .int .i64 (x.1 : Int), .string ⟨a.toArray⟩, .func (.func 51) #[] #[.pointer (some ⟨w.heap.size + 1 + 1 + 1, 0, none⟩)], .int .i64 (x.1 : Int), undef, undef, undef, undef, undef, undef, undef, undef, undef, undef], defers := [] }) ?assign ?body ?done ?stop
  case assign =>
    intro l x W K hK
    gi_wp2
    exact hK
  case body =>
    have hF : Fence.wide.fn 30 := trivial
    rintro l pre x W ⟨⟨⟨⟨hx2, hx3⟩, hx4⟩, hbl⟩, hno⟩ hlen
    have c2 := Grew.cell hx2.cell
    have c3 := Grew.cell hx3.cell
    obtain ⟨hxl, hxk⟩ := x.2
    have hsl := ext_from a x.1
    have HNO := Lib.hid hno
    clear hno
    cases hsm : Nm.under b (a.drop x.1)
    · have HS := Lib.hid hsm
      clear hsm
      gi_wp2
      refine wpIn_region_grew (by kernel_rfl) (by kernel_rfl) (by kernel_rfl) ?_
      repeat (gi_big_quiet_step ((gi_at_call 30; exact Grew.calls _ (.bool false) ((CallsIn.inRound l (callsIn_wide.2 (under_any b (a.drop x.1) _ hb (by simp; omega)))).mono (fun _ _ h => ⟨by rw [h.1, HS.out], h.2⟩)))))
      refine wpQuietIn_nil ?_
      rintro _ ⟨⟨W1, hdw⟩, rfl⟩
      gi_wp2
      exact ⟨ko_below hdw, KB.below hdw, ⟨⟨⟨boxed_below hx2 hdw, boxed_below hx3 hdw⟩, boxed_below hx4 hdw⟩, below_trans hbl hdw⟩, fun y hy => (List.mem_append.1 hy).elim (HNO.out y) (fun hy => by rw [List.mem_singleton.1 hy]; exact HS.out)⟩
    · have HS := Lib.hid hsm
      clear hsm
      gi_wp2
      refine wpIn_region_grew (by kernel_rfl) (by kernel_rfl) (by kernel_rfl) ?_
      repeat (gi_big_quiet_step ((gi_at_call 30; exact Grew.calls _ (.bool true) ((CallsIn.inRound l (callsIn_wide.2 (under_any b (a.drop x.1) _ hb (by simp; omega)))).mono (fun _ _ h => ⟨by rw [h.1, HS.out], h.2⟩)))))
      refine wpQuietIn_nil ?_
      rintro _ ⟨⟨W1, hdw⟩, rfl⟩
      have d2 := (boxed_below hx2 hdw).cell
      have hx4' := boxed_below hx4 hdw
      have d4 := hx4'.cell
      have f4 := hx4'.frozen
      gi_wp2
      exact ⟨(ko_below hdw).trans (KeepsOthers.setCell _ _ _), ⟨by simpa using hx4'.set (.string ⟨(a.drop x.1).toArray⟩), (below_trans hbl hdw).setCell (p := ⟨w.heap.size + 1 + 1, 0, none⟩) (by show w.heap.size ≤ w.heap.size + 1 + 1; omega) _⟩, rfl, pre, x, rfl, HNO.out, HS.out⟩
  case done =>
    rintro D ys W hD hS ⟨⟨⟨⟨hx2, hx3⟩, hx4⟩, hbl⟩, hno⟩ hK
    have c4 := hx4.cell
    have H := Lib.hid (Nm.commonC_none (a := a) (b := b) (fun k hk => by rw [← hS] at hk; obtain ⟨y, hy, rfl⟩ := List.mem_map.1 hk; exact hno y hy))
    clear hno hS
    gi_wp2_with (refine ⟨trivial, ?_⟩; gi_at_call 41; refine (callsIn_wide.2 (clone_any [0] _ (by simp))).mono ?_; rintro e W2 ⟨rfl, hb2⟩)
    have hK' := (ko_below hb2).same D _ hK rfl
    refine ⟨by simp, .inl ⟨_, _, rfl, run_takeDeferred hK', ?_⟩⟩
    exact ⟨_, results_tmp rfl _ _ _, by rw [H.out]; rfl, below_putD (below_trans hbl hb2) (by omega) hK' rfl rfl _⟩
  case stop =>
    rintro D c pre W hD hSp ⟨⟨hx4, hbl⟩, rfl, p, x, rfl, hno, hyes⟩ hK
    simp only [List.getLast?_append, List.getLast?_singleton, Option.some_or] at hx4
    have c4 := hx4.cell
    obtain ⟨hxl, hxk⟩ := x.2
    have H := Lib.hid (Nm.commonC_some (a := a) (b := b) (pre := p.map Subtype.val) (k := x.1) (by simpa using hSp) (fun k hk => by obtain ⟨y, hy, rfl⟩ := List.mem_map.1 hk; exact hno y hy) hyes)
    clear hno hyes
    gi_wp2_with (refine ⟨trivial, ?_⟩; gi_at_call 41; refine (callsIn_wide.2 (clone_any (a.drop x.1) _ (by simp; omega))).mono ?_; rintro e W2 ⟨rfl, hb2⟩)
    have hK' := (ko_below hb2).same D _ hK rfl
    refine ⟨by simp, .inl ⟨_, _, rfl, run_takeDeferred hK', ?_⟩⟩
    exact ⟨_, results_tmp rfl _ _ _, by rw [H.out]; rfl, below_putD (below_trans hbl hb2) (by omega) hK' rfl rfl _⟩
end Go.Proofs.YtiodfiegknkceaaDoor
