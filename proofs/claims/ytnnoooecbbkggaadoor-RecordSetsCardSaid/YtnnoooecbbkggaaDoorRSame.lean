/- The document's own SameRR. -/
import Derived.Test.YtnnoooecbbkggaaDoorRFoldData
import Derived.Test.YtnnoooecbbkggaaDoorSame
namespace Go.Proofs.YtnnoooecbbkggaaDoor
open Go.RowKit Go.Shelf
attribute [local go_sem] Oper.semAt_some

theorem Rd.sameR_eq (a b : Rd.RR) : Rd.sameR a b = ((Nm.fold a.name == Nm.fold b.name) && ((a.typ == b.typ) && ((a.cls == b.cls) && (Rd.foldData a.typ a.data == Rd.foldData b.typ b.data)))) := by
  have : Rd.sameR a b = decide (Rd.foldR a = Rd.foldR b) := by unfold Rd.sameR; rw [Bool.eq_iff_iff]; simp
  rw [this, ← eqRR_iff]
  unfold eqRR Rd.foldR
  simp only [BEq.rfl, Bool.true_and]

set_option maxRecDepth 100000 in
set_option maxHeartbeats 8000000 in
theorem rsame_any (a b : Rd.RR) (w : World) (ha : a.name.length ≤ 100000) (ha' : a.data.length ≤ 100000) (hb : b.name.length ≤ 100000) (hb' : b.data.length ≤ 100000) :
    Calls Tryd.prog 26 #[rrV a, rrV b] w fun e w' => e = .returned (.bool (Rd.sameR a b)) ∧ Below w.heap.size w w' := by
  rw [Rd.sameR_eq]
  obtain ⟨n, t, c, l, d⟩ := a
  obtain ⟨n2, t2, c2, l2, d2⟩ := b
  simp only at ha ha' hb hb' ⊢
  unfold rrV
  simp only
  have h1 := fun W => rfold_any n W ha
  have h2 := fun W => rfold_any n2 W hb
  have h3 := fun W => rfoldData_any t d W ha'
  have h4 := fun W => rfoldData_any t2 d2 W hb'
  obtain ⟨m, hm⟩ : ∃ m, Nm.fold n = m := ⟨_, rfl⟩
  obtain ⟨m2, hm2⟩ : ∃ m, Nm.fold n2 = m := ⟨_, rfl⟩
  obtain ⟨g, hg⟩ : ∃ m, Rd.foldData t d = m := ⟨_, rfl⟩
  obtain ⟨g2, hg2⟩ : ∃ m, Rd.foldData t2 d2 = m := ⟨_, rfl⟩
  rw [hm] at h1
  rw [hm2] at h2
  rw [hg] at h3
  rw [hg2] at h4
  rw [hm, hm2, hg, hg2]
  obtain ⟨q1, hq1⟩ : ∃ q, (m == m2) = q := ⟨_, rfl⟩
  obtain ⟨q2, hq2⟩ : ∃ q, (t == t2) = q := ⟨_, rfl⟩
  obtain ⟨q3, hq3⟩ : ∃ q, (c == c2) = q := ⟨_, rfl⟩
  obtain ⟨q4, hq4⟩ : ∃ q, (g == g2) = q := ⟨_, rfl⟩
  rw [hq1, hq2, hq3, hq4]
  have H1 := Lib.hid h1
  have H2 := Lib.hid h2
  have H3 := Lib.hid h3
  have H4 := Lib.hid h4
  clear h1 h2 h3 h4 hm hm2 hg hg2 ha ha' hb hb'
  have hk1 := (Block.new w #[.string ⟨n.toArray⟩, .int .i64 t, .int .i64 c, .int .i64 l, .string ⟨d.toArray⟩] 23).alloc (.cells #[.string ⟨n2.toArray⟩, .int .i64 t2, .int .i64 c2, .int .i64 l2, .string ⟨d2.toArray⟩] 23)
  have hk2 := Block.new (w.alloc (.cells #[.string ⟨n.toArray⟩, .int .i64 t, .int .i64 c, .int .i64 l, .string ⟨d.toArray⟩] 23)) #[.string ⟨n2.toArray⟩, .int .i64 t2, .int .i64 c2, .int .i64 l2, .string ⟨d2.toArray⟩] 23
  rw [World.size_alloc] at hk2
  have hbw : Below w.heap.size w ((w.alloc (.cells #[.string ⟨n.toArray⟩, .int .i64 t, .int .i64 c, .int .i64 l, .string ⟨d.toArray⟩] 23)).alloc (.cells #[.string ⟨n2.toArray⟩, .int .i64 t2, .int .i64 c2, .int .i64 l2, .string ⟨d2.toArray⟩] 23)) := ((Below.refl _ w).alloc (Nat.le_refl _) _).alloc (by simp) _
  have hF : Fence.wide.fn 37 := trivial
  have hF2 : Fence.wide.fn 50 := trivial
  have hcase : (q1 = false) ∨ (q1 = true ∧ q2 = false) ∨ (q1 = true ∧ q2 = true ∧ q3 = false) ∨ (q1 = true ∧ q2 = true ∧ q3 = true) := by cases q1 <;> cases q2 <;> cases q3 <;> simp
  rcases hcase with rfl | ⟨rfl, rfl⟩ | ⟨rfl, rfl, rfl⟩ | ⟨rfl, rfl, rfl⟩
  all_goals
    simp only [Bool.false_and, Bool.true_and]
    refine (callsIn_wide (n := 9)).1 ?_
    refine callsIn_of_wp Tryd.func26 rfl trivial ?_ rfl
    simp only [Tryd.ntmps26, List.size_toArray, List.length_cons, List.length_nil, Nat.reduceAdd, Nat.reduceSub, Array.replicate_succ, Array.replicate_zero, List.push_toArray, List.append_toArray, List.nil_append, List.cons_append]
    gi_wp2
    generalize ((w.alloc (.cells #[.string ⟨n.toArray⟩, .int .i64 t, .int .i64 c, .int .i64 l, .string ⟨d.toArray⟩] 23)).alloc (.cells #[.string ⟨n2.toArray⟩, .int .i64 t2, .int .i64 c2, .int .i64 l2, .string ⟨d2.toArray⟩] 23)) = W0 at *
    have a0 := Grew.cell (hk1.cell (i := 0) rfl)
    have b0 := Grew.cell (hk2.cell (i := 0) rfl)
    have a1 := Grew.cell (hk1.cell (i := 1) rfl)
    have b1 := Grew.cell (hk2.cell (i := 1) rfl)
    have a2 := Grew.cell (hk1.cell (i := 2) rfl)
    have b2 := Grew.cell (hk2.cell (i := 2) rfl)
    have a4 := Grew.cell (hk1.cell (i := 4) rfl)
    have b4 := Grew.cell (hk2.cell (i := 4) rfl)
    refine wpIn_region_grew (by kernel_rfl) (by kernel_rfl) (by kernel_rfl) ?_
    repeat (gi_big_quiet_step ((first
      | (gi_at_call 37; (with_reducible exact Grew.calls _ _ (callsIn_wide.2 (H1.out _))))
      | (gi_at_call 37; (with_reducible exact Grew.calls _ _ (callsIn_wide.2 (H2.out _))))
      | (gi_at_call 50; (with_reducible exact Grew.calls _ _ (callsIn_wide.2 (H3.out _))))
      | (gi_at_call 50; (with_reducible exact Grew.calls _ _ (callsIn_wide.2 (H4.out _)))))))
    refine wpQuietIn_nil ?_
    rintro W1 ⟨iG, hi⟩
    have hdw : Below W0.heap.size W0 W1 := by rw [hi]; exact iG.below
    clear hi
    gi_wp2
    go_ret
    exact ⟨rfl, below_trans hbw hdw⟩
end Go.Proofs.YtnnoooecbbkggaaDoor
