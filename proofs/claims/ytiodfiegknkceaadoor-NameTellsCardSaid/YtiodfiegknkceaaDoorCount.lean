/- Count and Parent. -/
import Derived.Test.YtiodfiegknkceaaDoorPlaces
namespace Go.Proofs.YtiodfiegknkceaaDoor
open Go.RowKit Go.Shelf
attribute [local go_sem] Oper.semAt_some

set_option maxRecDepth 100000 in
set_option maxHeartbeats 1000000 in
theorem count_any (n : List UInt8) (w : World) (hs : n.length ≤ 100000) :
    Calls Tryd.prog 18 #[.string ⟨n.toArray⟩] w fun e w' => e = .returned (.int .i64 ((Nm.labsD n).length : Int)) ∧ Below w.heap.size w w' := by
  refine (callsIn_wide (n := 8)).1 ?_
  refine callsIn_of_wp_marks Tryd.func18 rfl trivial ?_ rfl
  simp only [Tryd.ntmps18, List.size_toArray, List.length_cons, List.length_nil, Nat.reduceAdd, Nat.reduceSub, Array.replicate_succ, Array.replicate_zero, List.push_toArray, List.append_toArray, List.nil_append, List.cons_append]
  gi_wp2_with (refine ⟨trivial, ?_⟩; gi_at_call 40; refine (callsIn_wide.2 (places_any n _)).mono ?_; rintro e w' ⟨rfl, rfl⟩)
  have hb0 := (Boxed.new w 3 (.int .i64 0)).alloc (.cells #[.string ⟨n.toArray⟩] 9)
  have hb := Boxed.new (w.alloc (.cells #[.int .i64 0] 3)) 9 (.string ⟨n.toArray⟩)
  rw [World.size_alloc] at hb
  refine wpIn_rangeFunc_ownF rfl (by omega) (gf := 51) (lb := #[.pointer (some ⟨w.heap.size + 1, 0, none⟩)]) (by rfl) trivial (enters_of Tryd.func51 (by kernel_rfl) rfl)
    (places_stops _ (by omega) (w.heap.size + 1) n hs _ hb.cell) kb_t kb_b (Below.refl _ _) (fun _ => rfl)
    (fun pre W => Boxed W w.heap.size 3 (.int .i64 (pre.length : Int)) ∧ Below w.heap.size w W)
    (fun _ _ _ => False)
    (OwnFrom.and (Own.from (boxed_own w.heap.size 3 (fun pre : List (Nm.Pos n) => .int .i64 (pre.length : Int))) _) (ownFrom_below (Nat.le_refl _) (by simp; omega)))
    (fun _ _ _ _ _ hs _ _ => hs)
    ?start
    (fun x => { tmps := #[.string ⟨n.toArray⟩, undef, .int .i64 0, .pointer (some ⟨w.heap.size, 0, none⟩), .string ⟨n.toArray⟩, .func (.func 51) #[] #[.pointer (some ⟨w.heap.size + 1, 0, none⟩)], .int .i64 (x.1 : Int), undef, undef, undef], defers := [] }) ?assign ?body ?done ?stop
  case start => exact ⟨hb0, ((Below.refl _ w).alloc (Nat.le_refl _) _).alloc (by simp) _⟩
  case assign =>
    intro l x W K hK
    gi_wp2
    simpa using hK
  case body =>
    rintro l pre x W ⟨hbx, hbl⟩ hlen
    have hc := hbx.cell
    have hf := hbx.frozen
    gi_wp2
    exact ⟨KeepsOthers.setCell _ _ _, KB.setCell (by omega) _ _, by simpa using hbx.set (.int .i64 ((pre.length : Int) + 1)), hbl.setCell (p := ⟨w.heap.size, 0, none⟩) (Nat.le_refl _) _⟩
  case done =>
    rintro D ys W hD hS ⟨hbx, hbl⟩ hK
    have hc := hbx.cell
    have hy : (Nm.labsD n).length = ys.length := by rw [← Nm.labAt_placesN, ← hS]; simp
    have HY := Lib.hid hy
    clear hy
    gi_wp2
    refine ⟨by simp, .inl ⟨_, _, rfl, run_takeDeferred hK, ?_⟩⟩
    exact ⟨_, results_tmp rfl _ _ _, by rw [HY.out]; rfl, hbl.trans (belowK_b (w := w) (Nat.le_refl _) W D _ _ (by simp at hD; omega) hK rfl rfl)⟩
  case stop =>
    rintro D c pre W _ _ h _
    exact h.elim

set_option maxHeartbeats 400000 in
theorem parent_any (n : List UInt8) (w : World) (hs : n.length ≤ 100000) :
    Calls Tryd.prog 21 #[.string ⟨n.toArray⟩] w fun e w' => e = .returned (.string ⟨(Nm.parent n).toArray⟩) ∧ Below w.heap.size w w' := by
  cases hl : Nm.labsD n with
  | nil =>
    have hp := Nm.parent_nil hl
    have HL := Lib.hid hl
    have HP := Lib.hid hp
    clear hl hp
    go_enter Tryd.func21, Tryd.ntmps21
    go_wp2_with fail
    refine (count_any _ _ hs).mono ?_
    rw [HL.out]
    rintro e w1 ⟨rfl, hb⟩
    go_wp2_with fail
    refine (clone_any [0] _ (by simp)).mono ?_
    rintro e w2 ⟨rfl, hb2⟩
    go_wp2
    go_ret
    exact ⟨ret_str HP.out.symm, hb.trans (hb2.mono hb.size)⟩
  | cons l ls =>
    obtain ⟨hk, h0, h1, hp⟩ := Nm.parent_cons hl
    have hc : ((⟨n.toArray⟩ : ByteArray)[0]'hk) = n[0] := rfl
    have HL := Lib.hid hl
    have HP := Lib.hid hp
    clear hl hp
    go_enter Tryd.func21, Tryd.ntmps21
    go_wp2_with fail
    refine (count_any _ _ hs).mono ?_
    rw [HL.out]
    rintro e w1 ⟨rfl, hb⟩
    have hsl := run_from (P := Tryd.prog) Tryd.underlying9 (l := n) (l' := n.drop (1 + l.length)) (lo := 1 + (l.length : Int)) (by omega) (by omega) (by first | rfl | (congr 1; omega)) w1
    go_wp2_with fail
    refine (clone_any (n.drop (1 + l.length)) _ (by simp; omega)).mono ?_
    rintro e w2 ⟨rfl, hb2⟩
    go_wp2
    go_ret
    exact ⟨ret_str HP.out.symm, hb.trans (hb2.mono hb.size)⟩
end Go.Proofs.YtiodfiegknkceaaDoor
