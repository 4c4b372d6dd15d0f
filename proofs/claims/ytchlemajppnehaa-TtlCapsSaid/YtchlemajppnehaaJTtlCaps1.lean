/- What is capped is no more than either, nor below 0, and one of both, or 0; of a negative one the least of three.
   Conditions: those of the row, none beside. -/
import Derived.Test.YtchlemajppnehaaJB4
/- The laws of chapter 11: TtlCaps. -/
set_option maxRecDepth 100000
namespace Go.Proofs.Ytchlemajppnehaa
open Go Go.RowKit Go.Shelf
section
variable {a b c : Int} {w : World}
theorem Tt.caps (a b : Int) : (Tt.cap a b = 0) ∨ (Tt.cap a b = a ∧ 0 < a ∧ a ≤ b) ∨ (Tt.cap a b = b ∧ 0 < b ∧ b < a) := by unfold Tt.cap; omega
theorem Tt.cap_comm (a b : Int) : Tt.cap b a = Tt.cap a b := by unfold Tt.cap; omega
theorem Tt.least3 (a b c : Int) : Tt.least [a, b, c] = min (min a b) c := rfl
theorem Tt.cap3 (a b c : Int) : Tt.cap (min (min a b) c) c = Tt.cap (min a b) c := by unfold Tt.cap; omega
set_option maxHeartbeats 8000000 in
theorem caps11_any (a b c : Int) (w : World) : Calls Try.prog 6 #[.int .i64 a, .int .i64 b, .int .i64 c] w fun e w' => e = .returned (.bool true) ∧ Below w.heap.size w w' := by
  have hcs := Tt.caps a b
  have C1 := cap_any a b w
  have C2 := cap_any b a w
  rw [Tt.cap_comm a b] at C2
  generalize Tt.cap a b = n at *
  have N1 := negative_any a b c w
  generalize hq : Tt.cap (min a b) c = q at *
  have rest : ∀ w1, Below w.heap.size w w1 → Below w1.heap.size w1 (w1.alloc (.cells #[.int .i64 a, .int .i64 b, .int .i64 c] 3)) ∧ Calls Try.prog 16 #[.slice (some ⟨w1.heap.size, 0, none⟩) 3 3] (w1.alloc (.cells #[.int .i64 a, .int .i64 b, .int .i64 c] 3)) fun e w' => e = .returned (.int .i64 (min (min a b) c)) ∧ (w1.alloc (.cells #[.int .i64 a, .int .i64 b, .int .i64 c] 3)) = w' := fun w1 _ =>
    ⟨(Below.refl _ _).alloc (Nat.le_refl _) _, least_any (RK.litT (enc := encZ) [a, b, c] 3 w1 _ rfl #[.int .i64 a, .int .i64 b, .int .i64 c] rfl 3 rfl) (by simp)⟩
  have C3 := fun w => cap_any (min (min a b) c) c w
  rw [Tt.cap3, hq] at C3
  have N2 := fun w => negative_any a b c w
  have N3 := fun w => negative_any b a c w
  rw [show min b a = min a b by omega] at N3
  rw [hq] at N2 N3
  clear hq
  generalize min (min a b) c = m at *
  have R := Lib.hid rest
  have HC3 := Lib.hid C3
  have HN2 := Lib.hid N2
  have HN3 := Lib.hid N3
  clear rest C3 N2 N3
  rcases hcs with rfl | ⟨rfl, h1, h2⟩ | ⟨rfl, h1, h2⟩
  · by_cases ha : (0 : Int) = a
    · have d1 : ((0 : Int) != a) = false := by rw [bne_eq_false_iff_eq]; exact ha
      clear ha
      go_enter Try.func6, Try.ntmps6
      go_wp2_with fail
      refine C1.mono ?_
      rintro e w1 ⟨rfl, rfl⟩
      go_wp2_with fail
      refine C2.mono ?_
      rintro e w1 ⟨rfl, rfl⟩
      go_wp2_with fail
      refine N1.mono ?_
      rintro e w1 ⟨rfl, b1⟩
      go_wp2_with fail
      obtain ⟨b2, r2⟩ := R.out w1 b1
      refine r2.mono ?_
      rintro e w2 ⟨rfl, rfl⟩
      clear r2
      go_wp2_with fail
      refine (HC3.out _).mono ?_
      rintro e w2 ⟨rfl, rfl⟩
      go_wp2_with fail
      refine (HN2.out _).mono ?_
      rintro e w3 ⟨rfl, b3⟩
      go_wp2_with fail
      refine (HN3.out _).mono ?_
      rintro e w4 ⟨rfl, b4⟩
      go_wp2_with fail
      refine (awake11_any _).mono ?_
      rintro e w5 ⟨rfl, b5⟩
      go_wp2
      go_ret
      exact ⟨rfl, below_trans (below_trans (below_trans (below_trans b1 b2) b3) b4) b5⟩
    · have d1 : ((0 : Int) != a) = true := by rw [bne_iff_ne]; exact ha
      clear ha
      by_cases hb : (0 : Int) = b
      · have d2 : ((0 : Int) != b) = false := by rw [bne_eq_false_iff_eq]; exact hb
        clear hb
        go_enter Try.func6, Try.ntmps6
        go_wp2_with fail
        refine C1.mono ?_
        rintro e w1 ⟨rfl, rfl⟩
        go_wp2_with fail
        refine C2.mono ?_
        rintro e w1 ⟨rfl, rfl⟩
        go_wp2_with fail
        refine N1.mono ?_
        rintro e w1 ⟨rfl, b1⟩
        go_wp2_with fail
        obtain ⟨b2, r2⟩ := R.out w1 b1
        refine r2.mono ?_
        rintro e w2 ⟨rfl, rfl⟩
        clear r2
        go_wp2_with fail
        refine (HC3.out _).mono ?_
        rintro e w2 ⟨rfl, rfl⟩
        go_wp2_with fail
        refine (HN2.out _).mono ?_
        rintro e w3 ⟨rfl, b3⟩
        go_wp2_with fail
        refine (HN3.out _).mono ?_
        rintro e w4 ⟨rfl, b4⟩
        go_wp2_with fail
        refine (awake11_any _).mono ?_
        rintro e w5 ⟨rfl, b5⟩
        go_wp2
        go_ret
        exact ⟨rfl, below_trans (below_trans (below_trans (below_trans b1 b2) b3) b4) b5⟩
      · have d2 : ((0 : Int) != b) = true := by rw [bne_iff_ne]; exact hb
        clear hb
        go_enter Try.func6, Try.ntmps6
        go_wp2_with fail
        refine C1.mono ?_
        rintro e w1 ⟨rfl, rfl⟩
        go_wp2_with fail
        refine C2.mono ?_
        rintro e w1 ⟨rfl, rfl⟩
        go_wp2_with fail
        refine N1.mono ?_
        rintro e w1 ⟨rfl, b1⟩
        go_wp2_with fail
        obtain ⟨b2, r2⟩ := R.out w1 b1
        refine r2.mono ?_
        rintro e w2 ⟨rfl, rfl⟩
        clear r2
        go_wp2_with fail
        refine (HC3.out _).mono ?_
        rintro e w2 ⟨rfl, rfl⟩
        go_wp2_with fail
        refine (HN2.out _).mono ?_
        rintro e w3 ⟨rfl, b3⟩
        go_wp2_with fail
        refine (HN3.out _).mono ?_
        rintro e w4 ⟨rfl, b4⟩
        go_wp2_with fail
        refine (awake11_any _).mono ?_
        rintro e w5 ⟨rfl, b5⟩
        go_wp2
        go_ret
        exact ⟨rfl, below_trans (below_trans (below_trans (below_trans b1 b2) b3) b4) b5⟩
  · have d1 : decide (n < 0) = false := by simp; omega
    have d2 : decide (0 < n) = true := by simp; omega
    have d3 : decide (n < n) = false := by simp
    have d4 : decide (b < n) = false := by simp; omega
    have d5 : (n != n) = false := by simp
    clear h1 h2
    go_enter Try.func6, Try.ntmps6
    go_wp2_with fail
    refine C1.mono ?_
    rintro e w1 ⟨rfl, rfl⟩
    go_wp2_with fail
    refine C2.mono ?_
    rintro e w1 ⟨rfl, rfl⟩
    go_wp2_with fail
    refine N1.mono ?_
    rintro e w1 ⟨rfl, b1⟩
    go_wp2_with fail
    obtain ⟨b2, r2⟩ := R.out w1 b1
    refine r2.mono ?_
    rintro e w2 ⟨rfl, rfl⟩
    clear r2
    go_wp2_with fail
    refine (HC3.out _).mono ?_
    rintro e w2 ⟨rfl, rfl⟩
    go_wp2_with fail
    refine (HN2.out _).mono ?_
    rintro e w3 ⟨rfl, b3⟩
    go_wp2_with fail
    refine (HN3.out _).mono ?_
    rintro e w4 ⟨rfl, b4⟩
    go_wp2_with fail
    refine (awake11_any _).mono ?_
    rintro e w5 ⟨rfl, b5⟩
    go_wp2
    go_ret
    exact ⟨rfl, below_trans (below_trans (below_trans (below_trans b1 b2) b3) b4) b5⟩
  · have d1 : decide (n < 0) = false := by simp; omega
    have d2 : decide (0 < n) = true := by simp; omega
    have d3 : decide (n < n) = false := by simp
    have d4 : decide (a < n) = false := by simp; omega
    have d5 : (n != n) = false := by simp
    have d6 : (n != a) = true := by rw [bne_iff_ne]; omega
    clear h1 h2
    go_enter Try.func6, Try.ntmps6
    go_wp2_with fail
    refine C1.mono ?_
    rintro e w1 ⟨rfl, rfl⟩
    go_wp2_with fail
    refine C2.mono ?_
    rintro e w1 ⟨rfl, rfl⟩
    go_wp2_with fail
    refine N1.mono ?_
    rintro e w1 ⟨rfl, b1⟩
    go_wp2_with fail
    obtain ⟨b2, r2⟩ := R.out w1 b1
    refine r2.mono ?_
    rintro e w2 ⟨rfl, rfl⟩
    clear r2
    go_wp2_with fail
    refine (HC3.out _).mono ?_
    rintro e w2 ⟨rfl, rfl⟩
    go_wp2_with fail
    refine (HN2.out _).mono ?_
    rintro e w3 ⟨rfl, b3⟩
    go_wp2_with fail
    refine (HN3.out _).mono ?_
    rintro e w4 ⟨rfl, b4⟩
    go_wp2_with fail
    refine (awake11_any _).mono ?_
    rintro e w5 ⟨rfl, b5⟩
    go_wp2
    go_ret
    exact ⟨rfl, below_trans (below_trans (below_trans (below_trans b1 b2) b3) b4) b5⟩
end
end Go.Proofs.Ytchlemajppnehaa

/- What is capped is no more than either, nor below 0, and one of both, or 0; of a negative one the least of three.
   Conditions: those of the row, none beside. -/
namespace Go.Proofs.Ytchlemajppnehaa.ttlCaps
open Go.ChangeShapes Go.WideShapes Go.ChangeAt Go.RowKit

set_option maxRecDepth 100000 in
theorem contract (H : Type) (enc : TypeId × Value → H) (W : World) (base : Nat) (args : Array Value) (ds gs : List (DataW H)) (before : List MemPlace)
    (hval : ∀ (j : Nat) t v, Try.f6.params[j]? = some t → args[j]? = some v → Value.okWide Try.prog W .any base t v)
    (hW : DataW.Whole enc Try.prog Try.f6.params.toList Rows.ttlCapsSpec.vars false W args.toList ds gs before) (_hL : laidMetH Try.prog laidList W) :
    Calls Try.prog 6 args W fun e W' => ∃ v, e = .returned v ∧ Rows.ttlCapsSpec.post enc Try.prog Try.f6 false true false false W args v W' := by
  have hW' := hW
  obtain ⟨p, q, hA0, hV, rfl, _, _⟩ := hW
  have hA : DataW.TrodAll enc Try.prog W 0 (fun _ => true) true Try.f6.params.toList args.toList ds p := hA0
  clear hA0
  rw [Try.params6] at hA hval
  obtain ⟨v0, vs0, d0, ds0, p0, q0, hargs0, rfl, rfl, h0, r0⟩ := trodAll_cons hA
  obtain ⟨v1, vs1, d1, ds1, p1, q1, hargs1, rfl, rfl, h1, r1⟩ := trodAll_cons r0
  subst hargs1
  obtain ⟨v2, vs2, d2, ds2, p2, q2, hargs2, rfl, rfl, h2, r2⟩ := trodAll_cons r1
  subst hargs2
  obtain ⟨rfl, rfl, rfl⟩ := trodAll_nil r2
  obtain rfl : args = #[v0, v1, v2] := by cases args; simp_all
  obtain ⟨rfl, rfl⟩ := trodVars_none hV
  obtain ⟨z0, rfl, hz0⟩ := arg_int (hval 0 _ _ rfl rfl) h0
  obtain ⟨z1, rfl, hz1⟩ := arg_int (hval 1 _ _ rfl rfl) h1
  obtain ⟨z2, rfl, hz2⟩ := arg_int (hval 2 _ _ rfl rfl) h2
  refine (caps11_any z0 z1 z2 W).mono fun e W' ⟨he, hbl⟩ => ?_
  exact ⟨_, he, law_post hW' rfl hbl rfl rfl (fun t ht => readT11 t (by rw [Try.params6] at ht; exact (show ∀ t ∈ (#[3, 3, 3] : Array TypeId).toList, t ∈ [3, 22] by decide) t ht))⟩

set_option maxRecDepth 100000 in
theorem reads (os : Os) {H : Type} (enc : TypeId × Value → H) : ∃ places, DataW.whole enc Try.prog ((laidWorld os).forCall (fun _ _ => 0) ⟨#[], #[.int .i64 0, .int .i64 0, .int .i64 0], []⟩).memory Try.f6.params.toList Rows.ttlCapsSpec.vars false (#[.int .i64 0, .int .i64 0, .int .i64 0] : Array Value).toList 8 = some ([.lit (.int .i64 0), .lit (.int .i64 0), .lit (.int .i64 0)], [], places) :=
  ⟨[], by kernel_rfl⟩

set_option maxRecDepth 100000 in
theorem lifted (os : Os) (started : os.Started) (H : Type) (enc : TypeId × Value → H) (F : Stop.Interp) :
    ReturnsInHanded {} Try.checked os 6 .any ((OpenSpec.ofChange Rows.ttlCapsSpec).preRow enc Try.prog Try.f6 Rows.ttlCapsRow.domain false Rows.ttlCapsRow.laid) (((OpenSpec.ofChange Rows.ttlCapsSpec).at F).post enc Try.prog Try.f6 false true false false) := by
  obtain ⟨places, hx⟩ := reads os enc
  refine returnsInHanded_of_row (C := Try.checked) (s := OpenSpec.ofChange Rows.ttlCapsSpec) own started (by kernel_rfl) Try.func6
    (witness_row_atRef (enc := enc) (C := Try.checked) false (laidWorld os) #[.int .i64 0, .int .i64 0, .int .i64 0] rfl (by kernel_rfl) (by kernel_rfl) (by kernel_rfl)
      (OpenSpec.preRow_of_cond 8 hx (by kernel_rfl) (fun k hk => by cases hk) (by kernel_rfl) (laid_met os _))) ?_
  intro W base args ds gs before hval hW _ _ _ hL _ _
  exact contract H enc W base args ds gs before hval hW hL

theorem said : Rows.TtlCapsSaid :=
  OpenClaim.holds_of_cond 6 Try.f6 rfl rfl rfl rfl rfl rfl rfl ⟨rfl, rfl, rfl, rfl, rfl⟩ rfl rfl rfl rfl rfl (by kernel_rfl) Try.func6 (by kernel_rfl)
    (of_decide_eq_true (by kernel_rfl)) (by unfold Func.isWrapper; first | (rw [if_pos (by decide +kernel)]; kernel_rfl) | (rw [if_neg (by decide +kernel)]; exact ⟨rfl, rfl⟩))
    (fun os started H enc _ F => by rw [OpenClaim.pre_eq_preRow]; exact lifted os started H enc F)
end Go.Proofs.Ytchlemajppnehaa.ttlCaps
