/- Where something is handed on with what is left, again and again, it holds no longer than it did at first.
   Conditions: those of the row, none beside. -/
import Derived.Test.YtchlemajppnehaaJB4
/- The laws of chapter 11: TtlRow. -/
set_option maxRecDepth 100000
namespace Go.Proofs.Ytchlemajppnehaa
open Go Go.RowKit Go.Shelf
section
variable {n now k : Int} {l : List Int} {v : Value} {x : Nat → Prop} {w : World}
theorem Tt.row1 (h1 : 0 ≤ n) (h2 : n ≤ 2147483648) (h3 : 0 ≤ now) (h4 : now ≤ 30000) : Tt.expiry now (max (n - now) 0) = now + max (n - now) 0 := by unfold Tt.expiry; omega
theorem Tt.row2 (h1 : 0 ≤ n) (h2 : n ≤ 2147483648) (h3 : 0 ≤ now) (h4 : now ≤ 30000) (h5 : 0 ≤ k) : Tt.left (now + max (n - now) 0) (now + k) = max (n - (now + k)) 0 := by unfold Tt.left; split <;> omega
theorem Tt.row3 (h1 : 0 ≤ n) (h2 : n ≤ 2147483648) (h3 : 0 < n - now) : Tt.expiry now (n - now) = n := by unfold Tt.expiry; omega
theorem Tt.row0 (h1 : 0 ≤ n) (h2 : n ≤ 2147483648) : Tt.expiry 0 n = n := by unfold Tt.expiry; omega
set_option maxHeartbeats 8000000 in
theorem row11_any (hn : Tt.B n) (hr : RK encZ x v l w) (hx : ∀ k, x k → k < w.heap.size) (hb : ∀ z ∈ l, -9223372036854775808 ≤ z ∧ z ≤ 9223372036854775807) : Calls Try.prog 7 #[.int .i64 n, v] w fun e w' => e = .returned (.bool true) ∧ Below w.heap.size w w' := by
  obtain ⟨ao, cap, rfl, _, _⟩ := hr.form
  by_cases h1 : 0 ≤ n ∧ n ≤ 2147483648 ∧ l.length ≤ 30
  · obtain ⟨h1, h2, h3⟩ := h1
    have d1 : decide (n < 0) = false := by simp; omega
    have d2 : decide (2147483648 < n) = false := by simp; omega
    have d3 : decide ((30 : Int) < (l.length : Int)) = false := by simp; omega
    have E0 := expiry_any (a := 0) ⟨by decide, by decide⟩ hn w
    rw [Tt.row0 h1 h2] at E0
    go_enter Try.func7, Try.ntmps7
    go_wp2_with (go_at_call 12; refine E0.mono ?_; rintro e w1 ⟨rfl, rfl⟩)
    clear d1 d2 d3 E0
    go_loopw [5, 6, 8] (fun now left i wr => ∃ (j : Nat) (t : Int), j ≤ l.length ∧ 0 ≤ t ∧ t ≤ 1000 * (j : Int) ∧ i = .int .i64 (j : Int) ∧ now = .int .i64 t ∧ left = .int .i64 (max (n - t) 0) ∧ wr = w) (fun _ _ i _ => l.length + 1 - (intOf i).toNat)
    case atStart => exact ⟨0, 0, by omega, by omega, by omega, rfl, rfl, congrArg _ (by omega), rfl⟩
    case round =>
      obtain ⟨j, t, hj, ht0, ht1, rfl, rfl, rfl, rfl⟩ := hrel
      by_cases hlt : j < l.length
      · obtain ⟨b, off, rfl, c0⟩ := rk_cell hr hlt
        have d1 : decide ((j : Int) < (l.length : Int)) = true := by simpa using hlt
        obtain ⟨z1, z2⟩ := hb l[j] (List.getElem_mem hlt)
        generalize l[j] = z at *
        obtain ⟨r1, r2⟩ := roundI_bounds z 1000 (by omega)
        have R := round_any z 1000 wr (by omega) (by omega) z1 z2
        generalize roundI z 1000 = k at *
        have bt : Tt.B t := ⟨by omega, by omega⟩
        have bl : Tt.B (max (n - t) 0) := ⟨by omega, by omega⟩
        have be : Tt.B (t + max (n - t) 0) := ⟨by omega, by omega⟩
        have bk : Tt.B (t + k) := ⟨by omega, by omega⟩
        have E1 := expiry_any bt bl wr
        rw [Tt.row1 h1 h2 ht0 (by omega)] at E1
        have L1 := left_any be bk wr
        have O1 := tover_any be bk wr
        rw [Tt.row2 h1 h2 ht0 (by omega) r1] at L1 O1
        have hrow := fun (h : 0 < n - (t + k)) => Tt.row3 (now := t + k) h1 h2 h
        obtain ⟨D, hD⟩ : ∃ D, t + max (n - t) 0 = D := ⟨_, rfl⟩
        rw [hD] at be E1 L1 O1
        obtain ⟨s, hs⟩ : ∃ s, t + k = s := ⟨_, rfl⟩
        rw [hs] at bk L1 O1 hrow
        obtain ⟨d, hd⟩ : ∃ d, n - s = d := ⟨_, rfl⟩
        have e1 : IntKind.i64.wrap (t + k) = s := by rw [hs]; exact hs ▸ IntWalk.i64_in _ (by omega)
        have e2 : IntKind.i64.wrap (n - s) = d := by rw [hd]; exact hd ▸ IntWalk.i64_in _ (by omega)
        have X1 := fun (h : 0 < d) => expiry_any (a := s) (b := d) bk ⟨by omega, by omega⟩ wr
        rw [hd] at L1 O1 hrow
        have hs2 : 0 ≤ s ∧ s ≤ 1000 * ((j : Int) + 1) := by omega
        have HS2 := Lib.hid hs2
        have HD := Lib.hid hd
        clear be bk bt bl hD hs hs2 z1 z2 r1 r2 hn hd
        rcases Int.lt_trichotomy (d) 0 with hq | hq | hq
        · have m0 : max d 0 = 0 := by omega
          rw [m0] at L1 O1
          have M0 := Lib.hid m0
          have HQ := Lib.hid hq
          have d5 : decide (d < 0) = true := by simpa using hq
          have d6 : decide (0 ≤ d) = false := by simp; omega
          clear X1 hrow m0 hq
          go_wp2_with fail
          refine R.mono ?_
          rintro e w1 ⟨rfl, rfl⟩
          go_wp2_with fail
          refine E1.mono ?_
          rintro e w1 ⟨rfl, rfl⟩
          go_wp2_with fail
          refine L1.mono ?_
          rintro e w1 ⟨rfl, rfl⟩
          clear R E1 L1
          go_wp2_with (go_at_call 18; refine O1.mono ?_; rintro e w1 ⟨rfl, rfl⟩)
          all_goals first
            | (exfalso; have := HQ.out; omega)
            | skip
          go_roundw
          case rel => exact ⟨j + 1, s, by omega, HS2.out.1, by have := HS2.out.2; push_cast; exact this, by go_num, rfl, by rw [HD.out, M0.out], trivial⟩
          case measure => simp [intOf]; omega
        · have m0 : max d 0 = 0 := by omega
          rw [m0] at L1 O1
          have M0 := Lib.hid m0
          have HQ := Lib.hid hq
          clear X1 hrow m0
          subst hq
          go_wp2_with fail
          refine R.mono ?_
          rintro e w1 ⟨rfl, rfl⟩
          go_wp2_with fail
          refine E1.mono ?_
          rintro e w1 ⟨rfl, rfl⟩
          go_wp2_with fail
          refine L1.mono ?_
          rintro e w1 ⟨rfl, rfl⟩
          clear R E1 L1
          go_wp2_with (go_at_call 18; refine O1.mono ?_; rintro e w1 ⟨rfl, rfl⟩)
          all_goals first
            | (exfalso; have := HQ.out; omega)
            | skip
          go_roundw
          case rel => exact ⟨j + 1, s, by omega, HS2.out.1, by have := HS2.out.2; push_cast; exact this, by go_num, rfl, by rw [HD.out, M0.out], trivial⟩
          case measure => simp [intOf]; omega
        · have m0 : max (d) 0 = d := by omega
          rw [m0] at L1 O1
          have M0 := Lib.hid m0
          have HQ := Lib.hid hq
          have X2 := X1 hq
          rw [hrow hq] at X2
          have d5 : decide (0 < d) = true := by simpa using hq
          have d7 : decide (d < 0) = false := by simp; omega
          have d8 : decide (0 ≤ d) = true := by simp; omega
          have d6 : (d == 0) = false := by rw [beq_eq_false_iff_ne]; omega
          rw [d6] at O1
          clear X1 hrow m0 hq
          go_wp2_with fail
          refine R.mono ?_
          rintro e w1 ⟨rfl, rfl⟩
          go_wp2_with fail
          refine E1.mono ?_
          rintro e w1 ⟨rfl, rfl⟩
          go_wp2_with fail
          refine L1.mono ?_
          rintro e w1 ⟨rfl, rfl⟩
          clear R E1 L1
          go_wp2_with fail
          refine X2.mono ?_
          rintro e w1 ⟨rfl, rfl⟩
          go_wp2_with (go_at_call 18; refine O1.mono ?_; rintro e w1 ⟨rfl, rfl⟩)
          all_goals first
            | (exfalso; have := HQ.out; omega)
            | skip
          go_roundw
          case rel => exact ⟨j + 1, s, by omega, HS2.out.1, by have := HS2.out.2; push_cast; exact this, by go_num, rfl, by rw [HD.out, M0.out], trivial⟩
          case measure => simp [intOf]; omega
      · have d1 : decide ((j : Int) < (l.length : Int)) = false := by simp; omega
        go_wp2_with (go_at_call 9; refine (awake11_any _).mono ?_; rintro e w1 ⟨rfl, b1⟩)
        go_ret
        exact ⟨rfl, b1⟩
  · go_enter Try.func7, Try.ntmps7
    go_wp2_with (go_at_call 9; refine (awake11_any _).mono ?_; rintro e w1 ⟨rfl, b1⟩)
    all_goals first
      | (go_ret; exact ⟨rfl, b1⟩)
      | (exfalso; omega)
end
end Go.Proofs.Ytchlemajppnehaa

/- Where something is handed on with what is left, again and again, it holds no longer than it did at first.
   Conditions: those of the row, none beside. -/
namespace Go.Proofs.Ytchlemajppnehaa.ttlRow
open Go.ChangeShapes Go.WideShapes Go.ChangeAt Go.RowKit

set_option maxRecDepth 100000 in
theorem contract (H : Type) (enc : TypeId × Value → H) (W : World) (base : Nat) (args : Array Value) (ds gs : List (DataW H)) (before : List MemPlace)
    (hval : ∀ (j : Nat) t v, Try.f7.params[j]? = some t → args[j]? = some v → Value.okWide Try.prog W .any base t v)
    (hW : DataW.Whole enc Try.prog Try.f7.params.toList Rows.ttlRowSpec.vars false W args.toList ds gs before) (_hL : laidMetH Try.prog laidList W) :
    Calls Try.prog 7 args W fun e W' => ∃ v, e = .returned v ∧ Rows.ttlRowSpec.post enc Try.prog Try.f7 false true false false W args v W' := by
  have hW' := hW
  obtain ⟨p, q, hA0, hV, rfl, _, _⟩ := hW
  have hA : DataW.TrodAll enc Try.prog W 0 (fun _ => true) true Try.f7.params.toList args.toList ds p := hA0
  clear hA0
  rw [Try.params7] at hA hval
  obtain ⟨v0, vs0, d0, ds0, p0, q0, hargs0, rfl, rfl, h0, r0⟩ := trodAll_cons hA
  obtain ⟨v1, vs1, d1, ds1, p1, q1, hargs1, rfl, rfl, h1, r1⟩ := trodAll_cons r0
  subst hargs1
  obtain ⟨rfl, rfl, rfl⟩ := trodAll_nil r1
  obtain rfl : args = #[v0, v1] := by cases args; simp_all
  obtain ⟨rfl, rfl⟩ := trodVars_none hV
  obtain ⟨z0, rfl, hz0⟩ := arg_int (hval 0 _ _ rfl rfl) h0
  obtain ⟨L1, hr1, hb1, hl1⟩ := arg_ints (hval 1 _ v1 rfl rfl) h1
  refine (row11_any hz0 hr1 (fun _ e => e) hb1).mono fun e W' ⟨he, hbl⟩ => ?_
  exact ⟨_, he, law_post hW' rfl hbl rfl rfl (fun t ht => readT11 t (by rw [Try.params7] at ht; exact (show ∀ t ∈ (#[3, 22] : Array TypeId).toList, t ∈ [3, 22] by decide) t ht))⟩

set_option maxRecDepth 100000 in
theorem reads (os : Os) {H : Type} (enc : TypeId × Value → H) : ∃ places, DataW.whole enc Try.prog ((laidWorld os).forCall (fun _ _ => 0) ⟨#[], #[.int .i64 0, .slice none 0 0], []⟩).memory Try.f7.params.toList Rows.ttlRowSpec.vars false (#[.int .i64 0, .slice none 0 0] : Array Value).toList 8 = some ([.lit (.int .i64 0), .nil], [], places) :=
  ⟨[], by kernel_rfl⟩

set_option maxRecDepth 100000 in
theorem lifted (os : Os) (started : os.Started) (H : Type) (enc : TypeId × Value → H) (F : Stop.Interp) :
    ReturnsInHanded {} Try.checked os 7 .any ((OpenSpec.ofChange Rows.ttlRowSpec).preRow enc Try.prog Try.f7 Rows.ttlRowRow.domain false Rows.ttlRowRow.laid) (((OpenSpec.ofChange Rows.ttlRowSpec).at F).post enc Try.prog Try.f7 false true false false) := by
  obtain ⟨places, hx⟩ := reads os enc
  refine returnsInHanded_of_row (C := Try.checked) (s := OpenSpec.ofChange Rows.ttlRowSpec) own started (by kernel_rfl) Try.func7
    (witness_row_atRef (enc := enc) (C := Try.checked) false (laidWorld os) #[.int .i64 0, .slice none 0 0] rfl (by kernel_rfl) (by kernel_rfl) (by kernel_rfl)
      (OpenSpec.preRow_of_cond 8 hx (by kernel_rfl) (fun k hk => by cases hk) (by kernel_rfl) (laid_met os _))) ?_
  intro W base args ds gs before hval hW _ _ _ hL _ _
  exact contract H enc W base args ds gs before hval hW hL

theorem said : Rows.TtlRowSaid :=
  OpenClaim.holds_of_cond 7 Try.f7 rfl rfl rfl rfl rfl rfl rfl ⟨rfl, rfl, rfl, rfl, rfl⟩ rfl rfl rfl rfl rfl (by kernel_rfl) Try.func7 (by kernel_rfl)
    (of_decide_eq_true (by kernel_rfl)) (by unfold Func.isWrapper; first | (rw [if_pos (by decide +kernel)]; kernel_rfl) | (rw [if_neg (by decide +kernel)]; exact ⟨rfl, rfl⟩))
    (fun os started H enc _ F => by rw [OpenClaim.pre_eq_preRow]; exact lifted os started H enc F)
end Go.Proofs.Ytchlemajppnehaa.ttlRow
