/- ArenaCosts of package freshetlaw6 (a block takes the least power of two from 16 on that it and its header fit into) returns true at every number, and it reads as it did: the given card.
   Conditions: those of the row and of its card, none beside. -/
import Derived.Test.YtdbaocphglijbaaDoorJB15
import Derived.Test.YtdbaocphglijbaaDoorJB16
/- ArenaCosts. -/
set_option maxRecDepth 100000
namespace Go.Proofs.YtdbaocphglijbaaDoor
open Go.RowKit Go.Shelf
theorem cost_cases (k : Nat) (hk : k ≤ 4096) : (k ≤ 8 ∧ Ar.cost k = 16) ∨ (8 < k ∧ k ≤ 24 ∧ Ar.cost k = 32) ∨ (24 < k ∧ k ≤ 56 ∧ Ar.cost k = 64) ∨ (56 < k ∧ k ≤ 120 ∧ Ar.cost k = 128) ∨ (120 < k ∧ k ≤ 248 ∧ Ar.cost k = 256) ∨ (248 < k ∧ k ≤ 504 ∧ Ar.cost k = 512) ∨ (504 < k ∧ k ≤ 1016 ∧ Ar.cost k = 1024) ∨ (1016 < k ∧ k ≤ 2040 ∧ Ar.cost k = 2048) ∨ (2040 < k ∧ k ≤ 4088 ∧ Ar.cost k = 4096) ∨ (4088 < k ∧ Ar.cost k = 8192) := by
  unfold Ar.cost
  by_cases h1 : k ≤ 8
  · simp [h1]
  by_cases h2 : k ≤ 24
  · simp [h1, h2]; omega
  by_cases h3 : k ≤ 56
  · simp [h1, h2, h3]; omega
  by_cases h4 : k ≤ 120
  · simp [h1, h2, h3, h4]; omega
  by_cases h5 : k ≤ 248
  · simp [h1, h2, h3, h4, h5]; omega
  by_cases h6 : k ≤ 504
  · simp [h1, h2, h3, h4, h5, h6]; omega
  by_cases h7 : k ≤ 1016
  · simp [h1, h2, h3, h4, h5, h6, h7]; omega
  by_cases h8 : k ≤ 2040
  · simp [h1, h2, h3, h4, h5, h6, h7, h8]; omega
  by_cases h9 : k ≤ 4088
  · simp [h1, h2, h3, h4, h5, h6, h7, h8, h9]; omega
  · simp [h1, h2, h3, h4, h5, h6, h7, h8, h9]; omega
set_option maxHeartbeats 4000000 in
theorem costs_out (n : Int) (w : World) (hT : TabOk w) (hn : n < 0 ∨ 4096 < n) : Calls Tryd.prog 5 #[.int .i64 n] w fun e w' => e = .returned (.bool true) ∧ Below w.heap.size w w' := by
  have HC := Lib.hid (show ∀ W, Calls Tryd.prog 30 #[.int .i64 n] W fun e w' => e = .returned (.int .i64 0) ∧ W = w' from fun W => by
    have h := cost_any n W
    rw [show Ar.costI n = 0 by unfold Ar.costI; rw [if_neg (by omega)]] at h
    exact h)
  have HT := Lib.hid hT
  clear hT
  go_enter Tryd.func5, Tryd.ntmps5
  by_cases h0 : n < 0
  · go_wp2_with (first
      | (go_at_call 30; with_reducible refine (HC.out _).mono ?_; rintro e w' ⟨rfl, rfl⟩)
      | (go_at_call 14; with_reducible refine (awake_any _ HT.out).mono ?_; rintro e w' ⟨rfl, hb⟩))
    go_ret
    exact ⟨rfl, hb⟩
  · have h1 : 4096 < n := by omega
    go_wp2_with (first
      | (go_at_call 30; with_reducible refine (HC.out _).mono ?_; rintro e w' ⟨rfl, rfl⟩)
      | (go_at_call 14; with_reducible refine (awake_any _ HT.out).mono ?_; rintro e w' ⟨rfl, hb⟩))
    go_ret
    exact ⟨rfl, hb⟩
set_option maxHeartbeats 4000000 in
theorem costs_one (k c : Nat) (w : World) (hT : TabOk w) (hk : k ≤ 4096) (hc : Ar.cost k = c) (h16 : 16 < c) (hcm : c ≤ 8192) (hand : bits .and .i64 (c : Int) ((c : Int) - 1) = 0) (h8 : k + 8 ≤ c) (hh : c / 2 < k + 8) : Calls Tryd.prog 5 #[.int .i64 (k : Int)] w fun e w' => e = .returned (.bool true) ∧ Below w.heap.size w w' := by
  have HC := Lib.hid (fun W => cost_at k c W hk hc)
  have HT := Lib.hid hT
  have n1 : ¬ (k : Int) < 0 := by omega
  have n2 : ¬ (4096 : Int) < k := by omega
  have n3 : ((c : Int) == 16) = false := by rw [beq_eq_false_iff_ne]; omega
  have n4 : (16 : Int) ≤ c := by omega
  have n5 : (k : Int) + 8 ≤ c := by omega
  have n6 : (c : Int).tdiv 2 < (k : Int) + 8 := by rw [show (c : Int).tdiv 2 = ((c / 2 : Nat) : Int) from rfl]; omega
  clear hT hc
  go_enter Tryd.func5, Tryd.ntmps5
  go_wp2_with (first
      | (go_at_call 30; with_reducible refine (HC.out _).mono ?_; rintro e w' ⟨rfl, rfl⟩)
      | (go_at_call 14; with_reducible refine (awake_any _ HT.out).mono ?_; rintro e w' ⟨rfl, hb⟩))
  go_ret
  exact ⟨rfl, hb⟩
set_option maxHeartbeats 4000000 in
theorem costs_16 (k : Nat) (w : World) (hT : TabOk w) (hk : k ≤ 8) : Calls Tryd.prog 5 #[.int .i64 (k : Int)] w fun e w' => e = .returned (.bool true) ∧ Below w.heap.size w w' := by
  have hc : Ar.cost k = 16 := by unfold Ar.cost; rw [if_pos hk]
  have HC := Lib.hid (fun W => cost_at k 16 W (by omega) hc)
  have HT := Lib.hid hT
  have n1 : ¬ (k : Int) < 0 := by omega
  have n2 : ¬ (4096 : Int) < k := by omega
  have n5 : (k : Int) + 8 ≤ 16 := by omega
  clear hT hc
  go_enter Tryd.func5, Tryd.ntmps5
  go_wp2_with (first
      | (go_at_call 30; with_reducible refine (HC.out _).mono ?_; rintro e w' ⟨rfl, rfl⟩)
      | (go_at_call 14; with_reducible refine (awake_any _ HT.out).mono ?_; rintro e w' ⟨rfl, hb⟩))
  go_ret
  exact ⟨rfl, hb⟩
theorem costs_any (n : Int) (w : World) (hT : TabOk w) : Calls Tryd.prog 5 #[.int .i64 n] w fun e w' => e = .returned (.bool true) ∧ Below w.heap.size w w' := by
  by_cases hn : n < 0 ∨ 4096 < n
  · exact costs_out n w hT hn
  · obtain ⟨k, rfl⟩ : ∃ k : Nat, n = (k : Int) := ⟨n.toNat, by omega⟩
    have hk : k ≤ 4096 := by omega
    rcases cost_cases k hk with ⟨h1, hc⟩ | ⟨h1, h2, hc⟩ | ⟨h1, h2, hc⟩ | ⟨h1, h2, hc⟩ | ⟨h1, h2, hc⟩ | ⟨h1, h2, hc⟩ | ⟨h1, h2, hc⟩ | ⟨h1, h2, hc⟩ | ⟨h1, h2, hc⟩ | ⟨h1, hc⟩
    · exact costs_16 k w hT h1
    all_goals exact costs_one k _ w hT hk hc (by omega) (by omega) (by decide) (by omega) (by omega)
end Go.Proofs.YtdbaocphglijbaaDoor

/- ArenaCosts of package freshetlaw6 (a block takes the least power of two from 16 on that it and its header fit into) returns true at every number, and it reads as it did: the given card.
   Conditions: those of the row and of its card, none beside. -/
set_option maxRecDepth 100000
namespace Go.Proofs.YtdbaocphglijbaaDoor.arenaCosts
open Go.ChangeShapes Go.WideShapes Go.ChangeAt Go.RowKit

theorem contract (H : Type) (enc : TypeId × Value → H) (W : World) (base : Nat) (args : Array Value) (ds gs : List (DataW H)) (before : List MemPlace)
    (hval : ∀ (j : Nat) t v, Tryd.f5.params[j]? = some t → args[j]? = some v → Value.okWide Tryd.prog W .any base t v)
    (hW : DataW.Whole enc Tryd.prog Tryd.f5.params.toList Rows.arenaCostsSpec.vars false W args.toList ds gs before) (hL : laidMetH Tryd.prog laidList W) :
    Calls Tryd.prog 5 args W fun e W' => ∃ v, e = .returned v ∧ Rows.arenaCostsSpec.post enc Tryd.prog Tryd.f5 false true false false W args v W' := by
  have hW' := hW
  obtain ⟨p, q, hA0, hV, rfl, _, _⟩ := hW
  have hA : DataW.TrodAll enc Tryd.prog W 0 (fun _ => true) true Tryd.f5.params.toList args.toList ds p := hA0
  clear hA0
  rw [Tryd.params5] at hA hval
  obtain ⟨v0, vs0, d0, ds0, p0, q0, hargs0, rfl, rfl, h0, r0⟩ := trodAll_cons hA
  obtain ⟨rfl, rfl, rfl⟩ := trodAll_nil r0
  obtain rfl : args = #[v0] := by cases args; simp_all
  obtain ⟨rfl, rfl⟩ := trodVars_none hV
  obtain ⟨z0, rfl, hz0⟩ := arg_int (hval 0 _ _ rfl rfl) h0
  have hL' := tabOk hL
  refine (costs_any z0 W hL').mono fun e W' ⟨he, hbl⟩ => ?_
  exact ⟨_, he, law_post hW' rfl hbl rfl rfl (fun t ht => readT t (by rw [Tryd.params5] at ht; exact (show ∀ t ∈ (#[3] : Array TypeId).toList, t ∈ [3, 54] by decide) t ht))⟩

theorem reads (os : Os) {H : Type} (enc : TypeId × Value → H) : ∃ places, DataW.whole enc Tryd.prog ((laidWorld os).forCall (fun _ _ => 0) ⟨#[], #[.int .i64 0], []⟩).memory Tryd.f5.params.toList Rows.arenaCostsSpec.vars false (#[.int .i64 0] : Array Value).toList 8 = some ([.lit (.int .i64 0)], [], places) :=
  ⟨[], by kernel_rfl⟩

set_option maxRecDepth 100000 in
theorem lifted (os : Os) (started : os.Started) (H : Type) (enc : TypeId × Value → H) (F : Stop.Interp) :
    ReturnsInHanded {} Tryd.checked os 5 .any ((OpenSpec.ofChange Rows.arenaCostsSpec).preRow enc Tryd.prog Tryd.f5 Rows.arenaCostsRow.domain false Rows.arenaCostsRow.laid) (((OpenSpec.ofChange Rows.arenaCostsSpec).at F).post enc Tryd.prog Tryd.f5 false true false false) := by
  obtain ⟨places, hx⟩ := reads os enc
  refine returnsInHanded_of_row (C := Tryd.checked) (s := OpenSpec.ofChange Rows.arenaCostsSpec) own started (by kernel_rfl) Tryd.func5
    (witness_row_atRef (enc := enc) (C := Tryd.checked) false (laidWorld os) #[.int .i64 0] rfl (by kernel_rfl) (by kernel_rfl) (by kernel_rfl)
      (OpenSpec.preRow_of_cond 8 hx (by kernel_rfl) (fun k hk => by cases hk) (by kernel_rfl) (laid_met os _))) ?_
  intro W base args ds gs before hval hW _ _ _ hL _ _
  exact contract H enc W base args ds gs before hval hW hL

theorem said : Rows.ArenaCostsSaid :=
  OpenClaim.holds_of_cond 5 Tryd.f5 rfl rfl rfl rfl rfl rfl rfl ⟨rfl, rfl, rfl, rfl, rfl⟩ rfl rfl rfl rfl rfl (by kernel_rfl) Tryd.func5 (by kernel_rfl)
    (of_decide_eq_true (by kernel_rfl)) (by unfold Func.isWrapper; first | (rw [if_pos (by decide +kernel)]; kernel_rfl) | (rw [if_neg (by decide +kernel)]; exact ⟨rfl, rfl⟩))
    (fun os started H enc _ F => by rw [OpenClaim.pre_eq_preRow]; exact lifted os started H enc F)

/-- No parameter wants a stand-in; the looks are as the card has them. -/
theorem plain (f : FuncId) (fn : Func) (hf : Tryd.pinned.checked.prog.funcNamed "freshet/freshetlaw6.ArenaCosts" = some f) (hfn : Tryd.pinned.checked.prog.funcs[f]? = some fn) :
    false = Tryd.pinned.checked.prog.looks [] ∧ ∀ (j : Nat) t, fn.params[j]? = some t → Tryd.pinned.checked.prog.wantsStandIn t = false := by
  obtain rfl : f = 5 := Option.some.inj ((show Tryd.prog.funcNamed "freshet/freshetlaw6.ArenaCosts" = some 5 by kernel_rfl).symm.trans hf) |>.symm
  obtain rfl : fn = Tryd.f5 := (Option.some.inj (Tryd.func5.symm.trans hfn)).symm
  refine ⟨by kernel_rfl, fun j t ht => ?_⟩
  rw [Tryd.params5] at ht
  exact standT t ((show ∀ t ∈ (#[3] : Array TypeId).toList, t ∈ [3, 54] by decide) t (Array.mem_toList_iff.2 (Array.mem_of_getElem? ht)))

theorem card : Rows.ArenaCostsCardSaid :=
  Claim7.holds_tied_plain_at .later [] _ _ _ _ said (fun _ h => by cases h) (by kernel_rfl) (fun _ h => by cases h) arenaCosts_row_tie rfl ⟨rfl, rfl⟩ (by kernel_rfl) rfl plain (by kernel_rfl)
end Go.Proofs.YtdbaocphglijbaaDoor.arenaCosts
