/- ArenaCosts. -/
import Derived.Test.YtkndbldjablhoaaDoorAwm
set_option maxRecDepth 100000
namespace Go.Proofs.YtkndbldjablhoaaDoor
open Go.RowKit Go.Shelf
theorem cost_cases (k : Nat) (hk : k ≤ 4096) : (k ≤ 8 ∧ Ar.cost k = 16) ∨ (8 < k ∧ k ≤ 24 ∧ Ar.cost k = 32) ∨ (24 < k ∧ k ≤ 56 ∧ Ar.cost k = 64) ∨ (56 < k ∧ k ≤ 120 ∧ Ar.cost k = 128) ∨ (120 < k ∧ k ≤ 248 ∧ Ar.cost k = 256) ∨ (248 < k ∧ k ≤ 504 ∧ Ar.cost k = 512) ∨ (504 < k ∧ k ≤ 1016 ∧ Ar.cost k = 1024) ∨ (1016 < k ∧ k ≤ 2040 ∧ Ar.cost k = 2048) ∨ (2040 < k ∧ k ≤ 4088 ∧ Ar.cost k = 4096) ∨ (4088 < k ∧ Ar.cost k = 8192) := by
  unfold Ar.cost
  by_cases h1 : k ≤ 8
  · simp [h1]
  by_cases h2 : k ≤ 24
  · simp [h1, h2]; omega
  by_cases h3 : k ≤ 56
  · simp [h1, h2, h3]; omega
  by_cases h4 : k ≤ 120
  · simp [h1, h2, h3, h4]; omega
  by_cases h5 : k ≤ 248
  · simp [h1, h2, h3, h4, h5]; omega
  by_cases h6 : k ≤ 504
  · simp [h1, h2, h3, h4, h5, h6]; omega
  by_cases h7 : k ≤ 1016
  · simp [h1, h2, h3, h4, h5, h6, h7]; omega
  by_cases h8 : k ≤ 2040
  · simp [h1, h2, h3, h4, h5, h6, h7, h8]; omega
  by_cases h9 : k ≤ 4088
  · simp [h1, h2, h3, h4, h5, h6, h7, h8, h9]; omega
  · simp [h1, h2, h3, h4, h5, h6, h7, h8, h9]; omega
set_option maxHeartbeats 4000000 in
theorem costs_out (n : Int) (w : World) (hT : TabOk w) (hn : n < 0 ∨ 4096 < n) : Calls Tryd.prog 5 #[.int .i64 n] w fun e w' => e = .returned (.bool true) ∧ Below w.heap.size w w' := by
  have HC := Lib.hid (show ∀ W, Calls Tryd.prog 26 #[.int .i64 n] W fun e w' => e = .returned (.int .i64 0) ∧ W = w' from fun W => by
    have h := cost_any n W
    rw [show Ar.costI n = 0 by unfold Ar.costI; rw [if_neg (by omega)]] at h
    exact h)
  have HT := Lib.hid hT
  clear hT
  go_enter Tryd.func5, Tryd.ntmps5
  by_cases h0 : n < 0
  · go_wp2_with (first
      | (go_at_call 26; with_reducible refine (HC.out _).mono ?_; rintro e w' ⟨rfl, rfl⟩)
      | (go_at_call 10; with_reducible refine (awake_any _ HT.out).mono ?_; rintro e w' ⟨rfl, hb⟩))
    go_ret
    exact ⟨rfl, hb⟩
  · have h1 : 4096 < n := by omega
    go_wp2_with (first
      | (go_at_call 26; with_reducible refine (HC.out _).mono ?_; rintro e w' ⟨rfl, rfl⟩)
      | (go_at_call 10; with_reducible refine (awake_any _ HT.out).mono ?_; rintro e w' ⟨rfl, hb⟩))
    go_ret
    exact ⟨rfl, hb⟩
set_option maxHeartbeats 4000000 in
theorem costs_one (k c : Nat) (w : World) (hT : TabOk w) (hk : k ≤ 4096) (hc : Ar.cost k = c) (h16 : 16 < c) (hcm : c ≤ 8192) (hand : bits .and .i64 (c : Int) ((c : Int) - 1) = 0) (h8 : k + 8 ≤ c) (hh : c / 2 < k + 8) : Calls Tryd.prog 5 #[.int .i64 (k : Int)] w fun e w' => e = .returned (.bool true) ∧ Below w.heap.size w w' := by
  have HC := Lib.hid (fun W => cost_at k c W hk hc)
  have HT := Lib.hid hT
  have n1 : ¬ (k : Int) < 0 := by omega
  have n2 : ¬ (4096 : Int) < k := by omega
  have n3 : ((c : Int) == 16) = false := by rw [beq_eq_false_iff_ne]; omega
  have n4 : (16 : Int) ≤ c := by omega
  have n5 : (k : Int) + 8 ≤ c := by omega
  have n6 : (c : Int).tdiv 2 < (k : Int) + 8 := by rw [show (c : Int).tdiv 2 = ((c / 2 : Nat) : Int) from rfl]; omega
  clear hT hc
  go_enter Tryd.func5, Tryd.ntmps5
  go_wp2_with (first
      | (go_at_call 26; with_reducible refine (HC.out _).mono ?_; rintro e w' ⟨rfl, rfl⟩)
      | (go_at_call 10; with_reducible refine (awake_any _ HT.out).mono ?_; rintro e w' ⟨rfl, hb⟩))
  go_ret
  exact ⟨rfl, hb⟩
set_option maxHeartbeats 4000000 in
theorem costs_16 (k : Nat) (w : World) (hT : TabOk w) (hk : k ≤ 8) : Calls Tryd.prog 5 #[.int .i64 (k : Int)] w fun e w' => e = .returned (.bool true) ∧ Below w.heap.size w w' := by
  have hc : Ar.cost k = 16 := by unfold Ar.cost; rw [if_pos hk]
  have HC := Lib.hid (fun W => cost_at k 16 W (by omega) hc)
  have HT := Lib.hid hT
  have n1 : ¬ (k : Int) < 0 := by omega
  have n2 : ¬ (4096 : Int) < k := by omega
  have n5 : (k : Int) + 8 ≤ 16 := by omega
  clear hT hc
  go_enter Tryd.func5, Tryd.ntmps5
  go_wp2_with (first
      | (go_at_call 26; with_reducible refine (HC.out _).mono ?_; rintro e w' ⟨rfl, rfl⟩)
      | (go_at_call 10; with_reducible refine (awake_any _ HT.out).mono ?_; rintro e w' ⟨rfl, hb⟩))
  go_ret
  exact ⟨rfl, hb⟩
theorem costs_any (n : Int) (w : World) (hT : TabOk w) : Calls Tryd.prog 5 #[.int .i64 n] w fun e w' => e = .returned (.bool true) ∧ Below w.heap.size w w' := by
  by_cases hn : n < 0 ∨ 4096 < n
  · exact costs_out n w hT hn
  · obtain ⟨k, rfl⟩ : ∃ k : Nat, n = (k : Int) := ⟨n.toNat, by omega⟩
    have hk : k ≤ 4096 := by omega
    rcases cost_cases k hk with ⟨h1, hc⟩ | ⟨h1, h2, hc⟩ | ⟨h1, h2, hc⟩ | ⟨h1, h2, hc⟩ | ⟨h1, h2, hc⟩ | ⟨h1, h2, hc⟩ | ⟨h1, h2, hc⟩ | ⟨h1, h2, hc⟩ | ⟨h1, h2, hc⟩ | ⟨h1, hc⟩
    · exact costs_16 k w hT h1
    all_goals exact costs_one k _ w hT hk hc (by omega) (by omega) (by decide) (by omega) (by omega)
end Go.Proofs.YtkndbldjablhoaaDoor
