/- RecordTargets: its walk. -/
import Derived.Test.YtnnoooecbbkggaaDoorAwake
import Derived.Test.YtnnoooecbbkggaaDoorFormMath
import Derived.Test.YtnnoooecbbkggaaDoorRound
import Derived.Test.YtnnoooecbbkggaaDoorRValid
namespace Go.Proofs.YtnnoooecbbkggaaDoor
open Go.RowKit Go.Shelf
attribute [local go_sem] Oper.semAt_some

namespace Rd
theorem check_yes {n d : List UInt8} {t ttl : Int} (hn : Nm.valid n = true) (ht : 1 ≤ t ∧ t ≤ 65535 ∧ t ≠ 41) (hl : 0 ≤ ttl ∧ ttl ≤ 2147483647) (hd : dataOk t d = true) : check ⟨n, t, 1, ttl, d⟩ = true := by
  unfold check
  simp only [hn, hd, Bool.and_true, Bool.true_and, decide_eq_true_iff]
  omega
theorem makeName_yes {n to : List UInt8} {k ttl : Int} (hk : k = 2 ∨ k = 5 ∨ k = 12) (hl : 0 ≤ ttl ∧ ttl ≤ 2147483647) (hn : Nm.valid n = true) (ht : Nm.valid to = true) : makeName n k ttl to = ⟨n, k, 1, ttl, to⟩ ∧ check ⟨n, k, 1, ttl, to⟩ = true := by
  have hc : check ⟨n, k, 1, ttl, to⟩ = true := check_yes hn (by omega) hl (partsD_some (parts_name hk ht)).1
  unfold makeName checkedR
  rw [if_pos hk, if_pos hc]
  exact ⟨rfl, hc⟩
theorem parts_four (x : Int) : parts 1 (four x) = some [] := rfl
theorem makeA_yes {n : List UInt8} {ttl x : Int} (h0 : 0 ≤ x) (h1 : x < 4294967296) (hl : 0 ≤ ttl ∧ ttl ≤ 2147483647) (hn : Nm.valid n = true) : makeA n ttl x = ⟨n, 1, 1, ttl, four x⟩ ∧ check ⟨n, 1, 1, ttl, four x⟩ = true := by
  have hc : check ⟨n, 1, 1, ttl, four x⟩ = true := check_yes hn (by omega) hl (partsD_some (parts_four x)).1
  have hf : isFour x = true := by unfold isFour; rw [decide_eq_true_iff]; omega
  unfold makeA checkedR
  rw [if_pos hf, if_pos hc]
  exact ⟨rfl, hc⟩
theorem soa_split (n : List UInt8) (x y : Int) : soaData n x y = n ++ [0] ++ (four x ++ four 1 ++ four 2 ++ four 3 ++ four y) := by
  unfold soaData; simp only [List.append_assoc]
theorem soa_parts {n : List UInt8} (hn : Nm.valid n = true) (x y : Int) : parts 6 (soaData n x y) = some [(0, n.length), (n.length, 1)] := by
  rw [soa_split]
  exact parts_soa (m := [0]) hn rfl rfl
theorem makeSOA_yes {n : List UInt8} {ttl x y : Int} (h0 : 0 ≤ x) (h1 : x < 4294967296) (h2 : 0 ≤ y) (h3 : y < 4294967296) (hl : 0 ≤ ttl ∧ ttl ≤ 2147483647) (hn : Nm.valid n = true) : makeSOA n ttl x y = ⟨n, 6, 1, ttl, soaData n x y⟩ ∧ check ⟨n, 6, 1, ttl, soaData n x y⟩ = true := by
  have hc : check ⟨n, 6, 1, ttl, soaData n x y⟩ = true := check_yes hn (by omega) hl (partsD_some (soa_parts hn x y)).1
  have hf : (isFour x && isFour y) = true := by unfold isFour; rw [Bool.and_eq_true, decide_eq_true_iff, decide_eq_true_iff]; omega
  unfold makeSOA checkedR
  rw [if_pos hf, if_pos hc]
  exact ⟨rfl, hc⟩
theorem soa_last (n : List UInt8) (x y : Int) : (soaData n x y).drop ((soaData n x y).length - 4) = four y := by
  have hs : soaData n x y = (n ++ [0] ++ four x ++ four 1 ++ four 2 ++ four 3) ++ four y := rfl
  rw [hs, List.length_append, four_len, Nat.add_sub_cancel]
  exact List.drop_left
theorem target_name {n to : List UInt8} {k c ttl : Int} (hk : k = 2 ∨ k = 5 ∨ k = 12) (ht : Nm.valid to = true) : target ⟨n, k, c, ttl, to⟩ = some to := by
  unfold target
  rw [parts_name hk ht]
  simp
theorem target_mx {n to : List UInt8} {c ttl : Int} (ht : Nm.valid to = true) : target ⟨n, 15, c, ttl, 0 :: 1 :: to⟩ = some to := by
  unfold target
  rw [parts_mx 0 1 ht]
  simp
theorem target_four (n : List UInt8) (c ttl x : Int) : target ⟨n, 1, c, ttl, four x⟩ = none := by
  unfold target
  rw [parts_four]
theorem target_soa {n : List UInt8} (hn : Nm.valid n = true) (c ttl x y : Int) : target ⟨n, 6, c, ttl, soaData n x y⟩ = none := by
  unfold target
  rw [soa_parts hn]
theorem last_four (n : List UInt8) (c ttl x : Int) (h0 : 0 ≤ x) (h1 : x < 4294967296) : intBool (lastFour 1 ⟨n, 1, c, ttl, four x⟩) = .tuple #[.int .i64 x, .bool true] := by
  rw [lastFour_yes (t := 1) (r := ⟨n, 1, c, ttl, four x⟩) rfl (partsD_some (parts_four x)).1]
  show Value.tuple #[.int .i64 (number (four x) : Int), .bool true] = _
  rw [number_four h0 h1]
theorem last_soa {n : List UInt8} (hn : Nm.valid n = true) (c ttl x y : Int) (h0 : 0 ≤ y) (h1 : y < 4294967296) : intBool (lastFour 6 ⟨n, 6, c, ttl, soaData n x y⟩) = .tuple #[.int .i64 y, .bool true] := by
  rw [lastFour_yes (t := 6) (r := ⟨n, 6, c, ttl, soaData n x y⟩) rfl (partsD_some (soa_parts hn x y)).1]
  simp only [soa_last]
  show Value.tuple #[.int .i64 (number (four y) : Int), .bool true] = _
  rw [number_four h0 h1]
theorem soa_len (n : List UInt8) (x y : Int) : (soaData n x y).length = n.length + 21 := by
  rw [soa_split]; simp [four_len]
end Rd

set_option maxRecDepth 100000 in
set_option maxHeartbeats 16000000 in
theorem targets_any (n to : List UInt8) (t x : Int) (w : World) (hn : n.length ≤ 9223372036854775807) (hto : to.length ≤ 9223372036854775807)
    (ht0 : -9223372036854775808 ≤ t) (ht1 : t ≤ 9223372036854775807) (hv : VarsOk w) :
    Calls Tryd.prog 8 #[.string ⟨n.toArray⟩, .string ⟨to.toArray⟩, .int .i64 t, .int .i64 x] w fun e w' => e = .returned (.bool true) ∧ Below w.heap.size w w' := by
  by_cases hg : 100 < n.length ∨ 100 < to.length
  · have hcase : 100 < n.length ∨ (n.length ≤ 100 ∧ 100 < to.length) := by omega
    clear hg
    rcases hcase with g1 | ⟨g1, g2⟩
    all_goals
      go_enter Tryd.func8, Tryd.ntmps8
      go_wp2_with (go_at_call 9; refine (awake_any _ hv).mono ?_; rintro e w1 ⟨rfl, b1⟩)
      go_ret
      exact ⟨rfl, b1⟩
  have g1 : n.length ≤ 100 := by omega
  have g2 : to.length ≤ 100 := by omega
  clear hg
  have hV1 := fun W => rvalid_any n W (by omega)
  have hV2 := fun W => rvalid_any to W (by omega)
  cases hvn : Nm.valid n
  · rw [hvn] at hV1
    go_enter Tryd.func8, Tryd.ntmps8
    go_wp2_with (first
      | (go_at_call 35; refine (hV1 _).mono ?_; rintro e w1 ⟨rfl, b1⟩)
      | (go_at_call 9; refine (awake_any _ (hv.below b1)).mono ?_; rintro e w2 ⟨rfl, b2⟩))
    go_ret
    exact ⟨rfl, below_trans b1 b2⟩
  rw [hvn] at hV1
  cases hvt : Nm.valid to
  · rw [hvt] at hV2
    have HV1 := Lib.hid hV1
    have HV2 := Lib.hid hV2
    clear hV1 hV2
    go_enter Tryd.func8, Tryd.ntmps8
    go_wp2_with (go_at_call 35; refine (HV1.out _).mono ?_; rintro e w1 ⟨rfl, b1⟩; refine Hid.out ?_)
    refine Lib.hid ?_
    go_wp2_with (go_at_call 35; refine (HV2.out _).mono ?_; rintro e w2 ⟨rfl, b2⟩; replace b2 := below_trans b1 b2; refine Hid.out ?_)
    refine Lib.hid ?_
    go_wp2_with (go_at_call 9; refine (awake_any _ (hv.below b2)).mono ?_; rintro e w3 ⟨rfl, b3⟩; replace b3 := below_trans b2 b3; refine Hid.out ?_)
    refine Lib.hid ?_
    go_wp2
    go_ret
    exact ⟨rfl, b3⟩
  rw [hvt] at hV2
  by_cases hx : x < 0 ∨ 4294967296 ≤ x
  · have hcase : x < 0 ∨ (0 ≤ x ∧ 4294967296 ≤ x) := by omega
    have HV1 := Lib.hid hV1
    have HV2 := Lib.hid hV2
    clear hV1 hV2 hx
    rcases hcase with g3 | ⟨g3, g4⟩
    all_goals
      go_enter Tryd.func8, Tryd.ntmps8
      go_wp2_with (go_at_call 35; refine (HV1.out _).mono ?_; rintro e w1 ⟨rfl, b1⟩; refine Hid.out ?_)
      refine Lib.hid ?_
      go_wp2_with (go_at_call 35; refine (HV2.out _).mono ?_; rintro e w2 ⟨rfl, b2⟩; replace b2 := below_trans b1 b2; refine Hid.out ?_)
      refine Lib.hid ?_
      go_wp2_with (go_at_call 9; refine (awake_any _ (hv.below b2)).mono ?_; rintro e w3 ⟨rfl, b3⟩; replace b3 := below_trans b2 b3; refine Hid.out ?_)
      refine Lib.hid ?_
      go_wp2
      go_ret
      exact ⟨rfl, b3⟩
  have g3 : 0 ≤ x := by omega
  have g4 : x < 4294967296 := by omega
  clear hx
  obtain ⟨hr0, hr1⟩ := roundI_bounds t 3 (by omega)
  have hro := fun W => round_any t 3 W (by omega) (by omega) ht0 ht1
  obtain ⟨r, hr⟩ : ∃ r, roundI t 3 = r := ⟨_, rfl⟩
  rw [hr] at hro hr0 hr1
  obtain ⟨k, hk, hcase⟩ : ∃ k : Int, (k = 2 ∨ k = 5 ∨ k = 12) ∧ ((r = 0 ∧ k = 2) ∨ (r = 1 ∧ k = 5) ∨ (r = 2 ∧ k = 12)) := by
    have : r = 0 ∨ r = 1 ∨ r = 2 := by omega
    rcases this with rfl | rfl | rfl
    · exact ⟨2, by omega, by omega⟩
    · exact ⟨5, by omega, by omega⟩
    · exact ⟨12, by omega, by omega⟩
  obtain ⟨ha, hca⟩ := Rd.makeName_yes (n := n) (to := to) (ttl := 60) hk (by omega) hvn hvt
  obtain ⟨hb, hcb⟩ := Rd.makeA_yes (n := n) (ttl := 60) g3 g4 (by omega) hvn
  obtain ⟨hc, hcc⟩ := Rd.makeSOA_yes (n := n) (ttl := 60) (x := 1) (y := x) (by omega) (by omega) g3 g4 (by omega) hvn
  have hDl := Rd.soa_len n 1 x
  have hFl := Rd.four_len x
  have mA := fun W => makeName_any n k 60 to W (by omega) (by omega)
  have mB := fun W => makeA_any n 60 x W (by omega) (by omega) (by omega)
  have mC := fun W => makeSOA_any n 60 1 x W (by omega) (by omega) (by omega) (by omega) (by omega)
  rw [ha] at mA
  rw [hb] at mB
  rw [hc] at mC
  have tA := fun W => target_any ⟨n, k, 1, 60, to⟩ W (show to.length ≤ 100000 by omega)
  have aB := fun W => addr_any ⟨n, 1, 1, 60, Rd.four x⟩ W (show (Rd.four x).length ≤ 100000 by omega)
  have mnC := fun W => minimum_any ⟨n, 6, 1, 60, Rd.soaData n 1 x⟩ W (show (Rd.soaData n 1 x).length ≤ 100000 by omega)
  have tB := fun W => target_any ⟨n, 1, 1, 60, Rd.four x⟩ W (show (Rd.four x).length ≤ 100000 by omega)
  have aA := fun W => addr_any ⟨n, k, 1, 60, to⟩ W (show to.length ≤ 100000 by omega)
  have mnB := fun W => minimum_any ⟨n, 1, 1, 60, Rd.four x⟩ W (show (Rd.four x).length ≤ 100000 by omega)
  have tC := fun W => target_any ⟨n, 6, 1, 60, Rd.soaData n 1 x⟩ W (show (Rd.soaData n 1 x).length ≤ 100000 by omega)
  have tM := fun W => target_any ⟨n, 15, 1, 0, 0 :: 1 :: to⟩ W (show (0 :: 1 :: to).length ≤ 100000 by simp; omega)
  have cA := fun W => check_any ⟨n, k, 1, 60, to⟩ W (show n.length ≤ 100000 by omega) (show to.length ≤ 100000 by omega)
  have cB := fun W => check_any ⟨n, 1, 1, 60, Rd.four x⟩ W (show n.length ≤ 100000 by omega) (show (Rd.four x).length ≤ 100000 by omega)
  have cC := fun W => check_any ⟨n, 6, 1, 60, Rd.soaData n 1 x⟩ W (show n.length ≤ 100000 by omega) (show (Rd.soaData n 1 x).length ≤ 100000 by omega)
  rw [Rd.target_name hk hvt] at tA
  rw [Rd.last_four n 1 60 x g3 g4] at aB
  rw [Rd.last_soa hvn 1 60 1 x g3 g4] at mnC
  rw [Rd.target_four] at tB
  rw [Rd.lastFour_no (.inl (show k ≠ 1 by omega))] at aA
  rw [Rd.lastFour_no (.inl (show (1 : Int) ≠ 6 by omega))] at mnB
  rw [Rd.target_soa hvn] at tC
  rw [Rd.target_mx hvt] at tM
  rw [hca] at cA
  rw [hcb] at cB
  rw [hcc] at cC
  have e0 := app_bytes [0, 1] to
  obtain ⟨M, hM⟩ : ∃ M, [0, 1] ++ to = M := ⟨_, rfl⟩
  have hM' : 0 :: 1 :: to = M := hM
  rw [hM] at e0
  rw [hM'] at tM
  have hMl : M.length = to.length + 2 := by rw [← hM']; simp
  generalize Rd.four x = F at *
  generalize Rd.soaData n 1 x = D at *
  unfold rrV strBool intBool at *
  simp only at mA mB mC tA aB mnC tB aA mnB tC tM cA cB cC
  clear ha hb hc hca hcb hcc hr hM hM' hk hvn hvt
  have HmA := Lib.hid mA
  have HmB := Lib.hid mB
  have HmC := Lib.hid mC
  have HtA := Lib.hid tA
  have HaB := Lib.hid aB
  have HmnC := Lib.hid mnC
  have HtB := Lib.hid tB
  have HaA := Lib.hid aA
  have HmnB := Lib.hid mnB
  have HtC := Lib.hid tC
  have HtM := Lib.hid tM
  have HcA := Lib.hid cA
  have HcB := Lib.hid cB
  have HcC := Lib.hid cC
  have HV1 := Lib.hid hV1
  have HV2 := Lib.hid hV2
  have HRO := Lib.hid hro
  clear hV1 hV2 hro mA mB mC tA aB mnC tB aA mnB tC tM cA cB cC
  rcases hcase with ⟨rfl, rfl⟩ | ⟨rfl, rfl⟩ | ⟨rfl, rfl⟩
  all_goals
    go_enter Tryd.func8, Tryd.ntmps8
    go_wp2_with (go_at_call 35; refine (HV1.out _).mono ?_; rintro e w1 ⟨rfl, b1⟩; refine Hid.out ?_)
    refine Lib.hid ?_
    go_wp2_with (go_at_call 35; refine (HV2.out _).mono ?_; rintro e w2 ⟨rfl, b2⟩; replace b2 := below_trans b1 b2; clear b1; refine Hid.out ?_)
    refine Lib.hid ?_
    go_wp2_with fail
    refine (HRO.out _).mono ?_
    rintro e w3 ⟨rfl, rfl⟩
    go_wp2_with fail
    refine (HmA.out _).mono ?_
    rintro e w3 ⟨rfl, b3⟩
    replace b3 := (b2.alloc b2.size _).trans (b3.mono (by have := b2.size; simp; omega))
    clear b2
    go_wp2_with fail
    refine (HmB.out _).mono ?_
    rintro e w4 ⟨rfl, b4⟩
    have k1 := (Block.new w3 _ 23).below b4
    replace b4 := (b3.alloc b3.size _).trans (b4.mono (by have := b3.size; simp; omega))
    clear b3
    go_wp2_with fail
    refine (HmC.out _).mono ?_
    rintro e w5 ⟨rfl, b5⟩
    replace k1 := (k1.alloc _).below b5
    have k2 := (Block.new w4 _ 23).below b5
    replace b5 := (b4.alloc b4.size _).trans (b5.mono (by have := b4.size; simp; omega))
    clear b4
    have k3 := Block.new w5 #[.string ⟨n.toArray⟩, .int .i64 6, .int .i64 1, .int .i64 60, .string ⟨D.toArray⟩] 23
    replace k1 := k1.alloc (.cells #[.string ⟨n.toArray⟩, .int .i64 6, .int .i64 1, .int .i64 60, .string ⟨D.toArray⟩] 23)
    replace k2 := k2.alloc (.cells #[.string ⟨n.toArray⟩, .int .i64 6, .int .i64 1, .int .i64 60, .string ⟨D.toArray⟩] 23)
    replace b5 := b5.alloc b5.size (.cells #[.string ⟨n.toArray⟩, .int .i64 6, .int .i64 1, .int .i64 60, .string ⟨D.toArray⟩] 23)
    have q0 := k1.cell (i := 0) rfl
    have q1 := k1.cell (i := 1) rfl
    have q2 := k1.cell (i := 2) rfl
    have q3 := k1.cell (i := 3) rfl
    have q4 := k1.cell (i := 4) rfl
    go_wp2_with fail
    refine (HtA.out _).mono ?_
    rintro e w6 ⟨rfl, b6⟩
    clear q0 q1 q2 q3 q4
    replace k1 := k1.below b6
    replace k2 := k2.below b6
    replace k3 := k3.below b6
    replace b6 := below_trans b5 b6
    clear b5
    have q0 := k2.cell (i := 0) rfl
    have q1 := k2.cell (i := 1) rfl
    have q2 := k2.cell (i := 2) rfl
    have q3 := k2.cell (i := 3) rfl
    have q4 := k2.cell (i := 4) rfl
    go_wp2_with fail
    refine (HaB.out _).mono ?_
    rintro e w7 ⟨rfl, b7⟩
    clear q0 q1 q2 q3 q4
    replace k1 := k1.below b7
    replace k2 := k2.below b7
    replace k3 := k3.below b7
    replace b7 := below_trans b6 b7
    clear b6
    have q0 := k3.cell (i := 0) rfl
    have q1 := k3.cell (i := 1) rfl
    have q2 := k3.cell (i := 2) rfl
    have q3 := k3.cell (i := 3) rfl
    have q4 := k3.cell (i := 4) rfl
    go_wp2_with fail
    refine (HmnC.out _).mono ?_
    rintro e w8 ⟨rfl, b8⟩
    clear q0 q1 q2 q3 q4
    replace k1 := k1.below b8
    replace k2 := k2.below b8
    replace k3 := k3.below b8
    replace b8 := below_trans b7 b8
    clear b7
    have q0 := k2.cell (i := 0) rfl
    have q1 := k2.cell (i := 1) rfl
    have q2 := k2.cell (i := 2) rfl
    have q3 := k2.cell (i := 3) rfl
    have q4 := k2.cell (i := 4) rfl
    go_wp2_with fail
    refine (HtB.out _).mono ?_
    rintro e w9 ⟨rfl, b9⟩
    clear q0 q1 q2 q3 q4
    replace k1 := k1.below b9
    replace k2 := k2.below b9
    replace k3 := k3.below b9
    replace b9 := below_trans b8 b9
    clear b8
    have q0 := k1.cell (i := 0) rfl
    have q1 := k1.cell (i := 1) rfl
    have q2 := k1.cell (i := 2) rfl
    have q3 := k1.cell (i := 3) rfl
    have q4 := k1.cell (i := 4) rfl
    go_wp2_with fail
    refine (HaA.out _).mono ?_
    rintro e w10 ⟨rfl, b10⟩
    clear q0 q1 q2 q3 q4
    replace k1 := k1.below b10
    replace k2 := k2.below b10
    replace k3 := k3.below b10
    replace b10 := below_trans b9 b10
    clear b9
    have q0 := k2.cell (i := 0) rfl
    have q1 := k2.cell (i := 1) rfl
    have q2 := k2.cell (i := 2) rfl
    have q3 := k2.cell (i := 3) rfl
    have q4 := k2.cell (i := 4) rfl
    go_wp2_with fail
    refine (HmnB.out _).mono ?_
    rintro e w11 ⟨rfl, b11⟩
    clear q0 q1 q2 q3 q4
    replace k1 := k1.below b11
    replace k2 := k2.below b11
    replace k3 := k3.below b11
    replace b11 := below_trans b10 b11
    clear b10
    have q0 := k3.cell (i := 0) rfl
    have q1 := k3.cell (i := 1) rfl
    have q2 := k3.cell (i := 2) rfl
    have q3 := k3.cell (i := 3) rfl
    have q4 := k3.cell (i := 4) rfl
    go_wp2_with fail
    refine (HtC.out _).mono ?_
    rintro e w12 ⟨rfl, b12⟩
    clear q0 q1 q2 q3 q4
    replace k1 := k1.below b12
    replace k2 := k2.below b12
    replace k3 := k3.below b12
    replace b12 := below_trans b11 b12
    clear b11
    go_wp2_with fail
    refine (HtM.out _).mono ?_
    rintro e w13 ⟨rfl, b13⟩
    replace k1 := k1.below b13
    replace k2 := k2.below b13
    replace k3 := k3.below b13
    replace b13 := below_trans b12 b13
    clear b12
    have q0 := k1.cell (i := 0) rfl
    have q1 := k1.cell (i := 1) rfl
    have q2 := k1.cell (i := 2) rfl
    have q3 := k1.cell (i := 3) rfl
    have q4 := k1.cell (i := 4) rfl
    go_wp2_with fail
    refine (HcA.out _).mono ?_
    rintro e w14 ⟨rfl, b14⟩
    clear q0 q1 q2 q3 q4
    replace k1 := k1.below b14
    replace k2 := k2.below b14
    replace k3 := k3.below b14
    replace b14 := below_trans b13 b14
    clear b13
    have q0 := k2.cell (i := 0) rfl
    have q1 := k2.cell (i := 1) rfl
    have q2 := k2.cell (i := 2) rfl
    have q3 := k2.cell (i := 3) rfl
    have q4 := k2.cell (i := 4) rfl
    go_wp2_with fail
    refine (HcB.out _).mono ?_
    rintro e w15 ⟨rfl, b15⟩
    clear q0 q1 q2 q3 q4
    replace k1 := k1.below b15
    replace k2 := k2.below b15
    replace k3 := k3.below b15
    replace b15 := below_trans b14 b15
    clear b14
    have q0 := k3.cell (i := 0) rfl
    have q1 := k3.cell (i := 1) rfl
    have q2 := k3.cell (i := 2) rfl
    have q3 := k3.cell (i := 3) rfl
    have q4 := k3.cell (i := 4) rfl
    go_wp2_with fail
    refine (HcC.out _).mono ?_
    rintro e w16 ⟨rfl, b16⟩
    clear q0 q1 q2 q3 q4
    replace k1 := k1.below b16
    replace k2 := k2.below b16
    replace k3 := k3.below b16
    replace b16 := below_trans b15 b16
    clear b15
    go_wp2_with fail
    refine (awake_any _ (hv.below b16)).mono ?_
    rintro e w99 ⟨rfl, b99⟩
    replace b99 := below_trans b16 b99
    go_wp2
    go_ret
    exact ⟨rfl, b99⟩
end Go.Proofs.YtnnoooecbbkggaaDoor
