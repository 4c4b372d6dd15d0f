/- The document's own MakeSOA. -/
import Derived.Test.YtnnoooecbbkggaaDoorRMake
namespace Go.Proofs.YtnnoooecbbkggaaDoor
open Go.RowKit Go.Shelf
attribute [local go_sem] Oper.semAt_some

namespace Rd
theorem makeSOA_made (n : List UInt8) (l x y : Int) (v fx fy : Bool) (hv : Nm.valid n = v) (hx : isFour x = fx) (hy : isFour y = fy) : makeSOA n l x y = madeR ⟨n, 6, 1, l, soaData n x y⟩ (v && fx && fy) := by
  unfold makeSOA madeR
  rw [hx, hy]
  cases v
  · have h : check ⟨n, 6, 1, l, soaData n x y⟩ = false := by unfold check; rw [hv]; rfl
    rw [checkedR_no h]
    cases fx <;> cases fy <;> rfl
  · cases fx <;> cases fy <;> rfl
theorem four_len (v : Int) : (four v).length = 4 := rfl
end Rd
@[reducible] def FourTo (a : List UInt8) (v : Int) : Prop := ∀ W, Calls Tryd.prog 58 #[.int .i64 v] W fun e w' => e = .returned (.string ⟨a.toArray⟩) ∧ Below W.heap.size W w'
theorem fourTo (v : Int) (h0 : -9223372036854775808 ≤ v) (h1 : v ≤ 9223372036854775807) : ∃ a, FourTo a v ∧ Rd.four v = a ∧ a.length ≤ 4 := ⟨Rd.four v, fun W => four_any v W h0 h1, rfl, by rw [Rd.four_len]; omega⟩

set_option maxRecDepth 100000 in
set_option maxHeartbeats 8000000 in
theorem rmakeSOA_any (n : List UInt8) (l x y : Int) (w : World) (hn : n.length ≤ 90000) (hx0 : -9223372036854775808 ≤ x) (hx1 : x ≤ 9223372036854775807) (hy0 : -9223372036854775808 ≤ y) (hy1 : y ≤ 9223372036854775807) :
    Calls Tryd.prog 34 #[.string ⟨n.toArray⟩, .int .i64 l, .int .i64 x, .int .i64 y] w fun e w' => e = .returned (rrV (Rd.makeSOA n l x y)) ∧ Below w.heap.size w w' := by
  obtain ⟨v, hv⟩ : ∃ v, Nm.valid n = v := ⟨_, rfl⟩
  obtain ⟨fx, hfx⟩ : ∃ fx, Rd.isFour x = fx := ⟨_, rfl⟩
  obtain ⟨fy, hfy⟩ : ∃ fy, Rd.isFour y = fy := ⟨_, rfl⟩
  have hmade := Rd.makeSOA_made n l x y v fx fy hv hfx hfy
  have HV := Lib.hid hv
  have HFX := Lib.hid hfx
  have HFY := Lib.hid hfy
  obtain ⟨a1, c1, h1, l1⟩ := fourTo x hx0 hx1
  obtain ⟨a2, c2, h2, l2⟩ := fourTo 1 (by omega) (by omega)
  obtain ⟨a3, c3, h3, l3⟩ := fourTo 2 (by omega) (by omega)
  obtain ⟨a4, c4, h4, l4⟩ := fourTo 3 (by omega) (by omega)
  obtain ⟨a5, c5, h5, l5⟩ := fourTo y hy0 hy1
  have hso : Rd.soaData n x y = n ++ [0] ++ a1 ++ a2 ++ a3 ++ a4 ++ a5 := by unfold Rd.soaData; rw [h1, h2, h3, h4, h5]
  rw [hso] at hmade
  have e0 := app_bytes n [0]
  have k0 : (n ++ [0]).length ≤ 90001 := by simp; omega
  obtain ⟨q0, hq0⟩ : ∃ q, n ++ [0] = q := ⟨_, rfl⟩
  rw [hq0] at e0 k0 hmade hso
  have e1 := app_bytes q0 a1
  have k1 : (q0 ++ a1).length ≤ 90005 := by simp; omega
  obtain ⟨q1, hq1⟩ : ∃ q, q0 ++ a1 = q := ⟨_, rfl⟩
  rw [hq1] at e1 k1 hmade hso
  have e2 := app_bytes q1 a2
  have k2 : (q1 ++ a2).length ≤ 90009 := by simp; omega
  obtain ⟨q2, hq2⟩ : ∃ q, q1 ++ a2 = q := ⟨_, rfl⟩
  rw [hq2] at e2 k2 hmade hso
  have e3 := app_bytes q2 a3
  have k3 : (q2 ++ a3).length ≤ 90013 := by simp; omega
  obtain ⟨q3, hq3⟩ : ∃ q, q2 ++ a3 = q := ⟨_, rfl⟩
  rw [hq3] at e3 k3 hmade hso
  have e4 := app_bytes q3 a4
  have k4 : (q3 ++ a4).length ≤ 90017 := by simp; omega
  obtain ⟨q4, hq4⟩ : ∃ q, q3 ++ a4 = q := ⟨_, rfl⟩
  rw [hq4] at e4 k4 hmade hso
  have e5 := app_bytes q4 a5
  have k5 : (q4 ++ a5).length ≤ 90021 := by simp; omega
  obtain ⟨q5, hq5⟩ : ∃ q, q4 ++ a5 = q := ⟨_, rfl⟩
  rw [hq5] at e5 k5 hmade hso
  have hc := fun W => rmadeR_any ⟨n, 6, 1, l, q5⟩ (v && fx && fy) W (by show n.length ≤ _; omega) (by show q5.length ≤ _; omega)
  obtain ⟨r, hr⟩ : ∃ r, Rd.madeR ⟨n, 6, 1, l, q5⟩ (v && fx && fy) = r := ⟨_, rfl⟩
  rw [hr] at hc hmade
  have H : Hid (rrV (Rd.makeSOA n l x y) = rrV r) := Lib.hid (by rw [hmade])
  have HC := Lib.hid hc
  have C1 := Lib.hid c1
  have C2 := Lib.hid c2
  have C3 := Lib.hid c3
  have C4 := Lib.hid c4
  have C5 := Lib.hid c5
  clear hmade hso hc hr hv hfx hfy h1 h2 h3 h4 h5 c1 c2 c3 c4 c5 hq0 hq1 hq2 hq3 hq4 hq5
  obtain ⟨n', t', c', l', d'⟩ := r
  unfold rrV at HC
  have hcase : (v = false) ∨ (v = true ∧ fx = false) ∨ (v = true ∧ fx = true) := by cases v <;> cases fx <;> simp
  rcases hcase with rfl | ⟨rfl, rfl⟩ | ⟨rfl, rfl⟩
  all_goals
    simp only [Bool.false_and, Bool.true_and, Bool.and_false] at HC
    go_enter Tryd.func34, Tryd.ntmps34
    have bb : Below (w.heap.size + 1) (w.alloc (.cells #[.string ⟨#[]⟩, .int .i64 0, .int .i64 0, .int .i64 0, .string ⟨#[]⟩] 23)) (w.alloc (.cells #[.string ⟨#[]⟩, .int .i64 0, .int .i64 0, .int .i64 0, .string ⟨#[]⟩] 23)) := Below.refl _ _
    have hz : w.heap.size + 1 ≤ (w.alloc (.cells #[.string ⟨#[]⟩, .int .i64 0, .int .i64 0, .int .i64 0, .string ⟨#[]⟩] 23)).heap.size := by simp
    go_wp2_with (first
      | (go_at_call 58; (with_reducible refine (C1.out _).mono ?_); rintro e w1 ⟨rfl, b1⟩; replace bb := bb.trans (b1.mono hz); replace hz := Nat.le_trans hz b1.size; clear b1)
      | (go_at_call 58; (with_reducible refine (C2.out _).mono ?_); rintro e w1 ⟨rfl, b1⟩; replace bb := bb.trans (b1.mono hz); replace hz := Nat.le_trans hz b1.size; clear b1)
      | (go_at_call 58; (with_reducible refine (C3.out _).mono ?_); rintro e w1 ⟨rfl, b1⟩; replace bb := bb.trans (b1.mono hz); replace hz := Nat.le_trans hz b1.size; clear b1)
      | (go_at_call 58; (with_reducible refine (C4.out _).mono ?_); rintro e w1 ⟨rfl, b1⟩; replace bb := bb.trans (b1.mono hz); replace hz := Nat.le_trans hz b1.size; clear b1)
      | (go_at_call 58; (with_reducible refine (C5.out _).mono ?_); rintro e w1 ⟨rfl, b1⟩; replace bb := bb.trans (b1.mono hz); replace hz := Nat.le_trans hz b1.size; clear b1)
      | (go_at_call 35; (with_reducible refine (rvalid_any n _ (by omega)).mono ?_); rw [HV.out]; rintro e w1 ⟨rfl, b1⟩; replace bb := bb.trans (b1.mono hz); replace hz := Nat.le_trans hz b1.size; clear b1)
      | (go_at_call 59; (with_reducible refine (word_any x _).mono ?_); rw [HFX.out]; rintro e w2 ⟨rfl, rfl⟩)
      | (go_at_call 59; (with_reducible refine (word_any y _).mono ?_); rw [HFY.out]; rintro e w2 ⟨rfl, rfl⟩)
      | (go_at_call 57; refine (HC.out _).mono ?_; rintro e w2 ⟨rfl, b2⟩; replace bb := bb.trans (b2.mono hz); obtain ⟨hc2, hf2⟩ := bcell1 bb))
    exact bodyPost_ret (v := .agg #[.string ⟨n'.toArray⟩, .int .i64 t', .int .i64 c', .int .i64 l', .string ⟨d'.toArray⟩]) (by simp [results, Tryd.results34, go_sem, hc2, hf2]) rfl ⟨by rw [H.out]; rfl, below5' bb _ _ _ _ _⟩
end Go.Proofs.YtnnoooecbbkggaaDoor
