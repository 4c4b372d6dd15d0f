/- 3 texts put together: Heads, MsgN, Round. -/
import Derived.Test.YtfmghbmbahembaaJB3
import Derived.Test.YtfmghbmbahembaaJB17
import Derived.Test.YtfmghbmbahembaaJB19
import Derived.Test.YtfmghbmbahembaaJB30
import Derived.Test.YtfmghbmbahembaaJB34
import Derived.Test.YtfmghbmbahembaaJB36
/- MessageHeads. -/
namespace Go.Proofs.Ytfmghbmbahembaa
open Go.RowKit Go.Shelf Go.Maps
attribute [local go_sem] Oper.semAt_some

theorem nil12_dec (x0 x1 x2 x3 : UInt8) : Ms.dec (Ms.nil12 x0 x1 x2 x3) = (Ms.hdOf (Ms.nil12 x0 x1 x2 x3), true, decide (Ms.threes (Ms.nil12 x0 x1 x2 x3) = 0)) := by
  unfold Ms.dec
  rw [if_neg (by show ¬ 12 < 12; omega), Ms.nil12_body]
  by_cases h : Ms.threes (Ms.nil12 x0 x1 x2 x3) = 0
  · rw [if_pos h, decide_eq_true h]
  · rw [if_neg h, decide_eq_false h]
theorem byte_pair (z : Int) (h0 : 0 ≤ z) (h1 : z ≤ 65535) : ∃ x y : UInt8, z / 256 = (x.toNat : Int) ∧ z % 256 = (y.toNat : Int) ∧ z = ((x.toNat * 256 + y.toNat : Nat) : Int) := by
  refine ⟨byteOf (z / 256), byteOf z, ?_, ?_, ?_⟩
  · rw [byteOf_int]; omega
  · rw [byteOf_int]
  · have h1 := byteOf_int (z / 256)
    have h2 := byteOf_int z
    omega

theorem flag_ne (x k : Nat) (h : x ≤ 1) (hk : 0 < k) : (((x * k : Nat) : Int) != 0) = (x == 1) := by
  have hx : x = 0 ∨ x = 1 := by omega
  rcases hx with rfl | rfl
  · simp
  · simp; omega
theorem few_nil' (n : Nat) : FewR [] n := ⟨by simp, by simp⟩
theorem readB_own' {v : Value} {l : List UInt8} {base : Nat} {W : World} (h : OwnE encB 5 base v l W) : ReadB v l W := by
  rcases ownE_form h with ⟨rfl, rfl⟩ | ⟨g, cap, rfl⟩
  · exact ⟨none, 0, rfl, fun j hj => by simp at hj⟩
  · exact ⟨_, cap, rfl, fun j hj => ⟨g, 0, rfl, ownE_cell h hj⟩⟩
theorem errOfT : errOf true = 0 := rfl
theorem errOfF : errOf false = 2 := rfl
theorem readB_blk8 {W : World} {B : Nat} {l : List UInt8} (h : Block W B (l.map encB).toArray 5) : ReadB (.slice (some ⟨B, 0, none⟩) l.length l.length) l W :=
  ⟨_, _, rfl, fun j hj => ⟨B, 0, rfl, by rw [Nat.zero_add]; exact h.cell (i := j) (by simp [hj])⟩⟩
theorem ownE_setBelow {α : Type} {enc : α → Value} {e : TypeId} {base B i : Nat} {v u : Value} {l : List α} {W : World} (h : OwnE enc e base v l W) (hB : B < base) : OwnE enc e base v l (W.setCell ⟨B, i, none⟩ u) :=
  ⟨h.1, h.2.imp id fun ⟨g, cap, cur, h1, h2, h3, h4⟩ => ⟨g, cap, cur, h1, h2, (heap_set_other (by omega)).trans h3, h4⟩⟩
set_option maxRecDepth 100000 in
set_option maxHeartbeats 8000000 in
theorem heads_any (AW : ∀ W, Calls Try.prog 11 #[] W fun e w' => e = .returned (.bool true) ∧ Below W.heap.size W w') (z0 z1 : Int) (w : World) (h0 : -9223372036854775808 ≤ z0 ∧ z0 ≤ 9223372036854775807) (h1 : -9223372036854775808 ≤ z1 ∧ z1 ≤ 9223372036854775807) :
    Calls Try.prog 6 #[.int .i64 z0, .int .i64 z1] w fun e w' => e = .returned (.bool true) ∧ Below w.heap.size w w' := by
  have HAW := Lib.hid AW
  clear AW
  have e0 : (0 ≤ z0 ∧ z0 ≤ 65535 ∧ 0 ≤ z1 ∧ z1 ≤ 65535) ∨ z0 < 0 ∨ (0 ≤ z0 ∧ 65535 < z0) ∨ (0 ≤ z0 ∧ z0 ≤ 65535 ∧ z1 < 0) ∨ (0 ≤ z0 ∧ z0 ≤ 65535 ∧ 0 ≤ z1 ∧ 65535 < z1) := by omega
  rcases e0 with ⟨a1, a2, a3, a4⟩ | a1 | ⟨a1, a2⟩ | ⟨a1, a2, a3⟩ | ⟨a1, a2, a3, a4⟩
  · go_enter Try.func6, Try.ntmps6
    obtain ⟨x0, x1, d0, d1, dz0⟩ := byte_pair z0 a1 a2
    obtain ⟨x2, x3, d2, d3, dz1⟩ := byte_pair z1 a3 a4
    have HR := Lib.hid (readB_lit w (Ms.nil12 x0 x1 x2 x3) [.int .u8 (x0.toNat : Int), .int .u8 (x1.toNat : Int), .int .u8 (x2.toNat : Int), .int .u8 (x3.toNat : Int), .int .u8 0, .int .u8 0, .int .u8 0, .int .u8 0, .int .u8 0, .int .u8 0, .int .u8 0, .int .u8 0] 5 12 rfl rfl)
    have HZ0 := Lib.hid dz0
    have HZ1 := Lib.hid dz1
    clear dz0 dz1
    go_wp2_with fail
    refine (decode_any (Ms.nil12 x0 x1 x2 x3) _ _ HR.out (by intro ao n c e; cases e; exact Nat.le_refl _) (by show 12 ≤ 100000; omega)).mono ?_
    unfold DecRet
    rw [nil12_dec]
    rintro e w1 ⟨vq, va, vn, vd, rfl, hL, b1⟩
    simp only []
    have hfl := Ms.nil12_flags x0 x1 x2 x3
    obtain ⟨y, hy⟩ : ∃ y, decide (Ms.threes (Ms.nil12 x0 x1 x2 x3) = 0) = y := ⟨_, rfl⟩
    rw [hy]
    have HL := Lib.hid hL
    obtain ⟨a0, c0, rfl, _⟩ := hL.qs.form
    obtain ⟨a1', c1, rfl, _⟩ := hL.an.form
    obtain ⟨a2', c2, rfl, _⟩ := hL.ns.form
    obtain ⟨a3', c3, rfl, _⟩ := hL.ad.form
    have hM : Ms.hdOf (Ms.nil12 x0 x1 x2 x3) = ⟨((x0.toNat * 256 + x1.toNat : Nat) : Int), (x2.toNat * 256 + x3.toNat) / 32768 % 2 == 1, ((x2.toNat * 256 + x3.toNat) / 2048 % 16 : Nat), (x2.toNat * 256 + x3.toNat) / 1024 % 2 == 1, (x2.toNat * 256 + x3.toNat) / 512 % 2 == 1, (x2.toNat * 256 + x3.toNat) / 256 % 2 == 1, (x2.toNat * 256 + x3.toNat) / 128 % 2 == 1, ((x2.toNat * 256 + x3.toNat) % 16 : Nat), [], [], [], [], false, 0⟩ := rfl
    -- REST
    have hM2 : Ms.hdOf (Ms.nil12 x0 x1 x2 x3) = ⟨(x0.toNat : Int) * 256 + (x1.toNat : Int), (x2.toNat * 256 + x3.toNat) / 32768 % 2 == 1, ((x2.toNat : Int) * 256 + (x3.toNat : Int)) / 2048 % 16, (x2.toNat * 256 + x3.toNat) / 1024 % 2 == 1, (x2.toNat * 256 + x3.toNat) / 512 % 2 == 1, (x2.toNat * 256 + x3.toNat) / 256 % 2 == 1, (x2.toNat * 256 + x3.toNat) / 128 % 2 == 1, ((x2.toNat : Int) * 256 + (x3.toNat : Int)) % 16, [], [], [], [], false, 0⟩ := by
      rw [hM]
      simp only [Int.natCast_add, Int.natCast_mul, Int.natCast_ediv, Int.natCast_emod, Int.cast_ofNat_Int]
    obtain ⟨M, hMM⟩ : ∃ M : Ms.M, Ms.hdOf (Ms.nil12 x0 x1 x2 x3) = M := ⟨_, rfl⟩
    have hEN : Ms.enc M = _ := hMM ▸ Ms.nil12_enc x0 x1 x2 x3
    rw [hMM] at HL hM2
    rw [hMM, hM2]
    have HM := Lib.hid hM2
    have HE := Lib.hid hEN
    obtain ⟨F, hF⟩ : ∃ F : Nat, x2.toNat * 256 + x3.toNat = F := ⟨_, rfl⟩
    have hz1 : z1 = (F : Int) := by rw [HZ1.out, hF]
    have hFl : F < 4611686018427387904 := by have := x2.toNat_lt; have := x3.toNat_lt; omega
    have b1 : (bits .and .i64 z1 32768 != 0) = ((x2.toNat * 256 + x3.toNat) / 32768 % 2 == 1) := by rw [hz1, hF, and32768 F hFl]; exact flag_ne _ _ (by omega) (by omega)
    have b3 : (bits .and .i64 z1 1024 != 0) = ((x2.toNat * 256 + x3.toNat) / 1024 % 2 == 1) := by rw [hz1, hF, and1024 F hFl]; exact flag_ne _ _ (by omega) (by omega)
    have b4 : (bits .and .i64 z1 512 != 0) = ((x2.toNat * 256 + x3.toNat) / 512 % 2 == 1) := by rw [hz1, hF, and512 F hFl]; exact flag_ne _ _ (by omega) (by omega)
    have b5 : (bits .and .i64 z1 256 != 0) = ((x2.toNat * 256 + x3.toNat) / 256 % 2 == 1) := by rw [hz1, hF, and256 F hFl]; exact flag_ne _ _ (by omega) (by omega)
    have b6 : (bits .and .i64 z1 128 != 0) = ((x2.toNat * 256 + x3.toNat) / 128 % 2 == 1) := by rw [hz1, hF, and128 F hFl]; exact flag_ne _ _ (by omega) (by omega)
    have b2 : bits .and .i64 (z1 / 2048) 15 = ((x2.toNat : Int) * 256 + (x3.toNat : Int)) / 2048 % 16 := by
      rw [hz1, show (F : Int) / 2048 = ((F / 2048 : Nat) : Int) by omega, and15 (F / 2048) (by omega)]; omega
    have b7 : bits .and .i64 z1 15 = ((x2.toNat : Int) * 256 + (x3.toNat : Int)) % 16 := by rw [hz1, and15 F hFl]; omega
    have b8 : bits .and .i64 z1 112 = ((F / 16 % 8 * 16 : Nat) : Int) := by rw [hz1, and112 F hFl]
    have ht : Ms.threes (Ms.nil12 x0 x1 x2 x3) = F / 16 % 8 := by rw [← hF]; rfl
    have hz0 : z0 = (x0.toNat : Int) * 256 + (x1.toNat : Int) := by rw [HZ0.out]; omega
    have G := Lib.hid (And.intro b1 (And.intro b2 (And.intro b3 (And.intro b4 (And.intro b5 (And.intro b6 (And.intro b7 hz0)))))))
    have HB8 : Hid ((y = true → bits .and .i64 z1 112 = 0) ∧ (y = false → ¬ bits .and .i64 z1 112 = 0)) := Lib.hid ⟨fun e => by rw [← hy, decide_eq_true_eq] at e; rw [b8]; omega, fun e => by rw [← hy, decide_eq_false_iff_not] at e; rw [b8]; omega⟩
    clear b1 b2 b3 b4 b5 b6 b7 b8 hz0 hz1 hFl ht hF hM hfl hy hEN hM2 hMM
    unfold msgV
    simp only [List.length_nil]
    clear hL
    go_wp2_with fail
    rw [G.out.1, G.out.2.1, G.out.2.2.1, G.out.2.2.2.1, G.out.2.2.2.2.1, G.out.2.2.2.2.2.1, G.out.2.2.2.2.2.2.1, G.out.2.2.2.2.2.2.2]
    obtain ⟨f0, hf0⟩ : ∃ f, ((x0.toNat : Int) * 256 + (x1.toNat : Int)) = f := ⟨_, rfl⟩
    obtain ⟨f1, hf1⟩ : ∃ f, ((x2.toNat * 256 + x3.toNat) / 32768 % 2 == 1) = f := ⟨_, rfl⟩
    obtain ⟨f2, hf2⟩ : ∃ f, (((x2.toNat : Int) * 256 + (x3.toNat : Int)) / 2048 % 16) = f := ⟨_, rfl⟩
    obtain ⟨f3, hf3⟩ : ∃ f, ((x2.toNat * 256 + x3.toNat) / 1024 % 2 == 1) = f := ⟨_, rfl⟩
    obtain ⟨f4, hf4⟩ : ∃ f, ((x2.toNat * 256 + x3.toNat) / 512 % 2 == 1) = f := ⟨_, rfl⟩
    obtain ⟨f5, hf5⟩ : ∃ f, ((x2.toNat * 256 + x3.toNat) / 256 % 2 == 1) = f := ⟨_, rfl⟩
    obtain ⟨f6, hf6⟩ : ∃ f, ((x2.toNat * 256 + x3.toNat) / 128 % 2 == 1) = f := ⟨_, rfl⟩
    obtain ⟨f7, hf7⟩ : ∃ f, (((x2.toNat : Int) * 256 + (x3.toNat : Int)) % 16) = f := ⟨_, rfl⟩
    have hm := HM.out
    rw [hf0, hf1, hf2, hf3, hf4, hf5, hf6, hf7] at hm ⊢
    clear HM hf0 hf1 hf2 hf3 hf4 hf5 hf6 hf7
    subst hm
    obtain ⟨wB, hwB⟩ : ∃ W, (w1.alloc (.cells #[.int .i64 f0, .bool f1, .int .i64 f2, .bool f3, .bool f4, .bool f5, .bool f6, .int .i64 f7, .slice a0 0 c0, .slice a1' 0 c1, .slice a2' 0 c2, .slice a3' 0 c3, .bool false, .int .i64 0] 27)).alloc (.cells #[.int .i64 f0, .bool f1, .int .i64 f2, .bool f3, .bool f4, .bool f5, .bool f6, .int .i64 f7, .slice none 0 0, .slice none 0 0, .slice none 0 0, .slice none 0 0, .bool false, .int .i64 0] 27) = W := ⟨_, rfl⟩
    have bB : Below w1.heap.size w1 wB := by rw [← hwB]; exact ((Below.refl _ _).alloc (Nat.le_refl _) _).alloc (by simp) _
    have kB : Block wB (w1.heap.size + 1) #[.int .i64 f0, .bool f1, .int .i64 f2, .bool f3, .bool f4, .bool f5, .bool f6, .int .i64 f7, .slice none 0 0, .slice none 0 0, .slice none 0 0, .slice none 0 0, .bool false, .int .i64 0] 27 := by
      rw [← hwB]
      have := Block.new (w1.alloc (.cells #[.int .i64 f0, .bool f1, .int .i64 f2, .bool f3, .bool f4, .bool f5, .bool f6, .int .i64 f7, .slice a0 0 c0, .slice a1' 0 c1, .slice a2' 0 c2, .slice a3' 0 c3, .bool false, .int .i64 0] 27)) #[.int .i64 f0, .bool f1, .int .i64 f2, .bool f3, .bool f4, .bool f5, .bool f6, .int .i64 f7, .slice none 0 0, .slice none 0 0, .slice none 0 0, .slice none 0 0, .bool false, .int .i64 0] 27
      rw [World.size_alloc] at this
      exact this
    have kS := (((Block.new w #[.int .u8 (x0.toNat : Int), .int .u8 (x1.toNat : Int), .int .u8 (x2.toNat : Int), .int .u8 (x3.toNat : Int), .int .u8 0, .int .u8 0, .int .u8 0, .int .u8 0, .int .u8 0, .int .u8 0, .int .u8 0, .int .u8 0] 5).below b1).below bB)
    have bw := (((Below.refl w.heap.size w).alloc (Nat.le_refl _) (.cells #[.int .u8 (x0.toNat : Int), .int .u8 (x1.toNat : Int), .int .u8 (x2.toNat : Int), .int .u8 (x3.toNat : Int), .int .u8 0, .int .u8 0, .int .u8 0, .int .u8 0, .int .u8 0, .int .u8 0, .int .u8 0, .int .u8 0] 5)).trans (b1.mono (by simp))).trans (bB.mono (by have := b1.size; simp at this; omega))
    rw [hwB]
    clear hwB
    obtain ⟨R9, hR9⟩ : ∃ R, w1.heap.size + 1 = R := ⟨_, rfl⟩
    obtain ⟨R5, hR5⟩ : ∃ R, w.heap.size = R := ⟨_, rfl⟩
    refine (message_same (⟨f0, f1, f2, f3, f4, f5, f6, f7, [], [], [], [], false, 0⟩ : Ms.M) (.slice a0 0 c0) (.slice a1' 0 c1) (.slice a2' 0 c2) (.slice a3' 0 c3) _ _ _ _ wB (HL.out.below bB) (lists_nil rfl rfl rfl rfl _) ⟨Nat.zero_le _, Nat.zero_le _, Nat.zero_le _, Nat.zero_le _⟩).mono ?_
    rintro e w2 ⟨rfl, b2⟩
    have kB2 := kB.below b2
    have kS2 := kS.below b2
    have bw2 := bw.trans (b2.mono bw.size)
    have hR52 : R5 < w2.heap.size := by rw [← hR5]; exact kS2.lt
    rw [hR9] at kB2 ⊢
    rw [hR5] at kS2 ⊢
    clear hR9 kB kS b2 bB b1
    have c0x := kB2.cell (i := 0) (v := .int .i64 f0) rfl
    have c1x := kB2.cell (i := 1) (v := .bool f1) rfl
    have c2x := kB2.cell (i := 2) (v := .int .i64 f2) rfl
    have c3x := kB2.cell (i := 3) (v := .bool f3) rfl
    have c4x := kB2.cell (i := 4) (v := .bool f4) rfl
    have c5x := kB2.cell (i := 5) (v := .bool f5) rfl
    have c6x := kB2.cell (i := 6) (v := .bool f6) rfl
    have c7x := kB2.cell (i := 7) (v := .int .i64 f7) rfl
    have c8x := kB2.cell (i := 8) (v := .slice none 0 0) rfl
    have c9x := kB2.cell (i := 9) (v := .slice none 0 0) rfl
    have c10x := kB2.cell (i := 10) (v := .slice none 0 0) rfl
    have c11x := kB2.cell (i := 11) (v := .slice none 0 0) rfl
    have c12x := kB2.cell (i := 12) (v := .bool false) rfl
    have c13x := kB2.cell (i := 13) (v := .int .i64 0) rfl
    have HK := Lib.hid kS2
    have HBW := Lib.hid bw2
    clear kB2 kS2 bw bw2
    have C1 := Lib.hid (enc_any (⟨f0, f1, f2, f3, f4, f5, f6, f7, [], [], [], [], false, 0⟩ : Ms.M) _ _ _ _ w2 (lists_nil rfl rfl rfl rfl _) ⟨Nat.zero_le _, fun q hq => (List.not_mem_nil hq).elim, few_nil' _, few_nil' _, few_nil' _⟩ (few_nil' _) (few_nil' _) (few_nil' _))
    unfold EncRet msgV at C1
    rw [HE.out] at C1
    simp only at C1
    have hB8 := HB8.out
    cases y
    all_goals
      simp only [errOfT, errOfF, forall_const, reduceCtorEq, false_implies, true_and, and_true] at hB8 ⊢
      go_wp2_with fail
      refine C1.out.mono ?_
      rintro e w3 ⟨v, rfl, ho, b3⟩
      rcases ownE_form ho with ⟨rfl, h0⟩ | ⟨g, cap, rfl⟩
      · exact absurd h0 (by simp [Ms.nil12])
      have kS3 := HK.out.below b3
      have s3 := kS3.cell (i := 3) (v := .int .u8 (x3.toNat : Int)) rfl
      have z3 := kS3.frozen 3
      have a143 : bits .and .u8 (x3.toNat : Int) 143 = ((UInt8.ofNat (x3.toNat % 16 + x3.toNat / 128 * 128)).toNat : Int) := by
        rw [and143 ⟨x3.toNat, x3.toNat_lt⟩]
        have := x3.toNat_lt
        simp only [UInt8.toNat_ofNat']
        omega
      obtain ⟨x4, hx4⟩ : ∃ x, UInt8.ofNat (x3.toNat % 16 + x3.toNat / 128 * 128) = x := ⟨_, rfl⟩
      rw [hx4] at a143 ho
      have ho4 := ownE_setBelow (i := 3) (u := .int .u8 (x4.toNat : Int)) ho hR52
      have kS4 := kS3.set 3 (.int .u8 (x4.toNat : Int))
      have q1 := run_arg_str (readB_own' ho4) (by simp [Ms.nil12])
      have q2 := run_arg_str (readB_blk8 (l := Ms.nil12 x0 x1 x2 x4) (W := w3.setCell ⟨R5, 3, none⟩ (.int .u8 (x4.toNat : Int))) (B := R5) kS4) (by simp [Ms.nil12])
      simp only [show (Ms.nil12 x0 x1 x2 x4).length = 12 from rfl] at q1 q2
      have B4 := Lib.hid ((HBW.out.trans (b3.mono HBW.out.size)).setCell (p := ⟨R5, 3, none⟩) (by rw [← hR5]; exact Nat.le_refl _) (.int .u8 (x4.toNat : Int)))
      simp only [show (Ms.nil12 x0 x1 x2 (UInt8.ofNat (x3.toNat % 16 + x3.toNat / 128 * 128))).length = 12 from rfl]
      clear ho ho4 kS3 kS4 b3
      go_wp2_with fail
      refine (HAW.out _).mono ?_
      rintro e w5 ⟨rfl, b5⟩
      go_wp2_with fail
      go_ret
      exact ⟨rfl, B4.out.trans (b5.mono B4.out.size)⟩
  all_goals
    go_enter Try.func6, Try.ntmps6
    go_wp2_with fail
    refine (HAW.out _).mono ?_
    rintro e w1 ⟨rfl, b1⟩
    go_wp2_with fail
    go_ret
    exact ⟨rfl, b1⟩
end Go.Proofs.Ytfmghbmbahembaa

/- Datagrams: a name that comes many times stands there once; what fits. -/
namespace Go.Proofs.Ytfmghbmbahembaa.Ms
open Go.Proofs.Ytfmghbmbahembaa

/-! ### Names that come again -/
/-- The name can be pointed to. -/
def Known (n : List UInt8) (S : WS) : Prop := (look n S.tab).isSome = true
theorem known_put {n : List UInt8} {S : WS} (h : Known n S) (x : List UInt8) : Known n (S.put x) := h
theorem labs_ne {n : List UInt8} (hv : Nm.valid n = true) (hr : n ≠ [0]) : ∃ l r, Nm.labsD n = l :: r ∧ n = Nm.made (l :: r) := by
  obtain ⟨_, hm, _, _⟩ := Nm.labs_of_valid hv
  cases h : Nm.labsD n with
  | nil => rw [h] at hm; exact absurd hm hr
  | cons l r => rw [h] at hm; exact ⟨l, r, rfl, hm⟩
theorem name_known {n : List UInt8} {S : WS} (hv : Nm.valid n = true) (hr : n ≠ [0]) (h : Known n S) : (S.name n true).size = S.size + 2 ∧ Known n (S.name n true) := by
  obtain ⟨l, r, h1, h2⟩ := labs_ne hv hr
  have hk : (look (Nm.made (l :: r)) S.tab).isSome = true := by rw [← h2]; exact h
  have e : S.name n true = S.sq (l :: r) := by unfold WS.name; rw [if_neg (by rw [hv]; decide), if_pos rfl, h1]
  obtain ⟨s1, s2⟩ := sq_known hk
  rw [e]
  exact ⟨s1, by unfold Known; rw [s2]; exact h⟩
theorem name_whole {n : List UInt8} {S : WS} (hv : Nm.valid n = true) (h : Known n S) : (S.name n false).size = S.size + n.length ∧ Known n (S.name n false) := by
  have e : S.name n false = S.put n := by unfold WS.name; rw [if_neg (by rw [hv]; decide), if_neg (by decide)]
  rw [e]
  exact ⟨rfl, h⟩
theorem name_fresh {n : List UInt8} {S : WS} (hv : Nm.valid n = true) (hr : n ≠ [0]) (ht : S.tab = []) (hs : S.size + n.length < 16384) : (S.name n true).size = S.size + n.length ∧ Known n (S.name n true) := by
  obtain ⟨l, r, h1, h2⟩ := labs_ne hv hr
  have e : S.name n true = S.sq (l :: r) := by unfold WS.name; rw [if_neg (by rw [hv]; decide), if_pos rfl, h1]
  have hl : n.length = Nm.encL (l :: r) + 1 := by rw [h2, Nm.made_length]
  obtain ⟨s1, s2, _⟩ := sq_fresh (l :: r) S (fun t _ _ => by rw [ht]; rfl) (by omega)
  rw [e]
  exact ⟨by omega, by unfold Known; rw [h2]; exact s2 _ (List.suffix_refl _) (by simp)⟩
theorem set_known {n : List UInt8} {S : WS} (h : Known n S) (z v : Int) : Known n (S.set z v) := by
  unfold WS.set; split
  · exact h
  · exact h
def mxR (n : List UInt8) : Rd.RR := ⟨n, 15, 1, 0, [49, 50] ++ n⟩
def srvR (n : List UInt8) : Rd.RR := ⟨n, 33, 1, 0, [49, 50, 51, 52, 53, 54] ++ n⟩
def rawR (n : List UInt8) : Rd.RR := ⟨n, 99, 1, 0, n⟩
theorem parts_srv {l : List UInt8} (h : Nm.valid l = true) : Rd.parts 33 ([49, 50, 51, 52, 53, 54] ++ l) = some [(6, l.length)] := by
  have h1 := Rd.run_one (q := [49, 50, 51, 52, 53, 54]) (l := l) (r := []) h
  rw [List.append_nil] at h1
  refine Rd.parts_form (a := 6) (n := 1) (b := 0) (by omega) rfl (by have := Rd.valid_len h; simp; omega) ?_ (by omega)
  have e : ([49, 50, 51, 52, 53, 54] ++ l).length - 0 = [49, 50, 51, 52, 53, 54].length + l.length := by simp; omega
  exact (show Rd.run ([49, 50, 51, 52, 53, 54] ++ l) 1 6 = some ([(6, l.length)], ([49, 50, 51, 52, 53, 54] ++ l).length - 0) from by rw [e]; exact h1)
theorem parts_raw {l : List UInt8} (h : l.length ≤ 1000) : Rd.parts 99 l = some [] := by
  unfold Rd.parts
  rw [if_neg (by omega), if_neg (by decide)]
  rfl
theorem triple_check {n : List UInt8} (hv : Nm.valid n = true) : Rd.check (mxR n) = true ∧ Rd.check (srvR n) = true ∧ Rd.check (rawR n) = true := by
  have hl := Rd.valid_len hv
  have c : ∀ (t : Int) (d : List UInt8), Rd.dataOk t d = true → 1 ≤ t ∧ t ≤ 65535 ∧ t ≠ 41 → Rd.check ⟨n, t, 1, 0, d⟩ = true := fun t d hd ht => by
    unfold Rd.check
    simp only [hv, hd, Bool.and_true, Bool.true_and, decide_eq_true_eq]
    omega
  exact ⟨c _ _ (Rd.partsD_some (Rd.parts_mx 49 50 hv)).1 (by decide), c _ _ (Rd.partsD_some (parts_srv hv)).1 (by decide), c _ _ (Rd.partsD_some (parts_raw (by omega))).1 (by decide)⟩
theorem wR_known {n : List UInt8} {S : WS} {t : Int} {d : List UInt8} (hv : Nm.valid n = true) (hr : n ≠ [0]) (h : Known n S) {k : Nat}
    (hD : ∀ T : WS, Known n T → (wD T ⟨n, t, 1, 0, d⟩).size = T.size + k ∧ Known n (wD T ⟨n, t, 1, 0, d⟩)) : (wR S ⟨n, t, 1, 0, d⟩).size = S.size + 12 + k ∧ Known n (wR S ⟨n, t, 1, 0, d⟩) := by
  obtain ⟨a1, a2⟩ := name_known hv hr h
  have h1 : (wR S ⟨n, t, 1, 0, d⟩).size = (wD ((wR0 S ⟨n, t, 1, 0, d⟩).put (two 0)) ⟨n, t, 1, 0, d⟩).size := wRc_size _ _
  have h2 := wR0_size S ⟨n, t, 1, 0, d⟩
  obtain ⟨b1, b2⟩ := hD ((wR0 S ⟨n, t, 1, 0, d⟩).put (two 0)) a2
  have h3 : ((wR0 S ⟨n, t, 1, 0, d⟩).put (two 0)).size = (wR0 S ⟨n, t, 1, 0, d⟩).size + 2 := rfl
  refine ⟨?_, set_known b2 _ _⟩
  rw [h1, b1, h3, h2]
  show (S.name n true).size + 8 + 2 + k = _
  omega
theorem wD_mx {n : List UInt8} (hv : Nm.valid n = true) (hr : n ≠ [0]) (T : WS) (h : Known n T) : (wD T (mxR n)).size = T.size + 4 ∧ Known n (wD T (mxR n)) := by
  have hp : Rd.partsD 15 ([49, 50] ++ n) = [(2, n.length)] := (Rd.partsD_some (Rd.parts_mx 49 50 hv)).2
  have e : wD T (mxR n) = ((T.put [49, 50]).name n true).put [] := by
    unfold wD mxR
    simp only
    rw [hp]
    show (((T.put (([49, 50] ++ n).take 2)).name (([49, 50] ++ n).drop 2 |>.take n.length) true).put (([49, 50] ++ n).drop (2 + n.length))) = _
    have e1 : ([49, 50] ++ n).take 2 = [49, 50] := rfl
    have e2 : ([49, 50] ++ n).drop 2 = n := rfl
    rw [e1, e2, List.take_of_length_le (Nat.le_refl _), List.drop_of_length_le (by simp; omega)]
  obtain ⟨a1, a2⟩ := name_known (S := T.put [49, 50]) hv hr h
  rw [e]
  refine ⟨?_, a2⟩
  show ((T.put [49, 50]).name n true).size + 0 = _
  rw [a1]
  rfl
theorem wD_srv {n : List UInt8} (hv : Nm.valid n = true) (T : WS) (h : Known n T) : (wD T (srvR n)).size = T.size + (6 + n.length) ∧ Known n (wD T (srvR n)) := by
  have hp : Rd.partsD 33 ([49, 50, 51, 52, 53, 54] ++ n) = [(6, n.length)] := (Rd.partsD_some (parts_srv hv)).2
  have e : wD T (srvR n) = ((T.put [49, 50, 51, 52, 53, 54]).name n false).put [] := by
    unfold wD srvR
    simp only
    rw [hp]
    show (((T.put (([49, 50, 51, 52, 53, 54] ++ n).take 6)).name (([49, 50, 51, 52, 53, 54] ++ n).drop 6 |>.take n.length) false).put (([49, 50, 51, 52, 53, 54] ++ n).drop (6 + n.length))) = _
    have e1 : ([49, 50, 51, 52, 53, 54] ++ n).take 6 = [49, 50, 51, 52, 53, 54] := rfl
    have e2 : ([49, 50, 51, 52, 53, 54] ++ n).drop 6 = n := rfl
    rw [e1, e2, List.take_of_length_le (Nat.le_refl _), List.drop_of_length_le (by simp; omega)]
  obtain ⟨a1, a2⟩ := name_whole (S := T.put [49, 50, 51, 52, 53, 54]) hv h
  rw [e]
  refine ⟨?_, a2⟩
  show ((T.put [49, 50, 51, 52, 53, 54]).name n false).size + 0 = _
  rw [a1]
  show T.size + 6 + n.length + 0 = _
  omega
theorem wD_raw {n : List UInt8} (hv : Nm.valid n = true) (T : WS) (h : Known n T) : (wD T (rawR n)).size = T.size + n.length ∧ Known n (wD T (rawR n)) := by
  have hl := Rd.valid_len hv
  have hp : Rd.partsD 99 n = [] := (Rd.partsD_some (parts_raw (by omega))).2
  have e : wD T (rawR n) = T.put n := by
    unfold wD rawR
    simp only
    rw [hp]
    rfl
  rw [e]
  exact ⟨rfl, h⟩
/-- So many times three records. -/
def triples (n : List UInt8) : Nat → List Rd.RR
  | 0 => []
  | k + 1 => triples n k ++ [mxR n, srvR n, rawR n]
theorem triples_len (n : List UInt8) : ∀ k, (triples n k).length = 3 * k
  | 0 => rfl
  | k + 1 => by unfold triples; rw [List.length_append, triples_len n k]; simp; omega
theorem triples_check {n : List UInt8} (hv : Nm.valid n = true) : ∀ k, (triples n k).all Rd.check = true
  | 0 => rfl
  | k + 1 => by
    obtain ⟨c1, c2, c3⟩ := triple_check hv
    unfold triples
    rw [List.all_append, triples_check hv k, List.all_cons, List.all_cons, List.all_cons, c1, c2, c3]; rfl
theorem triples_size {n : List UInt8} (hv : Nm.valid n = true) (hr : n ≠ [0]) : ∀ (k : Nat) (S : WS), Known n S → ((triples n k).foldl wR S).size = S.size + k * (46 + 2 * n.length) ∧ Known n ((triples n k).foldl wR S)
  | 0, S, h => ⟨by simp [triples], h⟩
  | k + 1, S, h => by
    obtain ⟨i1, i2⟩ := triples_size hv hr k S h
    unfold triples
    rw [List.foldl_append, List.foldl_cons, List.foldl_cons, List.foldl_cons, List.foldl_nil]
    obtain ⟨a1, a2⟩ := wR_known (t := 15) (d := [49, 50] ++ n) hv hr i2 (wD_mx hv hr)
    obtain ⟨b1, b2⟩ := wR_known (t := 33) (d := [49, 50, 51, 52, 53, 54] ++ n) hv hr a2 (wD_srv hv)
    obtain ⟨c1, c2⟩ := wR_known (t := 99) (d := n) hv hr b2 (wD_raw hv)
    refine ⟨?_, c2⟩
    show (wR (wR (wR ((triples n k).foldl wR S) ⟨n, 15, 1, 0, [49, 50] ++ n⟩) ⟨n, 33, 1, 0, [49, 50, 51, 52, 53, 54] ++ n⟩) ⟨n, 99, 1, 0, n⟩).size = _
    rw [c1, b1, a1, i1, Nat.add_mul]
    omega
def namesM (n : List UInt8) (k : Nat) : M := { M.zero with qs := [⟨n, 1, 1⟩], an := triples n k }
theorem namesM_check {n : List UInt8} (hv : Nm.valid n = true) (k : Nat) : check (namesM n k) = decide (3 * k ≤ 64) := by
  have h1 : checkH (namesM n k) = true := by
    unfold checkH
    rw [decide_eq_true_eq]
    exact ⟨(by decide : (0 : Int) ≤ 0 ∧ (0 : Int) ≤ 65535), (by decide : (0 : Int) ≤ 0 ∧ (0 : Int) ≤ 15), (by decide : (0 : Int) ≤ 0 ∧ (0 : Int) ≤ 15), (by decide : 1 ≤ 4), (by decide : (0 : Int) ≤ 0 ∧ (0 : Int) ≤ 65535), .inl rfl⟩
  have h2 : checkQ ⟨n, 1, 1⟩ = true := by unfold checkQ; rw [Bool.and_eq_true]; exact ⟨hv, (by decide : decide ((0 : Int) ≤ 1 ∧ (1 : Int) ≤ 65535 ∧ (0 : Int) ≤ 1 ∧ (1 : Int) ≤ 65535) = true)⟩
  unfold check
  rw [h1]
  show (true && ((checkQ ⟨n, 1, 1⟩ && true) && (checkL (triples n k) && (checkL [] && checkL [])))) = _
  rw [h2]
  unfold checkL
  rw [triples_check hv, triples_len]
  simp
theorem namesM_size {n : List UInt8} (hv : Nm.valid n = true) (hr : n ≠ [0]) (k : Nat) : (wAll (namesM n k)).size = 16 + n.length + k * (46 + 2 * n.length) := by
  have hl := Rd.valid_len hv
  obtain ⟨_, k1, _⟩ := okw_head (namesM n k)
  obtain ⟨a1, a2⟩ := name_fresh (S := (WS.new 4096).put (head (namesM n k))) hv hr rfl (by rw [k1]; omega)
  have hw : wAll (namesM n k) = (triples n k).foldl wR ((((WS.new 4096).put (head (namesM n k))).name n true).put (two 1) |>.put (two 1)) := rfl
  obtain ⟨b1, _⟩ := triples_size hv hr k ((((WS.new 4096).put (head (namesM n k))).name n true).put (two 1) |>.put (two 1)) a2
  rw [hw, b1]
  show (((WS.new 4096).put (head (namesM n k))).name n true).size + 2 + 2 + _ = _
  rw [a1, k1]
  omega

/-! ### What fits -/
theorem oneOf_enc {a b c : Nat} (ha : a ≤ 64) (hb : b ≤ 64) (hc : c ≤ 64) (cut : Bool) : (enc (oneOf a b c false 0 cut)).2 = 0 ∧ (enc (oneOf a b c false 0 cut)).1.length = 19 + 15 * (a + b + c) ∧ dec (enc (oneOf a b c false 0 cut)).1 = (oneOf a b c false 0 cut, true, true) := by
  have hck : check (oneOf a b c false 0 cut) = true := by rw [oneOf_check a b c (by decide) (.inl rfl) cut, decide_eq_true_eq]; exact ⟨ha, hb, hc⟩
  have hs := oneOf_size a b c false 0 cut
  simp only [Bool.false_eq_true, if_false, Nat.add_zero] at hs
  obtain ⟨_, h2, h3, h4, h5⟩ := back hck (by omega)
  obtain ⟨e1, e2⟩ := enc_yes hck (by omega)
  rw [e1]
  refine ⟨rfl, h2.trans hs, ?_⟩
  unfold dec
  rw [if_neg (by show ¬ (wAll (oneOf a b c false 0 cut)).out.length < 12; omega), h4]
theorem fit_small {a b c : Nat} (ha : a ≤ 64) (hb : b ≤ 64) (hc : c ≤ 64) {most : Int} (h : most < 19) : fit (oneOf a b c false 0 false) most = ([], 3) := by
  have e := fun a' b' c' (h1 : a' ≤ 64) (h2 : b' ≤ 64) (h3 : c' ≤ 64) cut => oneOf_enc h1 h2 h3 cut (a := a') (b := b') (c := c')
  obtain ⟨e1, e2, _⟩ := e a b c ha hb hc false
  have d0 : drops (oneOf a b c false 0 false) 0 = oneOf a b 0 false 0 true := rfl
  have d1 : drops (oneOf a b c false 0 false) 1 = oneOf a 0 0 false 0 true := rfl
  have d2 : drops (oneOf a b c false 0 false) 2 = oneOf 0 0 0 false 0 true := rfl
  obtain ⟨_, f0, _⟩ := e a b 0 ha hb (by omega) true
  obtain ⟨_, f1, _⟩ := e a 0 0 ha (by omega) (by omega) true
  obtain ⟨_, f2, _⟩ := e 0 0 0 (by omega) (by omega) (by omega) true
  unfold fit
  rw [if_neg (by rw [e1]; decide), if_neg (by rw [e2]; omega)]
  unfold fitF fitF fitF fitF
  rw [d0, d1, d2, if_neg (by rw [f0]; omega), if_neg (by rw [f1]; omega), if_neg (by rw [f2]; omega)]
/-- Which of the messages is told. -/
theorem fit_big {a b c : Nat} (ha : a ≤ 64) (hb : b ≤ 64) (hc : c ≤ 64) {most : Int} (h : 19 ≤ most) :
    ∃ m', fit (oneOf a b c false 0 false) most = ((enc m').1, 0) ∧ ((enc m').1.length : Int) ≤ most ∧ dec (enc m').1 = (m', true, true) ∧
      m' = (if 19 + 15 * ((a : Int) + b + c) ≤ most then oneOf a b c false 0 false else if 19 + 15 * ((a : Int) + b) ≤ most then oneOf a b 0 false 0 true else if 19 + 15 * (a : Int) ≤ most then oneOf a 0 0 false 0 true else oneOf 0 0 0 false 0 true) := by
  have e := fun a' b' c' (h1 : a' ≤ 64) (h2 : b' ≤ 64) (h3 : c' ≤ 64) cut => oneOf_enc h1 h2 h3 cut (a := a') (b := b') (c := c')
  obtain ⟨e1, e2, e3⟩ := e a b c ha hb hc false
  have d0 : drops (oneOf a b c false 0 false) 0 = oneOf a b 0 false 0 true := rfl
  have d1 : drops (oneOf a b c false 0 false) 1 = oneOf a 0 0 false 0 true := rfl
  have d2 : drops (oneOf a b c false 0 false) 2 = oneOf 0 0 0 false 0 true := rfl
  obtain ⟨f0, f0', f0''⟩ := e a b 0 ha hb (by omega) true
  obtain ⟨f1, f1', f1''⟩ := e a 0 0 ha (by omega) (by omega) true
  obtain ⟨f2, f2', f2''⟩ := e 0 0 0 (by omega) (by omega) (by omega) true
  unfold fit
  rw [if_neg (by rw [e1]; decide)]
  by_cases h1 : 19 + 15 * ((a : Int) + b + c) ≤ most
  · rw [if_pos h1, if_pos ⟨e1, by rw [e2]; omega⟩]
    exact ⟨_, rfl, by rw [e2]; omega, e3, rfl⟩
  · rw [if_neg h1, if_neg (by rw [e2]; omega)]
    unfold fitF
    rw [d0]
    by_cases h2 : 19 + 15 * ((a : Int) + b) ≤ most
    · rw [if_pos h2, if_pos ⟨f0, by rw [f0']; omega⟩]
      exact ⟨_, rfl, by rw [f0']; omega, f0'', rfl⟩
    · rw [if_neg h2, if_neg (by rw [f0']; omega)]
      unfold fitF
      rw [d1]
      by_cases h3 : 19 + 15 * (a : Int) ≤ most
      · rw [if_pos h3, if_pos ⟨f1, by rw [f1']; omega⟩]
        exact ⟨_, rfl, by rw [f1']; omega, f1'', rfl⟩
      · rw [if_neg h3, if_neg (by rw [f1']; omega)]
        unfold fitF
        rw [d2, if_pos ⟨f2, by rw [f2']; omega⟩]
        exact ⟨_, rfl, by rw [f2']; omega, f2'', rfl⟩
end Go.Proofs.Ytfmghbmbahembaa.Ms

/- Round. -/
namespace Go.Proofs.Ytfmghbmbahembaa
open Go.RowKit Go.Shelf

def roundI (k n : Int) : Int := (k.tmod n + n).tmod n
theorem roundI_bounds (k n : Int) (h : 0 < n) : 0 ≤ roundI k n ∧ roundI k n < n := by
  unfold roundI
  have h1 : -n < k.tmod n := Int.lt_tmod_of_pos k h
  have h2 : 0 ≤ k.tmod n + n := by omega
  exact ⟨Int.tmod_nonneg _ h2, Int.tmod_lt_of_pos _ h⟩

set_option maxHeartbeats 400000 in
theorem round_any (k n : Int) (w : World) (h1 : 1 ≤ n) (h2 : n ≤ 1000000) (_hk1 : -9223372036854775808 ≤ k) (_hk2 : k ≤ 9223372036854775807) :
    Calls Try.prog 17 #[.int .i64 k, .int .i64 n] w fun e w' => e = .returned (.int .i64 (roundI k n)) ∧ w = w' := by
  have hn0 : (n == 0) = false := by rw [beq_eq_false_iff_ne]; omega
  go_enter Try.func17, Try.ntmps17
  go_wp2
  go_ret
  have hlo := Int.lt_tmod_of_pos k (show 0 < n by omega)
  have hhi := Int.tmod_lt_of_pos k (show 0 < n by omega)
  refine ⟨ret_int ?_, rfl⟩
  unfold roundI
  generalize k.tmod n = m at *
  rw [show wrap64 (m + n) = m + n by unfold wrap64; omega]
end Go.Proofs.Ytfmghbmbahembaa
