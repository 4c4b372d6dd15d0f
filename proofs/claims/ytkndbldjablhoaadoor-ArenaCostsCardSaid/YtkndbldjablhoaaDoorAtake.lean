/- The least handle that is free. -/
import Derived.Test.YtkndbldjablhoaaDoorAhdrop
import Derived.Deep.LoopGhost
import Derived.Deep.CutRange
set_option maxRecDepth 100000
namespace Go.Proofs.YtkndbldjablhoaaDoor
open Go.RowKit Go.Shelf
namespace Ar
/-- The word l has a bit that is not set: its lowest one is taken. -/
def takeH (S : St) (l place : Nat) : St :=
  { S with us := S.us.set l (S.us.getD l 0 ||| 2 ^ Lib.ctz 64 (18446744073709551615 - S.us.getD l 0)), low := l, pl := S.pl.set (l * 64 + Lib.ctz 64 (18446744073709551615 - S.us.getD l 0)) place }
end Ar
/-- The table of math/bits. -/
def TabOk (w : World) : Prop := TabAt 0 Lib.deBruijn64tab w
theorem cell_lt {W : World} {a : Addr} {v : Value} (h : W.cell? a = some v) : a.block < W.heap.size := by
  rcases Nat.lt_or_ge a.block W.heap.size with h' | h'
  · exact h'
  · simp [World.cell?, Array.getElem?_eq_none h'] at h
theorem TabOk.trn {f : Nat → Prop} {w W : World} (h : TabOk w) (ht : Trn f w W) (hG : ¬ f 0) : TabOk W := fun j hj =>
  (World.cell?_of_block (a := ⟨0, j, none⟩) (ht.block _ (cell_lt (h j hj)) hG)).trans (h j hj)
theorem TabOk.drew {w : World} (h : TabOk w) (n : Nat) : TabOk (w.drewN n) := h
theorem xor_max (x : Nat) (hx : x < 18446744073709551616) : bits .xor .u64 (if IntKind.u64.signed = true then -1 else IntKind.u64.max) (x : Int) = ((18446744073709551615 - x : Nat) : Int) := by
  have e : (if IntKind.u64.signed = true then (-1 : Int) else IntKind.u64.max) = ((18446744073709551615 : Nat) : Int) := by decide
  have e2 : 18446744073709551615 ^^^ x = 18446744073709551615 - x := by
    apply Nat.eq_of_testBit_eq
    intro i
    have h1 := Nat.testBit_two_pow_sub_succ (n := 64) (x := x) hx i
    have h2 := Nat.testBit_two_pow_sub_one 64 i
    rw [show (2 : Nat) ^ 64 - (x + 1) = 18446744073709551615 - x by omega] at h1
    rw [show (2 : Nat) ^ 64 - 1 = 18446744073709551615 by decide] at h2
    rw [h1, Nat.testBit_xor, h2]
    by_cases hi : i < 64
    · simp [hi]
    · have : x.testBit i = false := Nat.testBit_lt_two_pow (Nat.lt_of_lt_of_le hx (Nat.pow_le_pow_right (show 0 < 2 by decide) (show 64 ≤ i by omega)))
      simp [hi, this]
  rw [e, bits_xor_u64_nat _ _ (by decide) hx, e2]
theorem tz_any (x : Nat) (z : Int) (w : World) (hz : z = (x : Int)) (hx : x < 18446744073709551616) (hT : TabOk w) :
    Calls Tryd.prog 55 #[.int .u64 z] w fun e w' => e = .returned (.int .i64 (Lib.ctz 64 x : Int)) ∧ w = w' := by
  subst hz
  exact (Any7.bits_TrailingZeros64 Tryd.lays29 x hx w (fun _ => hT)).mono fun e w' ⟨h1, h2⟩ => ⟨h1, h2.symm⟩
theorem ctz_lt {x : Nat} (h0 : x ≠ 0) (h : x < 18446744073709551616) : Lib.ctz 64 x < 64 := by
  unfold Lib.ctz
  rw [if_neg h0]
  obtain ⟨m, _, hk⟩ := Lib.ctzFrom_spec 64 x (by omega) h
  exact hk
set_option maxHeartbeats 4000000 in
theorem take_any (A : Nat) (L : Loc) (S : Ar.St) (f : Nat → Prop) (l place : Nat) (w : World) (hA : ArE A L S f w) (hl : l < S.us.length) (hlow : S.low ≤ l) (hfull : ∀ j, S.low ≤ j → j < l → S.us.getD j 0 = 18446744073709551615) (hfree : S.us.getD l 0 < 18446744073709551615) (h3 : S.pl.length ≤ 1000000) (h4 : S.pl.length = 64 * S.us.length) (hp : place ≤ 1048576) (hT : TabOk w) (hG : ¬ f 0) :
    Calls Tryd.prog 34 #[.pointer (some ⟨A, 2, none⟩), .int .i64 (place : Int)] w fun e w' => e = .returned (.int .i64 ((l * 64 + Lib.ctz 64 (18446744073709551615 - S.us.getD l 0) + 1 : Nat) : Int)) ∧ Trn f w w' ∧ ArE A L (Ar.takeH S l place) f w' := by
  have hub : S.us.length ≤ 1000000 := by omega
  have H4 := Lib.hid h4
  have HFull := Lib.hid hfull
  clear hfull h4
  have HA := Lib.hid hA
  clear hA
  go_enter Tryd.func34, Tryd.ntmps34
  go_wp2
  go_loopg [] (l - S.low) (fun g wr => ∃ j : Nat, S.low ≤ j ∧ j ≤ l ∧ g = l - j ∧ Hid (Trn f w wr) ∧ Hid (ArE A L { S with low := j } f wr))
  case atStart => exact ⟨S.low, by omega, hlow, rfl, Lib.hid (Trn.refl f w), HA⟩
  case round =>
    obtain ⟨j, hj1, hj2, rfl, ht, hA⟩ := hrel
    by_cases hlt : j < l
    · have hc3 := hA.out.cells.2.2.2.1
      have hc4 := hA.out.cells.2.2.2.2.1
      have hf4 := hA.out.box.frozen 4
      have hj3 : j < S.us.length := by omega
      have hu := hA.out.us.cell (i := j) (v := encU (S.us.getD j 0)) (by simp [hj3])
      rw [HFull.out j hj1 hlt] at hu
      unfold encU at hu
      unfold encI at hc4
      simp only at hc3 hc4
      go_wp2
      go_quiet (fail)
      generalize hW1 : wr.drewN nq = W1
      have hA1 := hW1 ▸ hA.out.drew nq
      have ht1 := hW1 ▸ ht.out.trans (Trn.drew wr nq)
      have hc4 := hA1.cells.2.2.2.2.1
      have hf4 := hA1.box.frozen 4
      unfold encI at hc4
      simp only at hc4
      have hA2 := hA1.setBox (S' := { S with low := j + 1 }) 4 (encI (j + 1)) rfl rfl rfl rfl rfl
      have ht2 := ht1.trans (Trn.set hA1.box (.inl hA1.fA) 4 (encI (j + 1)))
      have R := Lib.hid (And.intro ht2 hA2)
      clear hW1 ht2 hA2 ht1 hA1 ht hA
      unfold encI at R
      go_wp2
      go_roundg (l - (j + 1))
      case rel => exact ⟨j + 1, by omega, by omega, rfl, Lib.hid R.out.1, Lib.hid R.out.2⟩
      case measure => omega
    · obtain rfl : j = l := by omega
      have hc3 := hA.out.cells.2.2.2.1
      have hc4 := hA.out.cells.2.2.2.2.1
      have hu := hA.out.us.cell (i := j) (v := encU (S.us.getD j 0)) (by simp [hl])
      have hmx := hfree
      generalize hx : S.us.getD j 0 = x at hu hfree hmx ⊢
      have hne : ((x : Int) == 18446744073709551615) = false := by rw [beq_eq_false_iff_ne]; omega
      unfold encU at hu
      unfold encI at hc4
      simp only at hc3 hc4
      have Hx := Lib.hid hx
      clear hx
      go_wp2
      go_quiet (fail)
      generalize hW1 : wr.drewN nq = W1
      have hA1 := hW1 ▸ hA.out.drew nq
      have ht1 := hW1 ▸ ht.out.trans (Trn.drew wr nq)
      clear hc3 hc4 hu hne
      have hc3 := hA1.cells.2.2.2.1
      have hc4 := hA1.cells.2.2.2.2.1
      have hu := hA1.us.cell (i := j) (v := encU x) (by rw [← Hx.out]; simp [hl])
      have hT1 := hT.trn ht1 hG
      unfold encU at hu
      unfold encI at hc4
      simp only at hc3 hc4
      have HA1 := Lib.hid hA1
      have HT1 := Lib.hid ht1
      clear hA1 ht1 hA ht
      have HTZ : Hid (∀ (z : Int) (W : World), z = bits .xor .u64 (if IntKind.u64.signed = true then -1 else IntKind.u64.max) (x : Int) → TabOk W → Calls Tryd.prog 55 #[.int .u64 z] W fun e w' => e = .returned (.int .i64 (Lib.ctz 64 (18446744073709551615 - x) : Int)) ∧ w' = W) := Lib.hid (fun z W hz hT => (tz_any (18446744073709551615 - x) z W (hz.trans (xor_max x (by omega))) (by omega) hT).mono fun _ _ h => ⟨h.1, h.2.symm⟩)
      have hc64 : Lib.ctz 64 (18446744073709551615 - x) < 64 := ctz_lt (by omega) (by omega)
      have HS : Hid (Ar.takeH S j place = { S with us := S.us.set j (x ||| 2 ^ Lib.ctz 64 (18446744073709551615 - x)), low := j, pl := S.pl.set (j * 64 + Lib.ctz 64 (18446744073709551615 - x)) place }) := Lib.hid (by rw [← Hx.out]; rfl)
      have HC : Hid (Lib.ctz 64 (18446744073709551615 - S.us.getD j 0) = Lib.ctz 64 (18446744073709551615 - x)) := Lib.hid (by rw [Hx.out])
      generalize Lib.ctz 64 (18446744073709551615 - x) = c at HTZ hc64 HS HC
      have hkl : j * 64 + c < S.pl.length := by have := H4.out; omega
      have hjc : j * 64 + c ≤ 1000000 := by have := H4.out; omega
      have HOR : Hid (∀ m : Nat, m = 2 ^ ((j * 64 + c) % 64) → bits .or .u64 (x : Int) (m : Int) = ((x ||| 2 ^ c : Nat) : Int)) := Lib.hid fun m e => by
        rw [show (j * 64 + c) % 64 = c by omega] at e
        subst e
        exact u64_or_nat _ _ (by omega) (pow_lt64 hc64)
      go_wp2
      go_quiet ((go_at_call 55; exact Calls.quiet_of_same (HTZ.out _ _ rfl (hT1.drew _))))
      generalize hW2 : W1.drewN nq = W2
      have hA2 := hW2 ▸ HA1.out.drew nq
      have ht2 := hW2 ▸ HT1.out.trans (Trn.drew W1 nq)
      clear hc3 hc4 hu HA1 HT1 hW2
      go_wp2_with (go_at_call 56; (with_reducible refine (bit_any _ (j * 64 + c) _ (by omega) (by omega)).mono ?_); rintro e w' ⟨m, hm, rfl, n, rfl⟩; have hor := HOR.out m hm.out; refine Hid.out ?_)
      refine Lib.hid ?_
      generalize hW3 : W2.drewN n = W3
      have hA3 := hW3 ▸ hA2.drew n
      have ht3 := hW3 ▸ ht2.trans (Trn.drew W2 n)
      clear hA2 ht2 hW3
      have hc3 := hA3.cells.2.2.2.1
      have hc4 := hA3.cells.2.2.2.2.1
      have hu := hA3.us.cell (i := j) (v := encU x) (by rw [← Hx.out]; simp [hl])
      have hfu := hA3.us.frozen j
      unfold encU at hu
      unfold encI at hc4
      simp only at hc3 hc4
      have HA3 := Lib.hid hA3
      have HT3 := Lib.hid ht3
      clear hA3 ht3
      go_wp2
      have hb := HA3.out.us.set j (encU (x ||| 2 ^ c))
      rw [← List.map_set] at hb
      have hA4 := (HA3.out.setUs hb (by simp) (fun i hi _ => Below.heap_setCell W3 ⟨L.U, j, none⟩ _ i hi) (by simp [World.setCell])).drw
      have ht4 := (HT3.out.trans (Trn.set HA3.out.us (.inl HA3.out.fU) j (encU (x ||| 2 ^ c)))).trans (Trn.drw _)
      unfold encU at hA4 ht4
      have HA4 := Lib.hid hA4
      have HT4 := Lib.hid ht4
      clear hA4 ht4 hb
      go_region
      generalize World.drew _ = W4 at HA4 HT4 ⊢
      go_wp2_with (go_at_call 57; (with_reducible refine (move_any A L _ f ((j : Int) * 64 + (c : Int) + 1) (j * 64 + c) place _ HA4.out (by omega) hkl h3 hp).mono ?_); rintro e w' ⟨rfl, ht5, hA5⟩)
      go_ret
      refine ⟨ret_int (by rw [HC.out]; omega), HT4.out.trans (ht5.mono (fun _ _ e => .inl e)), ?_⟩
      rw [HS.out]
      exact hA5
end Go.Proofs.YtkndbldjablhoaaDoor
