/- 4 texts put together: Atake, Afree, Atkf, Afit. -/
import Derived.Deep.LoopGhost
import Derived.Deep.CutRange
import Derived.Deep.RegionWith
import Derived.Deep.RegionHeld3
import Derived.IntWalk
import Derived.Test.YtagjjpmhacknpaaDoorJB2
import Derived.Test.YtagjjpmhacknpaaDoorJB3
/- The least handle that is free. -/
set_option maxRecDepth 100000
namespace Go.Proofs.YtagjjpmhacknpaaDoor
open Go.RowKit Go.Shelf
namespace Ar
/-- The word l has a bit that is not set: its lowest one is taken. -/
def takeH (S : St) (l place : Nat) : St :=
  { S with us := S.us.set l (S.us.getD l 0 ||| 2 ^ Lib.ctz 64 (18446744073709551615 - S.us.getD l 0)), low := l, pl := S.pl.set (l * 64 + Lib.ctz 64 (18446744073709551615 - S.us.getD l 0)) place }
end Ar
/-- The table of math/bits. -/
def TabOk (w : World) : Prop := TabAt 0 Lib.deBruijn64tab w
theorem cell_lt {W : World} {a : Addr} {v : Value} (h : W.cell? a = some v) : a.block < W.heap.size := by
  rcases Nat.lt_or_ge a.block W.heap.size with h' | h'
  · exact h'
  · simp [World.cell?, Array.getElem?_eq_none h'] at h
theorem TabOk.trn {f : Nat → Prop} {w W : World} (h : TabOk w) (ht : Trn f w W) (hG : ¬ f 0) : TabOk W := fun j hj =>
  (World.cell?_of_block (a := ⟨0, j, none⟩) (ht.block _ (cell_lt (h j hj)) hG)).trans (h j hj)
theorem TabOk.drew {w : World} (h : TabOk w) (n : Nat) : TabOk (w.drewN n) := h
theorem xor_max (x : Nat) (hx : x < 18446744073709551616) : bits .xor .u64 (if IntKind.u64.signed = true then -1 else IntKind.u64.max) (x : Int) = ((18446744073709551615 - x : Nat) : Int) := by
  have e : (if IntKind.u64.signed = true then (-1 : Int) else IntKind.u64.max) = ((18446744073709551615 : Nat) : Int) := by decide
  have e2 : 18446744073709551615 ^^^ x = 18446744073709551615 - x := by
    apply Nat.eq_of_testBit_eq
    intro i
    have h1 := Nat.testBit_two_pow_sub_succ (n := 64) (x := x) hx i
    have h2 := Nat.testBit_two_pow_sub_one 64 i
    rw [show (2 : Nat) ^ 64 - (x + 1) = 18446744073709551615 - x by omega] at h1
    rw [show (2 : Nat) ^ 64 - 1 = 18446744073709551615 by decide] at h2
    rw [h1, Nat.testBit_xor, h2]
    by_cases hi : i < 64
    · simp [hi]
    · have : x.testBit i = false := Nat.testBit_lt_two_pow (Nat.lt_of_lt_of_le hx (Nat.pow_le_pow_right (show 0 < 2 by decide) (show 64 ≤ i by omega)))
      simp [hi, this]
  rw [e, bits_xor_u64_nat _ _ (by decide) hx, e2]
theorem tz_any (x : Nat) (z : Int) (w : World) (hz : z = (x : Int)) (hx : x < 18446744073709551616) (hT : TabOk w) :
    Calls Tryd.prog 49 #[.int .u64 z] w fun e w' => e = .returned (.int .i64 (Lib.ctz 64 x : Int)) ∧ w = w' := by
  subst hz
  exact (Any7.bits_TrailingZeros64 Tryd.lays29 x hx w (fun _ => hT)).mono fun e w' ⟨h1, h2⟩ => ⟨h1, h2.symm⟩
theorem ctz_lt {x : Nat} (h0 : x ≠ 0) (h : x < 18446744073709551616) : Lib.ctz 64 x < 64 := by
  unfold Lib.ctz
  rw [if_neg h0]
  obtain ⟨m, _, hk⟩ := Lib.ctzFrom_spec 64 x (by omega) h
  exact hk
set_option maxHeartbeats 4000000 in
theorem take_any (A : Nat) (L : Loc) (S : Ar.St) (f : Nat → Prop) (l place : Nat) (w : World) (hA : ArE A L S f w) (hl : l < S.us.length) (hlow : S.low ≤ l) (hfull : ∀ j, S.low ≤ j → j < l → S.us.getD j 0 = 18446744073709551615) (hfree : S.us.getD l 0 < 18446744073709551615) (h3 : S.pl.length ≤ 1000000) (h4 : S.pl.length = 64 * S.us.length) (hp : place ≤ 1048576) (hT : TabOk w) (hG : ¬ f 0) :
    Calls Tryd.prog 28 #[.pointer (some ⟨A, 2, none⟩), .int .i64 (place : Int)] w fun e w' => e = .returned (.int .i64 ((l * 64 + Lib.ctz 64 (18446744073709551615 - S.us.getD l 0) + 1 : Nat) : Int)) ∧ Trn f w w' ∧ ArE A L (Ar.takeH S l place) f w' := by
  have hub : S.us.length ≤ 1000000 := by omega
  have H4 := Lib.hid h4
  have HFull := Lib.hid hfull
  clear hfull h4
  have HA := Lib.hid hA
  clear hA
  go_enter Tryd.func28, Tryd.ntmps28
  go_wp2
  go_loopg [] (l - S.low) (fun g wr => ∃ j : Nat, S.low ≤ j ∧ j ≤ l ∧ g = l - j ∧ Hid (Trn f w wr) ∧ Hid (ArE A L { S with low := j } f wr))
  case atStart => exact ⟨S.low, by omega, hlow, rfl, Lib.hid (Trn.refl f w), HA⟩
  case round =>
    obtain ⟨j, hj1, hj2, rfl, ht, hA⟩ := hrel
    by_cases hlt : j < l
    · have hc3 := hA.out.cells.2.2.2.1
      have hc4 := hA.out.cells.2.2.2.2.1
      have hf4 := hA.out.box.frozen 4
      have hj3 : j < S.us.length := by omega
      have hu := hA.out.us.cell (i := j) (v := encU (S.us.getD j 0)) (by simp [hj3])
      rw [HFull.out j hj1 hlt] at hu
      unfold encU at hu
      unfold encI at hc4
      simp only at hc3 hc4
      go_wp2
      go_quiet (fail)
      generalize hW1 : wr.drewN nq = W1
      have hA1 := hW1 ▸ hA.out.drew nq
      have ht1 := hW1 ▸ ht.out.trans (Trn.drew wr nq)
      have hc4 := hA1.cells.2.2.2.2.1
      have hf4 := hA1.box.frozen 4
      unfold encI at hc4
      simp only at hc4
      have hA2 := hA1.setBox (S' := { S with low := j + 1 }) 4 (encI (j + 1)) rfl rfl rfl rfl rfl
      have ht2 := ht1.trans (Trn.set hA1.box (.inl hA1.fA) 4 (encI (j + 1)))
      have R := Lib.hid (And.intro ht2 hA2)
      clear hW1 ht2 hA2 ht1 hA1 ht hA
      unfold encI at R
      go_wp2
      go_roundg (l - (j + 1))
      case rel => exact ⟨j + 1, by omega, by omega, rfl, Lib.hid R.out.1, Lib.hid R.out.2⟩
      case measure => omega
    · obtain rfl : j = l := by omega
      have hc3 := hA.out.cells.2.2.2.1
      have hc4 := hA.out.cells.2.2.2.2.1
      have hu := hA.out.us.cell (i := j) (v := encU (S.us.getD j 0)) (by simp [hl])
      have hmx := hfree
      generalize hx : S.us.getD j 0 = x at hu hfree hmx ⊢
      have hne : ((x : Int) == 18446744073709551615) = false := by rw [beq_eq_false_iff_ne]; omega
      unfold encU at hu
      unfold encI at hc4
      simp only at hc3 hc4
      have Hx := Lib.hid hx
      clear hx
      go_wp2
      go_quiet (fail)
      generalize hW1 : wr.drewN nq = W1
      have hA1 := hW1 ▸ hA.out.drew nq
      have ht1 := hW1 ▸ ht.out.trans (Trn.drew wr nq)
      clear hc3 hc4 hu hne
      have hc3 := hA1.cells.2.2.2.1
      have hc4 := hA1.cells.2.2.2.2.1
      have hu := hA1.us.cell (i := j) (v := encU x) (by rw [← Hx.out]; simp [hl])
      have hT1 := hT.trn ht1 hG
      unfold encU at hu
      unfold encI at hc4
      simp only at hc3 hc4
      have HA1 := Lib.hid hA1
      have HT1 := Lib.hid ht1
      clear hA1 ht1 hA ht
      have HTZ : Hid (∀ (z : Int) (W : World), z = bits .xor .u64 (if IntKind.u64.signed = true then -1 else IntKind.u64.max) (x : Int) → TabOk W → Calls Tryd.prog 49 #[.int .u64 z] W fun e w' => e = .returned (.int .i64 (Lib.ctz 64 (18446744073709551615 - x) : Int)) ∧ w' = W) := Lib.hid (fun z W hz hT => (tz_any (18446744073709551615 - x) z W (hz.trans (xor_max x (by omega))) (by omega) hT).mono fun _ _ h => ⟨h.1, h.2.symm⟩)
      have hc64 : Lib.ctz 64 (18446744073709551615 - x) < 64 := ctz_lt (by omega) (by omega)
      have HS : Hid (Ar.takeH S j place = { S with us := S.us.set j (x ||| 2 ^ Lib.ctz 64 (18446744073709551615 - x)), low := j, pl := S.pl.set (j * 64 + Lib.ctz 64 (18446744073709551615 - x)) place }) := Lib.hid (by rw [← Hx.out]; rfl)
      have HC : Hid (Lib.ctz 64 (18446744073709551615 - S.us.getD j 0) = Lib.ctz 64 (18446744073709551615 - x)) := Lib.hid (by rw [Hx.out])
      generalize Lib.ctz 64 (18446744073709551615 - x) = c at HTZ hc64 HS HC
      have hkl : j * 64 + c < S.pl.length := by have := H4.out; omega
      have hjc : j * 64 + c ≤ 1000000 := by have := H4.out; omega
      have HOR : Hid (∀ m : Nat, m = 2 ^ ((j * 64 + c) % 64) → bits .or .u64 (x : Int) (m : Int) = ((x ||| 2 ^ c : Nat) : Int)) := Lib.hid fun m e => by
        rw [show (j * 64 + c) % 64 = c by omega] at e
        subst e
        exact u64_or_nat _ _ (by omega) (pow_lt64 hc64)
      go_wp2
      go_quiet ((go_at_call 49; exact Calls.quiet_of_same (HTZ.out _ _ rfl (hT1.drew _))))
      generalize hW2 : W1.drewN nq = W2
      have hA2 := hW2 ▸ HA1.out.drew nq
      have ht2 := hW2 ▸ HT1.out.trans (Trn.drew W1 nq)
      clear hc3 hc4 hu HA1 HT1 hW2
      go_wp2_with (go_at_call 50; (with_reducible refine (bit_any _ (j * 64 + c) _ (by omega) (by omega)).mono ?_); rintro e w' ⟨m, hm, rfl, n, rfl⟩; have hor := HOR.out m hm.out; refine Hid.out ?_)
      refine Lib.hid ?_
      generalize hW3 : W2.drewN n = W3
      have hA3 := hW3 ▸ hA2.drew n
      have ht3 := hW3 ▸ ht2.trans (Trn.drew W2 n)
      clear hA2 ht2 hW3
      have hc3 := hA3.cells.2.2.2.1
      have hc4 := hA3.cells.2.2.2.2.1
      have hu := hA3.us.cell (i := j) (v := encU x) (by rw [← Hx.out]; simp [hl])
      have hfu := hA3.us.frozen j
      unfold encU at hu
      unfold encI at hc4
      simp only at hc3 hc4
      have HA3 := Lib.hid hA3
      have HT3 := Lib.hid ht3
      clear hA3 ht3
      go_wp2
      have hb := HA3.out.us.set j (encU (x ||| 2 ^ c))
      rw [← List.map_set] at hb
      have hA4 := (HA3.out.setUs hb (by simp) (fun i hi _ => Below.heap_setCell W3 ⟨L.U, j, none⟩ _ i hi) (by simp [World.setCell])).drw
      have ht4 := (HT3.out.trans (Trn.set HA3.out.us (.inl HA3.out.fU) j (encU (x ||| 2 ^ c)))).trans (Trn.drw _)
      unfold encU at hA4 ht4
      have HA4 := Lib.hid hA4
      have HT4 := Lib.hid ht4
      clear hA4 ht4 hb
      go_region
      generalize World.drew _ = W4 at HA4 HT4 ⊢
      go_wp2_with (go_at_call 51; (with_reducible refine (move_any A L _ f ((j : Int) * 64 + (c : Int) + 1) (j * 64 + c) place _ HA4.out (by omega) hkl h3 hp).mono ?_); rintro e w' ⟨rfl, ht5, hA5⟩)
      go_ret
      refine ⟨ret_int (by rw [HC.out]; omega), HT4.out.trans (ht5.mono (fun _ _ e => .inl e)), ?_⟩
      rw [HS.out]
      exact hA5
end Go.Proofs.YtagjjpmhacknpaaDoor

/- Free pieces: takes, end, inside, putFree, takeFree. -/
set_option maxRecDepth 100000
namespace Go.Proofs.YtagjjpmhacknpaaDoor
open Go.RowKit Go.Shelf
namespace Ar
def Head.takes (p : Head) : Nat := if p.free then p.size else costI p.size
def fin (S : St) : Nat := S.mem.length / 16 * 16
end Ar
set_option maxHeartbeats 1000000 in
theorem takes_any (p : Ar.Head) (w : World) : Calls Tryd.prog 33 #[encH p] w fun e w' => e = .returned (.int .i64 (p.takes : Int)) ∧ Below w.heap.size w w' := by
  obtain ⟨fr, mk, ow, sz, ah⟩ := p
  unfold encH encI Ar.Head.takes
  simp only
  cases fr
  · go_enter Tryd.func33, Tryd.ntmps33
    go_wp2_with (go_at_call 20; (with_reducible refine (cost_any _ _).mono ?_); rintro e w' ⟨rfl, rfl⟩)
    go_ret
    exact ⟨rfl, (Below.refl _ _).alloc (Nat.le_refl _) _⟩
  · go_enter Tryd.func33, Tryd.ntmps33
    go_wp2
    go_ret
    exact ⟨rfl, (Below.refl _ _).alloc (Nat.le_refl _) _⟩
set_option maxHeartbeats 1000000 in
theorem end_any (A : Nat) (L : Loc) (S : Ar.St) (f : Nat → Prop) (w : World) (h : ArE A L S f w) (hm : S.mem.length ≤ 1048576) :
    Calls Tryd.prog 26 #[.pointer (some ⟨A, 0, none⟩)] w fun e w' => e = .returned (.int .i64 (Ar.fin S : Int)) ∧ w = w' := by
  have hc := h.cells.1
  unfold Ar.fin
  go_enter Tryd.func26, Tryd.ntmps26
  go_wp2
  go_ret
  exact ⟨ret_int (by omega), rfl⟩
theorem end_at (A : Nat) (L : Loc) (S : Ar.St) (f : Nat → Prop) (F : Nat) (w : World) (h : ArE A L S f w) (hm : S.mem.length ≤ 1048576) (hF : Ar.fin S = F) :
    Calls Tryd.prog 26 #[.pointer (some ⟨A, 0, none⟩)] w fun e w' => e = .returned (.int .i64 (F : Int)) ∧ w = w' := by
  subst hF
  exact end_any A L S f w h hm
/-- The lists of free pieces, in the box. -/
theorem ArE.che {A : Nat} {L : Loc} {S : Ar.St} {f : Nat → Prop} {w : World} (h : ArE A L S f w) (hn : S.nd.length ≤ 200000) : ChE A 5 66 (arBox L S) L.N L.cap L.rest S.nd S.spare w :=
  ⟨h.box, rfl, rfl, h.nd, h.cap, h.box.ne h.nd (by decide), hn, h.cm⟩
theorem ArE.unche {A : Nat} {L : Loc} {S : Ar.St} {f : Nat → Prop} {w w' : World} (h : ArE A L S f w) {N' cap' : Nat} {rest' : List Value} {ns : List Ar.Node} {spare : Nat} {bx : List Value} (k : ChE A 5 66 bx N' cap' rest' ns spare w') (hbx : bx = arBox { L with N := N', cap := cap', rest := rest' } { S with nd := ns, spare := spare })
    (ht : Trn (fun k => k = A ∨ k = L.N) w w') (hN : N' = L.N ∨ w.heap.size ≤ N') : Trn f w w' ∧ ArE A { L with N := N', cap := cap', rest := rest' } { S with nd := ns, spare := spare } (grow f w w') w' := by
  have hk : ∀ j l t, Blk w j l t → t ≠ 66 → t ≠ 93 → Blk w' j l t := fun j l t hj h1 h2 => hj.trn ht (fun e => e.elim (fun e => hj.ne h.box h1 e) (fun e => hj.ne h.nd h2 e))
  refine ⟨ht.mono (fun j _ e => e.elim (fun e => e ▸ h.fA) (fun e => e ▸ h.fN)), ⟨hbx ▸ k.box, hk _ _ _ h.mem (by decide) (by decide), hk _ _ _ h.pl (by decide) (by decide), hk _ _ _ h.us (by decide) (by decide), k.nd, k.hcap, k.cm, .inl h.fA, .inl h.fM, .inl h.fP, .inl h.fU, ?_, ?_⟩⟩
  · exact hN.elim (fun e => .inl (by show f N'; rw [e]; exact h.fN)) (fun e => .inr ⟨e, k.nd.lt⟩)
  · intro j e
    exact e.elim (fun e => Nat.lt_of_lt_of_le (h.fb j e) ht.size) (fun e => e.2)
/-- An arena, and what has been left alone. -/
structure Ars (A : Nat) (L : Loc) (S : Ar.St) (f : Nat → Prop) (w w' : World) : Prop where
  trn : Trn f w w'
  ar : ArE A L S (grow f w w') w'
theorem Ars.start {A : Nat} {L : Loc} {S : Ar.St} {f : Nat → Prop} {w : World} (h : ArE A L S f w) : Ars A L S f w w := ⟨Trn.refl f w, h.wide (fun _ e => .inl e) (fun k e => h.fb k (grow_self rfl k e))⟩
theorem Ars.same {A : Nat} {L L2 : Loc} {S S2 : Ar.St} {f : Nat → Prop} {w w1 w2 : World} (h : Ars A L S f w w1) (t2 : Trn (grow f w w1) w1 w2) (a2 : ArE A L2 S2 (grow f w w1) w2) : Ars A L2 S2 f w w2 :=
  ⟨h.trn.trans t2, a2.wide (fun _k e => e.elim .inl (fun e => .inr ⟨e.1, Nat.lt_of_lt_of_le e.2 t2.size⟩)) (fun k e => e.elim (fun e => a2.fb k (.inl e)) (fun e => e.2))⟩
theorem Ars.more {A : Nat} {L L2 : Loc} {S S2 : Ar.St} {f : Nat → Prop} {w w1 w2 : World} (h : Ars A L S f w w1) (t2 : Trn (grow f w w1) w1 w2) (a2 : ArE A L2 S2 (grow (grow f w w1) w1 w2) w2) : Ars A L2 S2 f w w2 :=
  ⟨h.trn.trans t2, a2.wide (fun k e => grow_trans h.trn.size t2.size k e) (fun k e => e.elim (fun e => a2.fb k (.inl (.inl e))) (fun e => e.2))⟩
theorem Ars.below {A : Nat} {L : Loc} {S : Ar.St} {f : Nat → Prop} {w w1 w2 : World} (h : Ars A L S f w w1) (b : Below w1.heap.size w1 w2) : Ars A L S f w w2 := h.same (Trn.of_below b) (h.ar.below b)
theorem Ars.drew {A : Nat} {L : Loc} {S : Ar.St} {f : Nat → Prop} {w w1 : World} (h : Ars A L S f w w1) (n : Nat) : Ars A L S f w (w1.drewN n) := h.same (Trn.drew w1 n) (h.ar.drew n)
theorem Ars.drw {A : Nat} {L : Loc} {S : Ar.St} {f : Nat → Prop} {w w1 : World} (h : Ars A L S f w w1) : Ars A L S f w w1.drew := h.same (Trn.drw w1) h.ar.drw
theorem Ars.unche {A : Nat} {L : Loc} {S : Ar.St} {f : Nat → Prop} {w w1 w2 : World} (h : Ars A L S f w w1) {N' cap' : Nat} {rest' : List Value} {ns : List Ar.Node} {spare : Nat} {bx : List Value} (k : ChE A 5 66 bx N' cap' rest' ns spare w2) (hbx : bx = arBox { L with N := N', cap := cap', rest := rest' } { S with nd := ns, spare := spare })
    (ht : Trn (fun k => k = A ∨ k = L.N) w1 w2) (hN : N' = L.N ∨ w1.heap.size ≤ N') : Ars A { L with N := N', cap := cap', rest := rest' } { S with nd := ns, spare := spare } f w w2 :=
  h.more (h.ar.unche k hbx ht hN).1 (h.ar.unche k hbx ht hN).2
theorem putHead_agg (A : Nat) (L : Loc) (S : Ar.St) (f : Nat → Prop) (z : Int) (a : Nat) (fr mk : Bool) (ow sz ah : Nat) (w : World) (hz : z = (a : Int)) (h : ArE A L S f w) (hm : S.mem.length ≤ 1048576) (ha : a + 8 ≤ S.mem.length) (h1 : ow < 1048576) (h2 : sz < 2097152) (h3 : ah < 2097152) :
    Calls Tryd.prog 45 #[.pointer (some ⟨A, 0, none⟩), .int .i64 z, .agg #[.bool fr, .bool mk, .int .i64 (ow : Int), .int .i64 (sz : Int), .int .i64 (ah : Int)]] w fun e w' => e = .returned (.tuple #[]) ∧ Trn f w w' ∧ ArE A L { S with mem := Ar.putHd S.mem a ⟨fr, mk, ow, sz, ah⟩ } f w' := by
  subst hz
  exact putHead_any A L S f a ⟨fr, mk, ow, sz, ah⟩ w h hm ha ⟨h1, h2, h3⟩
theorem below_trans' {W W1 : World} {o : Obj} (h : Below W.heap.size W W1) : Below W.heap.size W (W1.alloc o) := h.trans ((Below.refl _ _).alloc h.size _)
theorem head_agg (A : Nat) (L : Loc) (S : Ar.St) (f : Nat → Prop) (z : Int) (a : Nat) (p : Ar.Head) (w : World) (hz : z = (a : Int)) (h : ArE A L S f w) (hm : S.mem.length ≤ 1048576) (ha : a + 8 ≤ S.mem.length) (hp : Ar.headAt S.mem a = p) :
    Calls Tryd.prog 32 #[.pointer (some ⟨A, 0, none⟩), .int .i64 z] w fun e w' => e = .returned (.agg #[.bool p.free, .bool p.marked, .int .i64 (p.owner : Int), .int .i64 (p.size : Int), .int .i64 (p.ahead : Int)]) ∧ Below w.heap.size w w' := by
  subst hz
  subst hp
  exact head_any A L S f a w h hm ha
theorem Ar.headAt_fits (mem : List UInt8) (a : Nat) : (Ar.headAt mem a).fits := by
  unfold Ar.headAt Ar.headOf
  exact ⟨Nat.mod_lt _ (by decide), Nat.mod_lt _ (by decide), Nat.mod_lt _ (by decide)⟩
theorem Ar.putHd_len (mem : List UInt8) (a : Nat) (p : Ar.Head) (h : a + 8 ≤ mem.length) : (Ar.putHd mem a p).length = mem.length := Ar.put_len _ _ _ (by unfold Ar.byte8; rw [Ar.lastB_len]; omega)
theorem Ar.push_k (nd : List Ar.Node) (spare list value : Nat) (h : spare < nd.length) : (Ar.push nd spare list value).k ≤ nd.length := by
  unfold Ar.push
  simp only
  split <;> omega
/-- What a call that may make a new block of nodes leaves. -/
def ArRet (A : Nat) (S' : Ar.St) (f : Nat → Prop) (v : Value) (w : World) (e : Ending) (w' : World) : Prop := e = .returned v ∧ ∃ L', Ars A L' S' f w w'
namespace Ar
def putFree (S : St) (at_ size ahead : Nat) : St :=
  let R := push S.nd S.spare (cls size) at_
  let m := putHd S.mem at_ ⟨true, false, R.k, size, ahead⟩
  { S with nd := R.nd, spare := R.spare, mem := if at_ + size < S.mem.length / 16 * 16 then putHd m (at_ + size) { headAt m (at_ + size) with ahead := size } else m }
end Ar
set_option maxHeartbeats 4000000 in
theorem putFree_any (A : Nat) (L : Loc) (S : Ar.St) (f : Nat → Prop) (a size ahead : Nat) (w : World) (h : ArE A L S f w) (hm : S.mem.length ≤ 1048576) (h1 : 16 ≤ size) (h2 : a + size ≤ S.mem.length) (h16 : (a + size) % 16 = 0) (h3 : ahead ≤ 1048576)
    (hc1 : Ar.cls size < S.nd.length) (hc2 : (Ar.nodeAt S.nd (Ar.cls size)).n < S.nd.length) (hc3 : S.spare < S.nd.length) (hc4 : S.nd.length < 200000) :
    Calls Tryd.prog 25 #[.pointer (some ⟨A, 0, none⟩), .int .i64 (a : Int), .int .i64 (size : Int), .int .i64 (ahead : Int)] w (ArRet A (Ar.putFree S a size ahead) f (.tuple #[]) w) := by
  have hAl := h.box.lt
  go_enter Tryd.func25, Tryd.ntmps25
  go_wp2

  go_region_with (first
    | (go_at_call 47; refine (classOf_any size _ h1 (by omega)).mono ?_; rintro e w' ⟨rfl, rfl⟩)
    | (go_at_call 46; refine (push_any A 5 66 (arBox L S) L.N L.cap L.rest S.nd S.spare (Ar.cls size) a _ ?_ hc1 hc2 hc3 hc4).mono ?_; exact h.drw.che (by omega); rintro e w1 ⟨rfl, N', cap', rest', hN, ht, k⟩; have HP := Lib.hid ((Ars.start h).drw.unche k rfl ht hN); clear hN ht k)
    | (go_at_call 45; (refine (putHead_agg A _ _ _ (a : Int) a true false (Ar.push S.nd S.spare (Ar.cls size) a).k size ahead _ rfl HP.out.ar hm (show a + 8 ≤ S.mem.length by omega) (by have := Ar.push_k S.nd S.spare (Ar.cls size) a hc3; omega) (by omega) (by omega)).mono ?_); rintro e w2 ⟨rfl, ht2, hA2⟩; have HP2 := Lib.hid (HP.out.same ht2 hA2); clear ht2 hA2))
  have hk := Ar.push_k S.nd S.spare (Ar.cls size) a hc3
  have hM1 := Ar.putHd_len S.mem a ⟨true, false, (Ar.push S.nd S.spare (Ar.cls size) a).k, size, ahead⟩ (by omega)
  have HE : Hid (Ar.putFree S a size ahead = { S with nd := (Ar.push S.nd S.spare (Ar.cls size) a).nd, spare := (Ar.push S.nd S.spare (Ar.cls size) a).spare, mem := if a + size < S.mem.length / 16 * 16 then Ar.putHd (Ar.putHd S.mem a ⟨true, false, (Ar.push S.nd S.spare (Ar.cls size) a).k, size, ahead⟩) (a + size) { Ar.headAt (Ar.putHd S.mem a ⟨true, false, (Ar.push S.nd S.spare (Ar.cls size) a).k, size, ahead⟩) (a + size) with ahead := size } else Ar.putHd S.mem a ⟨true, false, (Ar.push S.nd S.spare (Ar.cls size) a).k, size, ahead⟩ }) := Lib.hid rfl
  generalize Ar.push S.nd S.spare (Ar.cls size) a = R at *
  generalize Ar.putHd S.mem a ⟨true, false, R.k, size, ahead⟩ = M1 at *
  obtain ⟨L2, hL2⟩ : ∃ L2, Ars A L2 { S with nd := R.nd, spare := R.spare, mem := M1 } f w w2 := ⟨_, HP2.out⟩
  have H2 := Lib.hid hL2
  clear hL2 HP2 HP
  have HM1 := Lib.hid hM1
  have hM1m : M1.length ≤ 1048576 := by omega
  clear hM1
  by_cases hlt : a + size < S.mem.length / 16 * 16
  · rw [if_pos hlt] at HE
    obtain ⟨p, hp⟩ : ∃ p, Ar.headAt M1 (a + size) = p := ⟨_, rfl⟩
    have hpf := hp ▸ Ar.headAt_fits M1 (a + size)
    have HPp := Lib.hid hp
    clear hp
    obtain ⟨q1, q2, q3⟩ := hpf
    have HF : Hid (Ar.fin { S with nd := R.nd, spare := R.spare, mem := M1 } = S.mem.length / 16 * 16) := Lib.hid (by unfold Ar.fin; simp only; rw [HM1.out])
    generalize S.mem.length / 16 * 16 = F at hlt HF
    have hb1 : a + size + 8 ≤ M1.length := by have h1 := HF.out; have h2 := HM1.out; unfold Ar.fin at h1; simp only at h1; omega
    go_wp2_with (first
      | (go_at_call 26; (with_reducible refine (end_at A L2 _ _ F _ H2.out.ar hM1m HF.out).mono ?_); rintro e w' ⟨rfl, rfl⟩)
      | (go_at_call 32; (with_reducible refine (head_agg A L2 _ _ ((a : Int) + (size : Int)) (a + size) p _ (by omega) H2.out.ar hM1m hb1 HPp.out).mono ?_); rintro e w3 ⟨rfl, hb3⟩))
    have H3 := Lib.hid (H2.out.below (w2 := w3.alloc (.cells #[.bool p.free, .bool p.marked, .int .i64 (p.owner : Int), .int .i64 (p.size : Int), .int .i64 (size : Int)] 69)) (below_trans' hb3))
    clear hb3
    go_wp2_with (go_at_call 45; (with_reducible refine (putHead_agg A L2 { S with nd := R.nd, spare := R.spare, mem := M1 } _ ((a : Int) + (size : Int)) (a + size) p.free p.marked p.owner p.size size _ (by omega) H3.out.ar hM1m hb1 q1 q2 (by omega)).mono ?_); rintro e w4 ⟨rfl, ht4, hA4⟩)
    go_end0
    refine ⟨rfl, L2, ?_⟩
    rw [HE.out, HPp.out]
    exact H3.out.same ht4 hA4
  · rw [if_neg hlt] at HE
    have HF : Hid (Ar.fin { S with nd := R.nd, spare := R.spare, mem := M1 } = S.mem.length / 16 * 16) := Lib.hid (by unfold Ar.fin; simp only; rw [HM1.out])
    generalize S.mem.length / 16 * 16 = F at hlt HF
    have hge : ¬ ((a : Int) + (size : Int) < (F : Int)) := by omega
    go_wp2_with (first
      | (go_at_call 26; (with_reducible refine (end_at A L2 _ _ F _ H2.out.ar hM1m HF.out).mono ?_); rintro e w' ⟨rfl, rfl⟩))
    go_end0
    refine ⟨rfl, L2, ?_⟩
    rw [HE.out]
    exact H2.out
end Go.Proofs.YtagjjpmhacknpaaDoor

/- A free piece is taken out of its list. -/
set_option maxRecDepth 100000
namespace Go.Proofs.YtagjjpmhacknpaaDoor
open Go.RowKit Go.Shelf
theorem below_of_alloc {W W1 : World} {o : Obj} (h : Below (W.alloc o).heap.size (W.alloc o) W1) : Below W.heap.size W W1 := ((Below.refl _ W).alloc (Nat.le_refl _) o).trans (h.mono (by simp))
theorem ArE.out {A : Nat} {L : Loc} {S : Ar.St} {f g : Nat → Prop} {w w' : World} (h : ArE A L S f w) (ht : Trn g w w') (hA : ¬ g A) (hM : ¬ g L.M) (hP : ¬ g L.P) (hU : ¬ g L.U) (hN : ¬ g L.N) : ArE A L S f w' :=
  ⟨h.box.trn ht hA, h.mem.trn ht hM, h.pl.trn ht hP, h.us.trn ht hU, h.nd.trn ht hN, h.cap, h.cm, h.fA, h.fM, h.fP, h.fU, h.fN, fun k e => Nat.lt_of_lt_of_le (h.fb k e) ht.size⟩
/-- A block of the call's own is written. -/
theorem Ars.out {A : Nat} {L : Loc} {S S0 : Ar.St} {f : Nat → Prop} {w w1 w2 : World} (h : Ars A L S f w w1) (h0 : ArE A L S0 f w) {B : Nat} (ht : Trn (fun k => k = B) w1 w2) (hB : w.heap.size ≤ B) (hB2 : B < w1.heap.size) : Ars A L S f w w2 :=
  h.same (ht.to (.inr ⟨hB, hB2⟩)) (h.ar.out ht (by have := h0.box.lt; omega) (by have := h0.mem.lt; omega) (by have := h0.pl.lt; omega) (by have := h0.us.lt; omega) (by have := h0.nd.lt; omega))
theorem set5 {w3 : World} {B : Nat} {a b c d e : Value} {t : TypeId} (h : Blk w3 B [a, b, c, d, e] t) (a' b' c' d' e' : Value) :
    Blk (((((w3.setCell ⟨B, 0, none⟩ a').setCell ⟨B, 1, none⟩ b').setCell ⟨B, 2, none⟩ c').setCell ⟨B, 3, none⟩ d').setCell ⟨B, 4, none⟩ e') B [a', b', c', d', e'] t ∧ Trn (fun k => k = B) w3 (((((w3.setCell ⟨B, 0, none⟩ a').setCell ⟨B, 1, none⟩ b').setCell ⟨B, 2, none⟩ c').setCell ⟨B, 3, none⟩ d').setCell ⟨B, 4, none⟩ e') := by
  have h1 := h.set 0 a'
  have h2 := h1.set 1 b'
  have h3 := h2.set 2 c'
  have h4 := h3.set 3 d'
  have h5 := h4.set 4 e'
  exact ⟨h5, ((((Trn.set1 h 0 a').trans (Trn.set h1 (.inl rfl) 1 b')).trans (Trn.set h2 (.inl rfl) 2 c')).trans (Trn.set h3 (.inl rfl) 3 d')).trans (Trn.set h4 (.inl rfl) 4 e')⟩
theorem Blk.drw {W : World} {B : Nat} {l : List Value} {t : TypeId} (h : Blk W B l t) : Blk W.drew B l t := h
theorem box5 (w w3 : World) (a b c d e : Value) (t : TypeId) (h : Below (w.alloc (.cells #[a, b, c, d, e] t)).heap.size (w.alloc (.cells #[a, b, c, d, e] t)) w3) :
    w.heap.size < w3.heap.size ∧ w3.cell? ⟨w.heap.size, 0, none⟩ = some a ∧ w3.cell? ⟨w.heap.size, 1, none⟩ = some b ∧ w3.cell? ⟨w.heap.size, 2, none⟩ = some c ∧ w3.cell? ⟨w.heap.size, 3, none⟩ = some d ∧ w3.cell? ⟨w.heap.size, 4, none⟩ = some e ∧ (∀ i, w3.frozen? ⟨w.heap.size, i, none⟩ = false) ∧ Hid (Blk w3 w.heap.size [a, b, c, d, e] t) := by
  have hb : Blk w3 w.heap.size [a, b, c, d, e] t := (h.block w.heap.size (by simp)).trans (Blk.new w [a, b, c, d, e] t)
  exact ⟨by have := h.size; simp at this; omega, hb.cell rfl, hb.cell rfl, hb.cell rfl, hb.cell rfl, hb.cell rfl, hb.frozen, Lib.hid hb⟩
namespace Ar
/-- A piece is taken out of the lists, if it is free. -/
def takeFree (S : St) (at_ : Nat) : St := if at_ = fin S then S else if (headAt S.mem at_).free then { S with nd := dropN S.nd (headAt S.mem at_).owner S.spare, spare := (headAt S.mem at_).owner } else S
def tookFree (S : St) (at_ : Nat) : Head × Bool := if at_ = fin S then (⟨false, false, 0, 0, 0⟩, false) else (headAt S.mem at_, (headAt S.mem at_).free)
end Ar
set_option maxHeartbeats 4000000 in
theorem takeFree_any (A : Nat) (L : Loc) (S : Ar.St) (f : Nat → Prop) (z : Int) (a : Nat) (w : World) (hz : z = (a : Int)) (h : ArE A L S f w) (hm : S.mem.length ≤ 1048576) (h2 : a ≠ Ar.fin S → a + 8 ≤ S.mem.length)
    (hc : a ≠ Ar.fin S → (Ar.headAt S.mem a).free = true → (Ar.headAt S.mem a).owner < S.nd.length ∧ (Ar.nodeAt S.nd (Ar.headAt S.mem a).owner).n < S.nd.length ∧ (Ar.nodeAt S.nd (Ar.headAt S.mem a).owner).l < S.nd.length) (hc4 : S.nd.length ≤ 200000) :
    Calls Tryd.prog 52 #[.pointer (some ⟨A, 0, none⟩), .int .i64 z] w fun e w' => (e = .returned (.tuple #[.agg #[.bool (Ar.tookFree S a).1.free, .bool (Ar.tookFree S a).1.marked, .int .i64 ((Ar.tookFree S a).1.owner : Int), .int .i64 ((Ar.tookFree S a).1.size : Int), .int .i64 ((Ar.tookFree S a).1.ahead : Int)], .bool (Ar.tookFree S a).2])) ∧ Ars A L (Ar.takeFree S a) f w w' := by
  subst hz
  unfold Ar.takeFree Ar.tookFree
  have hAl := h.box.lt
  by_cases he : a = Ar.fin S
  · rw [if_pos he, if_pos he]
    have hE : Hid (Ar.fin S = a) := Lib.hid he.symm
    clear he hc h2
    have hee : ((a : Int) == (a : Int)) = true := by simp
    go_enter Tryd.func52, Tryd.ntmps52
    go_wp2_with (first
      | (go_at_call 26; (with_reducible refine (end_at A L S _ a _ (h.below ((Below.refl _ w).alloc (Nat.le_refl _) _)) hm hE.out).mono ?_); rintro e w' ⟨rfl, rfl⟩))
    exact bodyPost_ret (v := .tuple #[.agg #[.bool false, .bool false, .int .i64 0, .int .i64 0, .int .i64 0], .bool false]) (by simp [results, Tryd.results52, go_sem]) rfl ⟨rfl, (Ars.start h).below ((Below.refl _ _).alloc (Nat.le_refl _) _)⟩
  · rw [if_neg he, if_neg he]
    obtain ⟨F, hF⟩ : ∃ F, Ar.fin S = F := ⟨_, rfl⟩
    have hne : ((a : Int) == (F : Int)) = false := by rw [beq_eq_false_iff_ne]; omega
    have ha8 := h2 he
    have hc := hc he
    obtain ⟨p, hp⟩ : ∃ p, Ar.headAt S.mem a = p := ⟨_, rfl⟩
    rw [hp] at hc ⊢
    have HPp := Lib.hid hp
    clear hp h2 he
    have hE := Lib.hid hF
    clear hF
    have HA := Lib.hid h
    clear h
    cases hfr : p.free
    · simp only [Bool.false_eq_true, if_false]
      go_enter Tryd.func52, Tryd.ntmps52
      go_wp2_with (first
        | (go_at_call 26; (with_reducible refine (end_at A L S _ F _ (HA.out.below ((Below.refl _ w).alloc (Nat.le_refl _) _)) hm hE.out).mono ?_); rintro e w' ⟨rfl, rfl⟩)
        | (go_at_call 32; (with_reducible refine (head_agg A L S _ _ a p _ rfl (HA.out.below ((Below.refl _ w).alloc (Nat.le_refl _) _)) hm ha8 HPp.out).mono ?_); rintro e w3 ⟨rfl, hb3⟩; obtain ⟨hz, hx0, hx1, hx2, hx3, hx4, hff, hB4⟩ := box5 w w3 _ _ _ _ _ _ hb3; have H3 := Lib.hid ((Ars.start HA.out).below (below_of_alloc hb3)); clear hb3))
      rw [hfr] at *
      have hs4 := set5 hB4.out (.bool false) (.bool p.marked) (.int .i64 (p.owner : Int)) (.int .i64 (p.size : Int)) (.int .i64 (p.ahead : Int))
      have HR := Lib.hid (((H3.out.out HA.out hs4.2 (Nat.le_refl _) hz).below ((Below.refl _ _).alloc (Nat.le_refl _) (.cells #[.bool false, .bool p.marked, .int .i64 (p.owner : Int), .int .i64 (p.size : Int), .int .i64 (p.ahead : Int)] 69))).drw)
      have HS := Lib.hid ((hs4.1.alloc (.cells #[.bool false, .bool p.marked, .int .i64 (p.owner : Int), .int .i64 (p.size : Int), .int .i64 (p.ahead : Int)] 69)).drw)
      clear hs4
      go_region
      go_wp2
      generalize hW : World.drew _ = W4 at HR ⊢
      have hB5 := hW ▸ HS.out
      have y0 := hB5.cell (i := 0) rfl
      have y1 := hB5.cell (i := 1) rfl
      have y2 := hB5.cell (i := 2) rfl
      have y3 := hB5.cell (i := 3) rfl
      have y4 := hB5.cell (i := 4) rfl
      exact bodyPost_ret (v := .tuple #[.agg #[.bool false, .bool p.marked, .int .i64 (p.owner : Int), .int .i64 (p.size : Int), .int .i64 (p.ahead : Int)], .bool false]) (by simp [results, Tryd.results52, go_sem, y0, y1, y2, y3, y4]) rfl ⟨rfl, HR.out⟩
    · simp only [if_true]
      obtain ⟨c1, c2, c3⟩ := hc hfr
      go_enter Tryd.func52, Tryd.ntmps52
      go_wp2_with (first
        | (go_at_call 26; (with_reducible refine (end_at A L S _ F _ (HA.out.below ((Below.refl _ w).alloc (Nat.le_refl _) _)) hm hE.out).mono ?_); rintro e w' ⟨rfl, rfl⟩)
        | (go_at_call 32; (with_reducible refine (head_agg A L S _ _ a p _ rfl (HA.out.below ((Below.refl _ w).alloc (Nat.le_refl _) _)) hm ha8 HPp.out).mono ?_); rintro e w3 ⟨rfl, hb3⟩; obtain ⟨hz, hx0, hx1, hx2, hx3, hx4, hff, hB4⟩ := box5 w w3 _ _ _ _ _ _ hb3; have H3 := Lib.hid ((Ars.start HA.out).below (below_of_alloc hb3)); clear hb3 hx0 hx1 hx2 hx3 hx4 hff))
      rw [hfr] at *
      have HV := Lib.hid ((H3.out.below ((Below.refl _ _).alloc (Nat.le_refl _) (.cells #[.bool true, .bool p.marked, .int .i64 (p.owner : Int), .int .i64 (p.size : Int), .int .i64 (p.ahead : Int)] 69))).drw)
      have HB6 := Lib.hid ((Blk.new w3 [.bool true, .bool p.marked, .int .i64 (p.owner : Int), .int .i64 (p.size : Int), .int .i64 (p.ahead : Int)] 69).drw)
      have HB4 := Lib.hid ((hB4.out.alloc (.cells #[.bool true, .bool p.marked, .int .i64 (p.owner : Int), .int .i64 (p.size : Int), .int .i64 (p.ahead : Int)] 69)).drw)
      clear hB4
      go_region_with (go_at_call 60; refine (chDrop_any A 5 66 (arBox L S) L.N L.cap L.rest S.nd S.spare p.owner _ (HV.out.ar.che hc4) c1 c2 c3).mono ?_; rintro e w5 ⟨rfl, ht, k⟩; have HP := Lib.hid (And.intro ht k); clear ht k)
      have hAl := HA.out.box.lt
      have hNl := HA.out.nd.lt
      have HV5 : Hid (Ars A L { S with nd := Ar.dropN S.nd p.owner S.spare, spare := p.owner } f w w5) := Lib.hid (HV.out.unche HP.out.2 (by simp only [arBox, Ar.dropN_len]; rfl) HP.out.1 (.inl rfl))
      have b6 := HB6.out.trn HP.out.1 (fun e => e.elim (fun e => by omega) (fun e => by omega))
      have b4 := HB4.out.trn HP.out.1 (fun e => e.elim (fun e => by omega) (fun e => by omega))
      have hz5 : w.heap.size < w5.heap.size := Nat.lt_of_lt_of_le hz (by have := HP.out.1.size; simp at this; omega)
      clear HP HV HB6 HB4 H3
      have x0 := b6.cell (i := 0) rfl
      have x1 := b6.cell (i := 1) rfl
      have x2 := b6.cell (i := 2) rfl
      have x3 := b6.cell (i := 3) rfl
      have x4 := b6.cell (i := 4) rfl
      have z0 := b4.cell (i := 0) rfl
      have z1 := b4.cell (i := 1) rfl
      have z2 := b4.cell (i := 2) rfl
      have z3 := b4.cell (i := 3) rfl
      have z4 := b4.cell (i := 4) rfl
      have zf := fun i => b4.frozen i
      have hs4 := set5 b4 (.bool true) (.bool p.marked) (.int .i64 (p.owner : Int)) (.int .i64 (p.size : Int)) (.int .i64 (p.ahead : Int))
      have HR := Lib.hid ((HV5.out.out HA.out hs4.2 (Nat.le_refl _) hz5).drw)
      have HS := Lib.hid (hs4.1.drw)
      have hne1 : w3.heap.size ≠ w.heap.size := by omega
      clear hs4 b6 b4
      go_wp2
      go_region
      go_wp2
      generalize hW : World.drew _ = W4 at HR ⊢
      have hB5 := hW ▸ HS.out
      have y0 := hB5.cell (i := 0) rfl
      have y1 := hB5.cell (i := 1) rfl
      have y2 := hB5.cell (i := 2) rfl
      have y3 := hB5.cell (i := 3) rfl
      have y4 := hB5.cell (i := 4) rfl
      exact bodyPost_ret (v := .tuple #[.agg #[.bool true, .bool p.marked, .int .i64 (p.owner : Int), .int .i64 (p.size : Int), .int .i64 (p.ahead : Int)], .bool true]) (by simp [results, Tryd.results52, go_sem, y0, y1, y2, y3, y4]) rfl ⟨rfl, HR.out⟩
end Go.Proofs.YtagjjpmhacknpaaDoor

/- inside, fitting. -/
set_option maxRecDepth 100000
namespace Go.Proofs.YtagjjpmhacknpaaDoor
open Go.RowKit Go.Shelf
theorem head_below {w w' : World} (h : Below w.drew.heap.size w.drew w') : Below w.heap.size w w' := (Below.refl _ w).drew.trans h
set_option maxHeartbeats 2000000 in
theorem inside_any (A : Nat) (L : Loc) (S : Ar.St) (f : Nat → Prop) (a n : Nat) (w : World) (h : ArE A L S f w) (hm : S.mem.length ≤ 1048576) (hp : (Ar.headAt S.mem a).size = n) (ha : a + 8 + n ≤ S.mem.length) (ha2 : a + 8 < S.mem.length) :
    Calls Tryd.prog 53 #[.pointer (some ⟨A, 0, none⟩), .int .i64 (a : Int)] w fun e w' => (∃ c, e = .returned (.slice (some ⟨L.M, a + 8, none⟩) n c) ∧ c = S.mem.length - (a + 8)) ∧ Below w.heap.size w w' := by
  have hc := h.cells.1
  have hAl := h.box.lt
  obtain ⟨p, hpp⟩ : ∃ p, Ar.headAt S.mem a = p := ⟨_, rfl⟩
  rw [hpp] at hp
  have HPp := Lib.hid hpp
  clear hpp
  obtain ⟨fr, mk, ow, sz, ah⟩ := p
  simp only at hp
  subst hp
  have hs1 : ((a + 8 : Nat) : Int) = (a : Int) + 8 := by omega
  have HA := Lib.hid h
  clear h
  have hfd : ∀ w : World, (Instr.field 69 (.agg #[.bool fr, .bool mk, .int .i64 (ow : Int), .int .i64 (sz : Int), .int .i64 (ah : Int)]) 3).run Tryd.prog w = .ok (.int .i64 (sz : Int)) w := fun _ => by kernel_rfl
  have hw1 : IntKind.i64.wrap ((a : Int) + 8 + (sz : Int)) = (a : Int) + 8 + (sz : Int) := IntWalk.i64_in _ (by omega)
  have hw2 : (0 : Int) ≤ (a : Int) + 8 + (sz : Int) := by omega
  have hw3 : ((a : Int) + 8 + (sz : Int)).toNat = a + 8 + sz := by omega
  have hw4 : (a : Int) + 8 ≤ (a : Int) + 8 + (sz : Int) := by omega
  have hw5 : (a : Int) + 8 + (sz : Int) ≤ (S.mem.length : Int) := by omega
  have hw7 : ¬ (S.mem.length = a + 8) := by omega
  have hw8 : ¬ (a + 8 = S.mem.length) := by omega
  have hw6 : ((a : Int) + 8).toNat = a + 8 := by omega
  go_enter Tryd.func53, Tryd.ntmps53
  go_wp2
  go_region_with (go_at_call 32; refine (head_agg A L S _ _ a ⟨fr, mk, ow, sz, ah⟩ _ rfl HA.out.drw hm (by omega) HPp.out).mono ?_; rintro e w3 ⟨rfl, hb3⟩; have hc3 := ((head_below hb3).cell (p := ⟨A, 0, none⟩) hAl).trans hc; replace hb3 := Lib.hid (head_below hb3))
  all_goals
    go_wp2
    go_ret
    exact ⟨⟨_, rfl, rfl⟩, hb3.out⟩
def FitRet (S : Ar.St) (c0 : Nat) (w : World) (e : Ending) (w' : World) : Prop :=
  (∃ (at_ : Nat) (ok : Bool), e = .returned (.tuple #[.int .i64 (at_ : Int), .bool ok]) ∧ (ok = true → ∃ c, c0 ≤ c ∧ c < 17 ∧ (Ar.nodeAt S.nd c).n ≠ c ∧ at_ = (Ar.nodeAt S.nd (Ar.nodeAt S.nd c).n).v) ∧ (ok = false → ∀ c, c0 ≤ c → c < 17 → (Ar.nodeAt S.nd c).n = c)) ∧ w = w'
set_option maxHeartbeats 2000000 in
theorem fitting_any (A : Nat) (L : Loc) (S : Ar.St) (f : Nat → Prop) (cost : Nat) (w : World) (h : ArE A L S f w) (h1 : 16 ≤ cost) (h2 : cost ≤ 1048576) (hc1 : 17 ≤ S.nd.length) (hc2 : ∀ c, c < 17 → (Ar.nodeAt S.nd c).n < S.nd.length) (hc4 : S.nd.length ≤ 200000) :
    Calls Tryd.prog 48 #[.pointer (some ⟨A, 0, none⟩), .int .i64 (cost : Int)] w (FitRet S (Ar.cls cost) w) := by
  have hcl := (Ar.cls_spec h1 h2).2.2
  have HA := Lib.hid (h.che hc4)
  have HC := Lib.hid hc2
  clear h hc2
  generalize hcc : Ar.cls cost = c0 at *
  have HCC := Lib.hid hcc
  clear hcc
  go_enter Tryd.func48, Tryd.ntmps48
  go_wp2_with (go_at_call 47; (refine (classOf_any cost _ h1 (by omega)).mono ?_); rintro e w' ⟨rfl, rfl⟩; rw [HCC.out])
  go_loop [4, 5, 6] (fun x b i => ∃ (k x0 : Nat) (ok : Bool), c0 ≤ k ∧ k ≤ 17 ∧ i = .int .i64 (k : Int) ∧ x = .int .i64 (x0 : Int) ∧ b = .bool ok ∧ (ok = true → ∃ c, c0 ≤ c ∧ c < 17 ∧ (Ar.nodeAt S.nd c).n ≠ c ∧ x0 = (Ar.nodeAt S.nd (Ar.nodeAt S.nd c).n).v) ∧ (ok = false → ∀ c, c0 ≤ c → c < k → (Ar.nodeAt S.nd c).n = c)) (fun _ _ i => 17 - (intOf i).toNat)
  case atStart => exact ⟨c0, 0, false, by omega, by omega, rfl, rfl, rfl, by simp, fun _ c h1 h2 => by omega⟩
  case round =>
    obtain ⟨k, x0, ok, hk1, hk2, rfl, rfl, rfl, ht, hf⟩ := hrel
    by_cases hlt : k < 17
    · have hck := HC.out k hlt
      cases ok
      · go_wp2_with (go_at_call 59; (refine (first_any A 5 66 (arBox L S) L.N L.cap L.rest S.nd S.spare k _ HA.out (by omega) hck).mono ?_); rintro e w' ⟨rfl, rfl⟩; unfold encI)
        go_round
        case rel => exact ⟨k + 1, _, _, by omega, by omega, by go_num, rfl, rfl, fun e => ⟨k, hk1, hlt, by simpa using e, rfl⟩, fun e c h1 h2 => by
          by_cases h3 : c < k
          · exact hf (by trivial) c h1 h3
          · obtain rfl : c = k := by omega
            simpa using e⟩
        case measure => simp [intOf]; omega
      · have HT := Lib.hid ht
        clear ht hf
        go_wp2
        go_ret2
        exact ⟨⟨x0, true, rfl, fun _ => HT.out (by trivial), fun e => by cases e⟩, rfl⟩
    · obtain rfl : k = 17 := by omega
      have HT := Lib.hid (And.intro ht hf)
      clear ht hf
      go_wp2
      go_ret2
      exact ⟨⟨x0, ok, rfl, HT.out.1, HT.out.2⟩, rfl⟩
end Go.Proofs.YtagjjpmhacknpaaDoor
