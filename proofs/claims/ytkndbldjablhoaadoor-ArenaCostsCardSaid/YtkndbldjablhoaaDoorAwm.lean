/- awake is true. -/
import Derived.Test.YtkndbldjablhoaaDoorAwk
import Derived.Lib.SlBytesConst
set_option maxRecDepth 100000
namespace Go.Proofs.YtkndbldjablhoaaDoor
open Go.RowKit Go.Shelf
theorem run_rd_str {v : Value} {l : List UInt8} {W : World} (h : RdB v l W) (hne : l ≠ []) : (convert 34 9 v).run Tryd.prog W = .ok (.string ⟨l.toArray⟩) W := by
  obtain ⟨ao, cap, rfl, hc⟩ := h.form
  cases l with
  | nil => exact absurd rfl hne
  | cons c l =>
    obtain ⟨b, off, rfl, _⟩ := hc 0 (by simp)
    exact run_convert_bytes_back (P := Tryd.prog) W 34 9 5 ⟨b, off, none⟩ cap (c :: l) Tryd.underlying34 Tryd.underlying5 Tryd.underlying9 (fun j hj => by
      obtain ⟨b', off', e, c1⟩ := hc j hj
      cases e
      have e2 : (⟨b, off, none⟩ : Addr).add j = ⟨b, off + j, none⟩ := by unfold Addr.add; split <;> simp_all
      rw [e2]
      exact c1)
theorem abc_new (W : World) : RdB (.slice (some ⟨W.heap.size, 0, none⟩) 3 3) [97, 98, 99] (W.alloc (.cells #[.int .u8 97, .int .u8 98, .int .u8 99] 5 (3, 4))) :=
  ⟨some ⟨W.heap.size, 0, none⟩, 3, rfl, fun j hj => ⟨W.heap.size, 0, rfl, by
    have h := World.alloc_heap_new W (.cells #[.int .u8 97, .int .u8 98, .int .u8 99] 5 (3, 4))
    simp only [List.length_cons, List.length_nil, Nat.zero_add, Nat.reduceAdd] at hj
    unfold World.cell?
    rw [h]
    match j, hj with
    | 0, _ => rfl
    | 1, _ => rfl
    | 2, _ => rfl⟩⟩
theorem conv_abc (W : World) : (convert 34 34 (.slice (some ⟨W.heap.size, 0, none⟩) 3 3)).run Tryd.prog (W.alloc (.cells #[.int .u8 97, .int .u8 98, .int .u8 99] 5)) = .ok (.slice (some ⟨W.heap.size, 0, none⟩) 3 3) (W.alloc (.cells #[.int .u8 97, .int .u8 98, .int .u8 99] 5 (3, 4))) :=
  Lib.run_convert_bytes_const W _ _ _ 3 3 Tryd.underlying34 Tryd.underlying5
set_option maxHeartbeats 8000000 in
theorem awake_any (w : World) (hT : TabOk w) : Calls Tryd.prog 10 #[] w fun e w' => e = .returned (.bool true) ∧ Below w.heap.size w w' := by
  have hg : 0 < w.heap.size := cell_lt (hT 0 (by decide))
  have hn : ∀ W : World, Calls Tryd.prog 11 #[.int .i64 1023] W fun e w' => e = .returned (.tuple #[.pointer none, .int .i64 1]) ∧ W = w' := fun W => new_none 1023 W (.inl (by decide))
  have hbig : ∀ (v : Value) (W : World), Calls Tryd.prog 13 #[v, .int .i64 4097] W fun e w' => e = .returned (.tuple #[.int .i64 0, .int .i64 3]) ∧ W = w' := fun v W => alloc_big v 4097 W (by decide)
  have hnil : ∀ (W : World), Calls Tryd.prog 13 #[.pointer none, .int .i64 1] W fun e w' => e = .returned (.tuple #[.int .i64 0, .int .i64 4]) ∧ W = w' := fun W => alloc_nil 1 _ W (by decide) rfl
  have hc8 : ∀ W : World, Calls Tryd.prog 26 #[.int .i64 8] W fun e w' => e = .returned (.int .i64 16) ∧ W = w' := fun W => by have h := cost_any 8 W; rw [show Ar.costI 8 = 16 by decide] at h; exact h
  have hc9 : ∀ W : World, Calls Tryd.prog 26 #[.int .i64 9] W fun e w' => e = .returned (.int .i64 32) ∧ W = w' := fun W => by have h := cost_any 9 W; rw [show Ar.costI 9 = 32 by decide] at h; exact h
  have hc1 : ∀ W : World, Calls Tryd.prog 26 #[.int .i64 (-1)] W fun e w' => e = .returned (.int .i64 0) ∧ W = w' := fun W => by have h := cost_any (-1) W; rw [show Ar.costI (-1) = 0 by decide] at h; exact h
  have hcv := conv_abc
  have HN := Lib.hid hn
  have HBIG := Lib.hid hbig
  have HNIL := Lib.hid hnil
  have HC8 := Lib.hid hc8
  have HC9 := Lib.hid hc9
  have HC1 := Lib.hid hc1
  have HT := Lib.hid hT
  have HG := Lib.hid hg
  clear hn hbig hnil hc8 hc9 hc1 hT hg
  go_enter Tryd.func10, Tryd.ntmps10
  go_wp2_with (first
    | (go_at_call 11; with_reducible refine (aw_new _).mono ?_; rintro e w1 ⟨A, rfl, hA1, hb1⟩; have HA1 := Lib.hid hA1; have HB1 := Lib.hid hb1; have HT1 := Lib.hid (HT.out.below HG.out hb1); clear hA1 hb1)
    | (go_at_call 11; with_reducible refine (HN.out _).mono ?_; rintro e w' ⟨rfl, rfl⟩)
    | (go_at_call 13; with_reducible refine (aw_alloc A _ _ HA1.out HT1.out HG.out).mono ?_; rintro e w2 ⟨rfl, ⟨b, hA2, hN2⟩, hb2⟩; have HA2 := Lib.hid hA2; have HN2 := Lib.hid hN2; have HB2 := Lib.hid (HB1.out.trans hb2); clear hA2 hN2 hb2)
    | (go_at_call 13; with_reducible refine (HBIG.out _ _).mono ?_; rintro e w' ⟨rfl, rfl⟩)
    | (go_at_call 19; with_reducible refine (aw_write A _ b _ _ (HA2.out.below ((Below.refl _ _).alloc (Nat.le_refl _) _)) HN2.out (by exact abc_new _)).mono ?_; rintro e w3 ⟨rfl, ⟨q, hA3, ho3, hs3, hd3⟩, hb3⟩; have HA3 := Lib.hid hA3; have HO3 := Lib.hid ho3; have HS3 := Lib.hid hs3; have HD3 := Lib.hid hd3; have HB3 := Lib.hid ((HB2.out.alloc HB2.out.size _).trans hb3); clear hA3 ho3 hs3 hd3 hb3)
    | (go_at_call 17; with_reducible refine (aw_read A _ q _ HA3.out HO3.out HS3.out HD3.out).mono ?_; rintro e w4 ⟨⟨v, rfl, hr4⟩, hb4⟩; have HA4 := Lib.hid (HA3.out.below hb4); have HB4 := Lib.hid (HB3.out.trans (hb4.mono HB3.out.size)); have HR4 := Lib.hid (RdB.own (l := [0, 97, 98, 99, 0]) hr4); clear hr4 hb4)
    | (go_at_call 28; with_reducible refine (aw_size A _ q _ HA4.out HO3.out HS3.out).mono ?_; rintro e w5 ⟨rfl, hb5⟩; have HA5 := Lib.hid (HA4.out.below hb5); have HB5 := Lib.hid (HB4.out.trans (hb5.mono HB4.out.size)); have hst : (convert 34 9 v).run Tryd.prog w5 = .ok (.string ⟨#[0, 97, 98, 99, 0]⟩) w5 := run_rd_str (HR4.out.below hb5) (by simp); clear hb5)
    | (go_at_call 13; with_reducible refine (HNIL.out _).mono ?_; rintro e w' ⟨rfl, rfl⟩)
    | (go_at_call 26; with_reducible refine (HC8.out _).mono ?_; rintro e w' ⟨rfl, rfl⟩)
    | (go_at_call 26; with_reducible refine (HC9.out _).mono ?_; rintro e w' ⟨rfl, rfl⟩)
    | (go_at_call 26; with_reducible refine (HC1.out _).mono ?_; rintro e w' ⟨rfl, rfl⟩)
    | (go_at_call 27; with_reducible refine (aw_used A _ q _ HA5.out HS3.out).mono ?_; rintro e w' ⟨rfl, rfl⟩)
    | (go_at_call 25; with_reducible refine (aw_left A _ q _ HA5.out HS3.out).mono ?_; rintro e w' ⟨rfl, rfl⟩)
    | (go_at_call 21; with_reducible refine (aw_compact A _ q _ HA5.out HS3.out).mono ?_; rintro e w6 ⟨rfl, hb6⟩; have HB6 := Lib.hid (HB5.out.trans hb6); clear hb6)
    | (go_at_call 27; with_reducible refine (used_nil _).mono ?_; rintro e w' ⟨rfl, rfl⟩))
  go_ret
  exact ⟨rfl, HB6.out⟩
end Go.Proofs.YtkndbldjablhoaaDoor
