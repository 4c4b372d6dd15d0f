/- 4 texts put together: Vap2, Awm, Edl, Ow. -/
import Derived.Lib.SlBytesConst
import Derived.Test.YtagjjpmhacknpaaDoorJB13
import Derived.Test.YtagjjpmhacknpaaDoorJB14
import Derived.Test.YtagjjpmhacknpaaDoorJB15
/- The arena's functions at a block that is known. -/
set_option maxRecDepth 100000
namespace Go.Proofs.YtagjjpmhacknpaaDoor
open Go.RowKit Go.Shelf
theorem srt_mem {L : List Bl} (h : L.Pairwise (fun x y => x.1 < y.1)) {b c : Bl} (hb : b ∈ L) (hc : c ∈ L) (e : b.1 = c.1) : b = c := by
  obtain ⟨i, hi, rfl⟩ := List.mem_iff_getElem.1 hb
  obtain ⟨j, hj, rfl⟩ := List.mem_iff_getElem.1 hc
  rw [List.pairwise_iff_getElem] at h
  rcases Nat.lt_trichotomy i j with hlt | heq | hgt
  · have := h i j hi hj hlt; omega
  · subst heq; rfl
  · have := h j i hj hi hgt; omega
theorem alloc_ok (x : Nat → Prop) (A B : Nat) (L : List Bl) (n0 : Nat) (z : Int) (k : Nat) (w : World) (hz : z = (k : Int)) (h : HX x A B L n0 w) (hk : k ≤ 4096) (hc : sumC L + Ar.cost k ≤ B) :
    Calls Tryd.prog 8 #[.pointer (some ⟨A, 0, none⟩), .int .i64 z] w fun e w' => ∃ L1 L2, L = L1 ++ L2 ∧ Least L1 L2 ∧ e = .returned (.tuple #[.int .i64 ((L1.length + 1 : Nat) : Int), .int .i64 0]) ∧ LX x A B (L1 ++ (L1.length + 1, Ar.zeros k) :: L2) n0 w w' := by
  subst hz
  have hci : Ar.costI (k : Int) = Ar.cost k := Ar.costI_nat hk
  have hcg := Ar.cost_ge k hk
  refine (alloc_x x A B L n0 (k : Int) w h).mono fun e w' hk' => ?_
  rcases hk' with ⟨k1, _⟩ | ⟨_, k1, _⟩ | ⟨_, _, i, L1, L2, hi, _, rfl, hl, he, hL⟩
  · omega
  · omega
  · obtain rfl : k = i := by omega
    exact ⟨L1, L2, rfl, hl, he, hL⟩
theorem alloc_no (x : Nat → Prop) (A B : Nat) (L : List Bl) (n0 : Nat) (z : Int) (k : Nat) (w : World) (hz : z = (k : Int)) (h : HX x A B L n0 w) (hk : k ≤ 4096) (hc : B < sumC L + Ar.cost k) :
    Calls Tryd.prog 8 #[.pointer (some ⟨A, 0, none⟩), .int .i64 z] w fun e w' => e = .returned (.tuple #[.int .i64 0, .int .i64 4]) ∧ w = w' := by
  subst hz
  have hci : Ar.costI (k : Int) = Ar.cost k := Ar.costI_nat hk
  have hcg := Ar.cost_ge k hk
  refine (alloc_x x A B L n0 (k : Int) w h).mono fun e w' hk' => ?_
  rcases hk' with ⟨k1, _⟩ | ⟨_, _, he, hw⟩ | ⟨_, k1, _⟩
  · omega
  · exact ⟨he, hw⟩
  · omega
theorem free_ok (x : Nat → Prop) (A B : Nat) (L1 L2 : List Bl) (b : Bl) (n0 : Nat) (z : Int) (w : World) (hz : z = (b.1 : Int)) (h : HX x A B (L1 ++ b :: L2) n0 w) :
    Calls Tryd.prog 10 #[.pointer (some ⟨A, 0, none⟩), .int .i64 z] w fun e w' => e = .returned (.int .i64 0) ∧ LX x A B (L1 ++ L2) n0 w w' := by
  subst hz
  refine (free_x x A B _ n0 _ w h).mono fun e w' hk => ?_
  rcases hk with ⟨k, _⟩ | ⟨M1, c, M2, e1, e2, he, hL⟩
  · exact absurd rfl (k b (by simp))
  · obtain ⟨rfl, _, rfl⟩ := srt_uniq h.each.1 e1 (by omega)
    exact ⟨he, hL⟩
theorem free_none' (x : Nat → Prop) (A B : Nat) (L : List Bl) (n0 : Nat) (z : Int) (w : World) (hz : ∀ b ∈ L, (b.1 : Int) ≠ z) (h : HX x A B L n0 w) :
    Calls Tryd.prog 10 #[.pointer (some ⟨A, 0, none⟩), .int .i64 z] w fun e w' => e = .returned (.int .i64 5) ∧ LX x A B L n0 w w' := by
  refine (free_x x A B _ n0 _ w h).mono fun e w' hk => ?_
  rcases hk with ⟨_, he, hL⟩ | ⟨M1, c, M2, rfl, e2, _⟩
  · exact ⟨he, hL⟩
  · exact absurd e2 (hz c (by simp))
theorem read_ok (x : Nat → Prop) (A B : Nat) (L : List Bl) (b : Bl) (n0 : Nat) (z a m : Int) (at_ n : Nat) (w : World) (hz : z = (b.1 : Int)) (ha : a = (at_ : Int)) (hm : m = (n : Int)) (hb : b ∈ L) (h : HX x A B L n0 w) (hw : at_ + n ≤ b.2.length) :
    Calls Tryd.prog 12 #[.pointer (some ⟨A, 0, none⟩), .int .i64 z, .int .i64 a, .int .i64 m] w fun e w' => ∃ v, e = .returned (.tuple #[v, .int .i64 0]) ∧ w'.ownsRow w.heap.size 5 1 v n (((b.2.drop at_).take n).map encB) ∧ LX x A B L n0 w w' ∧ Below w.heap.size w w' := by
  subst hz ha hm
  have hl := (h.each.2 b hb).2
  refine (read_x x A B L n0 _ _ _ w h (by omega) (by omega) (by omega) (by omega)).mono fun e w' hk => ?_
  obtain ⟨hL, hbw, hk⟩ := hk
  rcases hk with ⟨k, _⟩ | ⟨c, hc, e1, hk⟩
  · exact absurd rfl (k b hb)
  · obtain rfl := srt_mem h.each.1 hb hc (by omega)
    rcases hk with ⟨k, _⟩ | ⟨_, v, l, rfl, he, hr⟩
    · exact absurd ⟨by omega, by omega, by omega, by omega⟩ k
    · simp only [Int.toNat_natCast] at hr
      have hlen : ((b.2.drop at_).take n).length = n := by simp; omega
      rw [hlen] at hr
      exact ⟨v, he, hr, hL, hbw⟩
theorem read_no (x : Nat → Prop) (A B : Nat) (L : List Bl) (b : Bl) (n0 : Nat) (z a m : Int) (w : World) (hz : z = (b.1 : Int)) (hb : b ∈ L) (h : HX x A B L n0 w) (hw : ¬ Within b.2.length a m)
    (hI1 : -9223372036854775808 ≤ a) (hI2 : a ≤ 9223372036854775807) (hI3 : -9223372036854775808 ≤ m) (hI4 : m ≤ 9223372036854775807) :
    Calls Tryd.prog 12 #[.pointer (some ⟨A, 0, none⟩), .int .i64 z, .int .i64 a, .int .i64 m] w fun e w' => e = .returned (.tuple #[.slice none 0 0, .int .i64 1]) ∧ LX x A B L n0 w w' ∧ Below w.heap.size w w' := by
  subst hz
  refine (read_x x A B L n0 _ _ _ w h hI1 hI2 hI3 hI4).mono fun e w' hk => ?_
  obtain ⟨hL, hbw, hk⟩ := hk
  rcases hk with ⟨k, _⟩ | ⟨c, hc, e1, hk⟩
  · exact absurd rfl (k b hb)
  · obtain rfl := srt_mem h.each.1 hb hc (by omega)
    rcases hk with ⟨_, he⟩ | ⟨k, _⟩
    · exact ⟨he, hL, hbw⟩
    · exact absurd k hw
theorem write_ok (x : Nat → Prop) (A B : Nat) (L1 L2 : List Bl) (b : Bl) (n0 : Nat) (z a : Int) (at_ : Nat) (v : Value) (l : List UInt8) (w : World) (hz : z = (b.1 : Int)) (ha : a = (at_ : Int)) (h : HX x A B (L1 ++ b :: L2) n0 w) (hv : RdB v l w) (hw : at_ + l.length ≤ b.2.length) :
    Calls Tryd.prog 14 #[.pointer (some ⟨A, 0, none⟩), .int .i64 z, .int .i64 a, v] w fun e w' => e = .returned (.int .i64 0) ∧ LX x A B (L1 ++ (b.1, Ar.put b.2 at_ l) :: L2) n0 w w' := by
  subst hz ha
  have hl := (h.each.2 b (by simp)).2
  refine (write_x x A B _ n0 _ _ v l w h hv (by omega) (by omega) (by omega)).mono fun e w' hk => ?_
  rcases hk with ⟨k, _⟩ | ⟨M1, c, M2, e1, e2, hk⟩
  · exact absurd rfl (k b (by simp))
  · obtain ⟨rfl, rfl, rfl⟩ := srt_uniq h.each.1 e1 (by omega)
    rcases hk with ⟨k, _⟩ | ⟨_, he, hL⟩
    · exact absurd ⟨by omega, by omega, by omega, by omega⟩ k
    · rw [Int.toNat_natCast] at hL
      exact ⟨he, hL⟩
theorem write_no (x : Nat → Prop) (A B : Nat) (L : List Bl) (b : Bl) (n0 : Nat) (z a : Int) (v : Value) (l : List UInt8) (w : World) (hz : z = (b.1 : Int)) (hb : b ∈ L) (h : HX x A B L n0 w) (hv : RdB v l w) (hl : l.length ≤ 1048576) (hw : ¬ Within b.2.length a l.length)
    (hI1 : -9223372036854775808 ≤ a) (hI2 : a ≤ 9223372036854775807) :
    Calls Tryd.prog 14 #[.pointer (some ⟨A, 0, none⟩), .int .i64 z, .int .i64 a, v] w fun e w' => e = .returned (.int .i64 1) ∧ LX x A B L n0 w w' := by
  subst hz
  refine (write_x x A B _ n0 _ _ v l w h hv hl hI1 hI2).mono fun e w' hk => ?_
  rcases hk with ⟨k, _⟩ | ⟨M1, c, M2, rfl, e2, hk⟩
  · exact absurd rfl (k b hb)
  · obtain rfl := srt_mem h.each.1 hb (show c ∈ M1 ++ c :: M2 by simp) (by omega)
    rcases hk with ⟨_, he, hL⟩ | ⟨k, _⟩
    · exact ⟨he, hL⟩
    · exact absurd k hw
theorem write_none (x : Nat → Prop) (A B : Nat) (L : List Bl) (n0 : Nat) (z a : Int) (v : Value) (l : List UInt8) (w : World) (hz : ∀ b ∈ L, (b.1 : Int) ≠ z) (h : HX x A B L n0 w) (hv : RdB v l w) (hl : l.length ≤ 1048576)
    (hI1 : -9223372036854775808 ≤ a) (hI2 : a ≤ 9223372036854775807) :
    Calls Tryd.prog 14 #[.pointer (some ⟨A, 0, none⟩), .int .i64 z, .int .i64 a, v] w fun e w' => e = .returned (.int .i64 5) ∧ LX x A B L n0 w w' := by
  refine (write_x x A B _ n0 _ _ v l w h hv hl hI1 hI2).mono fun e w' hk => ?_
  rcases hk with ⟨_, he, hL⟩ | ⟨M1, c, M2, rfl, e2, _⟩
  · exact ⟨he, hL⟩
  · exact absurd e2 (hz c (by simp))
theorem size_ok (x : Nat → Prop) (A B : Nat) (L : List Bl) (b : Bl) (n0 : Nat) (z : Int) (w : World) (hz : z = (b.1 : Int)) (hb : b ∈ L) (h : HX x A B L n0 w) :
    Calls Tryd.prog 19 #[.pointer (some ⟨A, 0, none⟩), .int .i64 z] w fun e w' => e = .returned (.tuple #[.int .i64 (b.2.length : Int), .bool true]) ∧ LX x A B L n0 w w' ∧ Below w.heap.size w w' := by
  subst hz
  refine (size_x x A B L n0 _ w h).mono fun e w' ⟨hL, hbw, hk⟩ => ?_
  rcases hk with ⟨k, _⟩ | ⟨c, hc, e1, he⟩
  · exact absurd rfl (k b hb)
  · obtain rfl := srt_mem h.each.1 hb hc (by omega)
    exact ⟨he, hL, hbw⟩
theorem size_none' (x : Nat → Prop) (A B : Nat) (L : List Bl) (n0 : Nat) (z : Int) (w : World) (hz : ∀ b ∈ L, (b.1 : Int) ≠ z) (h : HX x A B L n0 w) :
    Calls Tryd.prog 19 #[.pointer (some ⟨A, 0, none⟩), .int .i64 z] w fun e w' => e = .returned (.tuple #[.int .i64 0, .bool false]) ∧ LX x A B L n0 w w' ∧ Below w.heap.size w w' := by
  refine (size_x x A B L n0 _ w h).mono fun e w' ⟨hL, hbw, hk⟩ => ?_
  rcases hk with ⟨_, he⟩ | ⟨c, hc, e1, _⟩
  · exact ⟨he, hL, hbw⟩
  · exact absurd e1 (hz c hc)
theorem read_none (x : Nat → Prop) (A B : Nat) (L : List Bl) (n0 : Nat) (z a m : Int) (w : World) (hz : ∀ b ∈ L, (b.1 : Int) ≠ z) (h : HX x A B L n0 w)
    (hI1 : -9223372036854775808 ≤ a) (hI2 : a ≤ 9223372036854775807) (hI3 : -9223372036854775808 ≤ m) (hI4 : m ≤ 9223372036854775807) :
    Calls Tryd.prog 12 #[.pointer (some ⟨A, 0, none⟩), .int .i64 z, .int .i64 a, .int .i64 m] w fun e w' => e = .returned (.tuple #[.slice none 0 0, .int .i64 5]) ∧ LX x A B L n0 w w' ∧ Below w.heap.size w w' := by
  refine (read_x x A B L n0 _ _ _ w h hI1 hI2 hI3 hI4).mono fun e w' ⟨hL, hbw, hk⟩ => ?_
  rcases hk with ⟨_, he⟩ | ⟨c, hc, e1, _⟩
  · exact ⟨he, hL, hbw⟩
  · exact absurd e1 (hz c hc)
end Go.Proofs.YtagjjpmhacknpaaDoor

/- awake is true. -/
set_option maxRecDepth 100000
namespace Go.Proofs.YtagjjpmhacknpaaDoor
open Go.RowKit Go.Shelf
theorem run_rd_str {v : Value} {l : List UInt8} {W : World} (h : RdB v l W) (hne : l ≠ []) : (convert 34 9 v).run Tryd.prog W = .ok (.string ⟨l.toArray⟩) W := by
  obtain ⟨ao, cap, rfl, hc⟩ := h.form
  cases l with
  | nil => exact absurd rfl hne
  | cons c l =>
    obtain ⟨b, off, rfl, _⟩ := hc 0 (by simp)
    exact run_convert_bytes_back (P := Tryd.prog) W 34 9 5 ⟨b, off, none⟩ cap (c :: l) Tryd.underlying34 Tryd.underlying5 Tryd.underlying9 (fun j hj => by
      obtain ⟨b', off', e, c1⟩ := hc j hj
      cases e
      have e2 : (⟨b, off, none⟩ : Addr).add j = ⟨b, off + j, none⟩ := by unfold Addr.add; split <;> simp_all
      rw [e2]
      exact c1)
theorem abc_new (W : World) : RdB (.slice (some ⟨W.heap.size, 0, none⟩) 3 3) [97, 98, 99] (W.alloc (.cells #[.int .u8 97, .int .u8 98, .int .u8 99] 5 (3, 4))) :=
  ⟨some ⟨W.heap.size, 0, none⟩, 3, rfl, fun j hj => ⟨W.heap.size, 0, rfl, by
    have h := World.alloc_heap_new W (.cells #[.int .u8 97, .int .u8 98, .int .u8 99] 5 (3, 4))
    simp only [List.length_cons, List.length_nil, Nat.zero_add, Nat.reduceAdd] at hj
    unfold World.cell?
    rw [h]
    match j, hj with
    | 0, _ => rfl
    | 1, _ => rfl
    | 2, _ => rfl⟩⟩
theorem conv_abc (W : World) : (convert 34 34 (.slice (some ⟨W.heap.size, 0, none⟩) 3 3)).run Tryd.prog (W.alloc (.cells #[.int .u8 97, .int .u8 98, .int .u8 99] 5)) = .ok (.slice (some ⟨W.heap.size, 0, none⟩) 3 3) (W.alloc (.cells #[.int .u8 97, .int .u8 98, .int .u8 99] 5 (3, 4))) :=
  Lib.run_convert_bytes_const W _ _ _ 3 3 Tryd.underlying34 Tryd.underlying5
set_option maxHeartbeats 8000000 in
theorem awake_any (w : World) (hT : TabOk w) : Calls Tryd.prog 5 #[] w fun e w' => e = .returned (.bool true) ∧ Below w.heap.size w w' := by
  have hg : 0 < w.heap.size := cell_lt (hT 0 (by decide))
  have hn : ∀ W : World, Calls Tryd.prog 6 #[.int .i64 1023] W fun e w' => e = .returned (.tuple #[.pointer none, .int .i64 1]) ∧ W = w' := fun W => new_none 1023 W (.inl (by decide))
  have hbig : ∀ (v : Value) (W : World), Calls Tryd.prog 8 #[v, .int .i64 4097] W fun e w' => e = .returned (.tuple #[.int .i64 0, .int .i64 3]) ∧ W = w' := fun v W => alloc_big v 4097 W (by decide)
  have hnil : ∀ (W : World), Calls Tryd.prog 8 #[.pointer none, .int .i64 1] W fun e w' => e = .returned (.tuple #[.int .i64 0, .int .i64 4]) ∧ W = w' := fun W => alloc_nil 1 _ W (by decide) rfl
  have hc8 : ∀ W : World, Calls Tryd.prog 20 #[.int .i64 8] W fun e w' => e = .returned (.int .i64 16) ∧ W = w' := fun W => by have h := cost_any 8 W; rw [show Ar.costI 8 = 16 by decide] at h; exact h
  have hc9 : ∀ W : World, Calls Tryd.prog 20 #[.int .i64 9] W fun e w' => e = .returned (.int .i64 32) ∧ W = w' := fun W => by have h := cost_any 9 W; rw [show Ar.costI 9 = 32 by decide] at h; exact h
  have hc1 : ∀ W : World, Calls Tryd.prog 20 #[.int .i64 (-1)] W fun e w' => e = .returned (.int .i64 0) ∧ W = w' := fun W => by have h := cost_any (-1) W; rw [show Ar.costI (-1) = 0 by decide] at h; exact h
  have hcv := conv_abc
  have HN := Lib.hid hn
  have HBIG := Lib.hid hbig
  have HNIL := Lib.hid hnil
  have HC8 := Lib.hid hc8
  have HC9 := Lib.hid hc9
  have HC1 := Lib.hid hc1
  have HT := Lib.hid hT
  have HG := Lib.hid hg
  clear hn hbig hnil hc8 hc9 hc1 hT hg
  go_enter Tryd.func5, Tryd.ntmps5
  go_wp2_with (first
    | (go_at_call 6; with_reducible refine (aw_new _).mono ?_; rintro e w1 ⟨A, rfl, hA1, hb1⟩; have HA1 := Lib.hid hA1; have HB1 := Lib.hid hb1; have HT1 := Lib.hid (HT.out.below HG.out hb1); clear hA1 hb1)
    | (go_at_call 6; with_reducible refine (HN.out _).mono ?_; rintro e w' ⟨rfl, rfl⟩)
    | (go_at_call 8; with_reducible refine (aw_alloc A _ _ HA1.out HT1.out HG.out).mono ?_; rintro e w2 ⟨rfl, ⟨b, hA2, hN2⟩, hb2⟩; have HA2 := Lib.hid hA2; have HN2 := Lib.hid hN2; have HB2 := Lib.hid (HB1.out.trans hb2); clear hA2 hN2 hb2)
    | (go_at_call 8; with_reducible refine (HBIG.out _ _).mono ?_; rintro e w' ⟨rfl, rfl⟩)
    | (go_at_call 14; with_reducible refine (aw_write A _ b _ _ (HA2.out.below ((Below.refl _ _).alloc (Nat.le_refl _) _)) HN2.out (by exact abc_new _)).mono ?_; rintro e w3 ⟨rfl, ⟨q, hA3, ho3, hs3, hd3⟩, hb3⟩; have HA3 := Lib.hid hA3; have HO3 := Lib.hid ho3; have HS3 := Lib.hid hs3; have HD3 := Lib.hid hd3; have HB3 := Lib.hid ((HB2.out.alloc HB2.out.size _).trans hb3); clear hA3 ho3 hs3 hd3 hb3)
    | (go_at_call 12; with_reducible refine (aw_read A _ q _ HA3.out HO3.out HS3.out HD3.out).mono ?_; rintro e w4 ⟨⟨v, rfl, hr4⟩, hb4⟩; have HA4 := Lib.hid (HA3.out.below hb4); have HB4 := Lib.hid (HB3.out.trans (hb4.mono HB3.out.size)); have HR4 := Lib.hid (RdB.own (l := [0, 97, 98, 99, 0]) hr4); clear hr4 hb4)
    | (go_at_call 19; with_reducible refine (aw_size A _ q _ HA4.out HO3.out HS3.out).mono ?_; rintro e w5 ⟨rfl, hb5⟩; have HA5 := Lib.hid (HA4.out.below hb5); have HB5 := Lib.hid (HB4.out.trans (hb5.mono HB4.out.size)); have hst : (convert 34 9 v).run Tryd.prog w5 = .ok (.string ⟨#[0, 97, 98, 99, 0]⟩) w5 := run_rd_str (HR4.out.below hb5) (by simp); clear hb5)
    | (go_at_call 8; with_reducible refine (HNIL.out _).mono ?_; rintro e w' ⟨rfl, rfl⟩)
    | (go_at_call 20; with_reducible refine (HC8.out _).mono ?_; rintro e w' ⟨rfl, rfl⟩)
    | (go_at_call 20; with_reducible refine (HC9.out _).mono ?_; rintro e w' ⟨rfl, rfl⟩)
    | (go_at_call 20; with_reducible refine (HC1.out _).mono ?_; rintro e w' ⟨rfl, rfl⟩)
    | (go_at_call 21; with_reducible refine (aw_used A _ q _ HA5.out HS3.out).mono ?_; rintro e w' ⟨rfl, rfl⟩)
    | (go_at_call 22; with_reducible refine (aw_left A _ q _ HA5.out HS3.out).mono ?_; rintro e w' ⟨rfl, rfl⟩)
    | (go_at_call 16; with_reducible refine (aw_compact A _ q _ HA5.out HS3.out).mono ?_; rintro e w6 ⟨rfl, hb6⟩; have HB6 := Lib.hid (HB5.out.trans hb6); clear hb6)
    | (go_at_call 21; with_reducible refine (used_nil _).mono ?_; rintro e w' ⟨rfl, rfl⟩))
  go_ret
  exact ⟨rfl, HB6.out⟩
end Go.Proofs.YtagjjpmhacknpaaDoor

/- ArenaEdges: what its calls do. -/
set_option maxRecDepth 100000
namespace Go.Proofs.YtagjjpmhacknpaaDoor
open Go.RowKit Go.Shelf
attribute [local go_sem] Oper.semAt_some
theorem run_rd_any {v : Value} {l : List UInt8} {W : World} (h : RdB v l W) : (convert 34 9 v).run Tryd.prog W = .ok (.string ⟨l.toArray⟩) W := by
  cases l with
  | nil =>
    obtain ⟨ao, cap, rfl, _⟩ := h.form
    rw [run_convert_bytes_string W _ _ _ _ _ cap Tryd.underlying34 Tryd.underlying5 Tryd.underlying9]
    cases ao <;> simp [Conv.bytesToString, loadCells]
    all_goals rfl
  | cons c l => exact run_rd_str h (by simp)
/-- A block of the law's own beside its arena. -/
structure Mn (A B I : Nat) (cs : List Value) (T : TypeId) (L : List Bl) (w0 w : World) : Prop where
  hx : HX (fun k => k = I) A B L w0.heap.size w
  blk : Blk w I cs T
  bel : Below w0.heap.size w0 w
theorem Mn.to {A B I : Nat} {cs : List Value} {T : TypeId} {L L' : List Bl} {w0 w w' : World} (h : Mn A B I cs T L w0 w) (k : LX (fun k => k = I) A B L' w0.heap.size w w') : Mn A B I cs T L' w0 w' :=
  ⟨k.at_, k.blk rfl h.blk, h.bel.trans k.below⟩
theorem Mn.put {A B I : Nat} {cs : List Value} {T : TypeId} {L : List Bl} {w0 w : World} (h : Mn A B I cs T L w0 w) (i : Nat) (v : Value) : Mn A B I (cs.set i v) T L w0 (w.setCell ⟨I, i, none⟩ v) :=
  ⟨h.hx.put rfl i _, h.blk.set i _, h.bel.setCell (h.hx.xlow I rfl) _⟩
theorem Mn.after {A B I : Nat} {cs : List Value} {T : TypeId} {L : List Bl} {w0 w w' : World} (h : Mn A B I cs T L w0 w) (hb : Below w.heap.size w w') : Mn A B I cs T L w0 w' := h.to (h.hx.lx hb)
theorem Mn.start {A B : Nat} {L : List Bl} {w0 w : World} (h : HX (fun _ => False) A B L w0.heap.size w) (hb : Below w0.heap.size w0 w) (cs : List Value) (T : TypeId) : Mn A B w.heap.size cs T L w0 (w.alloc (.cells cs.toArray T)) :=
  ⟨(h.mine _).less (fun _ e => .inr e), Blk.new w _ _, hb.trans ((Below.refl _ w).alloc h.low _)⟩
theorem rdB_block {W : World} {I : Nat} {l : List UInt8} {n c : Nat} (h : Blk W I (l.map encB) 5) (hn : n = l.length) : RdB (.slice (some ⟨I, 0, none⟩) n c) l W := by
  subst hn
  exact ⟨some ⟨I, 0, none⟩, c, rfl, fun j hj => ⟨I, 0, rfl, by rw [Nat.zero_add]; exact h.cell (encB_at hj)⟩⟩
theorem rdB_nil (W : World) (c : Nat) : RdB (.slice none 0 c) [] W := ⟨none, c, rfl, fun j hj => by cases hj⟩
def fitsB (n : Nat) (a : Int) (size : Nat) : Bool := decide (0 ≤ a ∧ a ≤ n ∧ (size : Int) ≤ n - a)
theorem fitsB_iff {n : Nat} {a : Int} {size : Nat} : fitsB n a size = true ↔ Within n a size := by
  unfold fitsB Within
  rw [decide_eq_true_eq]
  constructor
  · rintro ⟨h1, h2, h3⟩; exact ⟨h1, by omega, h2, h3⟩
  · rintro ⟨h1, h2, h3, h4⟩; exact ⟨h1, h3, h4⟩
def xsB (size : Nat) : List UInt8 := List.replicate size 120
def edD (n : Nat) (a : Int) (size : Nat) : Bool → List UInt8
  | true => Ar.put (Ar.zeros n) a.toNat (xsB size)
  | false => Ar.zeros n
def edL (n : Nat) (a : Int) (size : Nat) (fb : Bool) : List Bl := [(1, edD n a size fb), (2, Ar.zeros 20)]
def edC (size : Nat) : Bool → List UInt8
  | true => xsB size
  | false => []
def jOf : Bool → Int
  | true => 0
  | false => 1
theorem zeros_len (n : Nat) : (Ar.zeros n).length = n := by simp [Ar.zeros]
theorem xs_len (n : Nat) : (xsB n).length = n := by simp [xsB]
theorem edD_len {n : Nat} {a : Int} {size : Nat} (fb : Bool) (h : fb = true → Within n a size) : (edD n a size fb).length = n := by
  cases fb with
  | false => exact zeros_len n
  | true =>
    obtain ⟨h1, h2, h3, h4⟩ := h rfl
    unfold edD
    rw [Ar.put_len _ _ _ (by rw [xs_len, zeros_len]; omega), zeros_len]
theorem ed_write (A I n size : Nat) (a : Int) (w0 w : World) (fb : Bool) (jv : Int) (hj : jv = jOf fb) (hfb : fb = fitsB n a size) (h : Mn A 2048 I ((xsB size).map encB) 5 [(1, Ar.zeros n), (2, Ar.zeros 20)] w0 w) (hs : size ≤ 1000) (hI1 : -9223372036854775808 ≤ a) (hI2 : a ≤ 9223372036854775807) :
    Calls Tryd.prog 14 #[.pointer (some ⟨A, 0, none⟩), .int .i64 1, .int .i64 a, .slice (some ⟨I, 0, none⟩) size size] w fun e w' => e = .returned (.int .i64 jv) ∧ Mn A 2048 I ((xsB size).map encB) 5 (edL n a size fb) w0 w' := by
  subst hj
  have hv := rdB_block (c := size) h.blk (xs_len size).symm
  cases fb with
  | true =>
    obtain ⟨h1, h2, h3, h4⟩ := fitsB_iff.1 hfb.symm
    obtain ⟨k, rfl⟩ : ∃ k : Nat, a = (k : Int) := ⟨a.toNat, by omega⟩
    refine (write_ok _ A 2048 [] [(2, Ar.zeros 20)] (1, Ar.zeros n) _ 1 (k : Int) k _ (xsB size) w rfl rfl h.hx hv (by rw [xs_len, zeros_len]; omega)).mono fun e w' ⟨he, hL⟩ => ⟨he, h.to ?_⟩
    unfold edL edD
    rw [Int.toNat_natCast]
    exact hL
  | false =>
    have hno : ¬ Within n a size := fun hw => by rw [fitsB_iff.2 hw] at hfb; cases hfb
    exact (write_no _ A 2048 _ (1, Ar.zeros n) _ 1 a _ (xsB size) w rfl (by simp) h.hx hv (by rw [xs_len]; omega) (by rw [xs_len, zeros_len]; exact hno) hI1 hI2).mono fun e w' ⟨he, hL⟩ => ⟨he, h.to hL⟩
theorem put_back (d l : List UInt8) (k : Nat) (h : k + l.length ≤ d.length) : ((Ar.put d k l).drop k).take l.length = l := by
  unfold Ar.put
  have h1 : (d.take k).length = k := by simp; omega
  rw [List.append_assoc, List.drop_left' h1, List.take_left' rfl]
theorem ed_read1 (A I n size : Nat) (a : Int) (w0 w : World) (fb : Bool) (jv : Int) (ln : Nat) (hj : jv = jOf fb) (hln : ln = (edC size fb).length) (hfb : fb = fitsB n a size) (h : Mn A 2048 I ((xsB size).map encB) 5 (edL n a size fb) w0 w) (hI1 : -9223372036854775808 ≤ a) (hI2 : a ≤ 9223372036854775807) (hs : size ≤ 1000) :
    Calls Tryd.prog 12 #[.pointer (some ⟨A, 0, none⟩), .int .i64 1, .int .i64 a, .int .i64 (size : Int)] w fun e w' => ∃ ao c, e = .returned (.tuple #[.slice ao ln c, .int .i64 jv]) ∧ RdB (.slice ao ln c) (edC size fb) w' ∧ Mn A 2048 I ((xsB size).map encB) 5 (edL n a size fb) w0 w' := by
  subst hj hln
  cases fb with
  | true =>
    obtain ⟨h1, h2, h3, h4⟩ := fitsB_iff.1 hfb.symm
    obtain ⟨k, rfl⟩ : ∃ k : Nat, a = (k : Int) := ⟨a.toNat, by omega⟩
    refine (read_ok _ A 2048 _ (1, edD n (k : Int) size true) _ 1 (k : Int) (size : Int) k size w rfl rfl rfl (by simp [edL]) h.hx (by show k + size ≤ (edD n (k : Int) size true).length; rw [edD_len true (fun _ => ⟨h1, h2, h3, h4⟩)]; omega)).mono fun e w' ⟨v, he, hr, hL, hb⟩ => ?_
    have e1 : ((edD n (k : Int) size true).drop k).take size = xsB size := by
      have := put_back (Ar.zeros n) (xsB size) k (by rw [xs_len, zeros_len]; omega)
      rw [xs_len] at this
      exact this
    have hr2 : RdB v (xsB size) w' := RdB.own (base := w.heap.size) (by rw [xs_len]; rw [e1] at hr; exact hr)
    obtain ⟨ao, c, rfl, _⟩ := hr2.form
    exact ⟨ao, c, he, hr2, h.to hL⟩
  | false =>
    have hno : ¬ Within n a size := fun hw => by rw [fitsB_iff.2 hw] at hfb; cases hfb
    refine (read_no _ A 2048 _ (1, Ar.zeros n) _ 1 a (size : Int) w rfl (by simp [edL, edD]) h.hx (by rw [zeros_len]; exact hno) hI1 hI2 (by omega) (by omega)).mono fun e w' ⟨he, hL, _⟩ => ⟨none, 0, he, rdB_nil w' 0, h.to hL⟩
theorem ed_read2 (A I n size : Nat) (a : Int) (w0 w : World) (fb : Bool) (hfb : fb = fitsB n a size) (h : Mn A 2048 I ((xsB size).map encB) 5 (edL n a size fb) w0 w) :
    Calls Tryd.prog 12 #[.pointer (some ⟨A, 0, none⟩), .int .i64 1, .int .i64 0, .int .i64 (n : Int)] w fun e w' => ∃ ao c, e = .returned (.tuple #[.slice ao n c, .int .i64 0]) ∧ RdB (.slice ao n c) (edD n a size fb) w' ∧ Mn A 2048 I ((xsB size).map encB) 5 (edL n a size fb) w0 w' ∧ Below w.heap.size w w' := by
  have hl : (edD n a size fb).length = n := edD_len fb fun e => fitsB_iff.1 (hfb ▸ e)
  refine (read_ok _ A 2048 _ (1, edD n a size fb) _ 1 0 (n : Int) 0 n w rfl rfl rfl (by simp [edL]) h.hx (by show 0 + n ≤ (edD n a size fb).length; omega)).mono fun e w' ⟨v, he, hr, hL, hb⟩ => ?_
  have e1 : ((edD n a size fb).drop 0).take n = edD n a size fb := by rw [List.drop_zero, List.take_of_length_le (by omega)]
  have hr2 : RdB v (edD n a size fb) w' := RdB.own (base := w.heap.size) (by rw [hl]; rw [e1] at hr; exact hr)
  obtain ⟨ao, c, rfl, _⟩ := hr2.form
  rw [hl] at he hr2
  exact ⟨ao, c, he, hr2, h.to hL, hb⟩
theorem ed_read3 (A I n size : Nat) (a : Int) (w0 w : World) (fb : Bool) (h : Mn A 2048 I ((xsB size).map encB) 5 (edL n a size fb) w0 w) :
    Calls Tryd.prog 12 #[.pointer (some ⟨A, 0, none⟩), .int .i64 2, .int .i64 0, .int .i64 20] w fun e w' => ∃ ao c, e = .returned (.tuple #[.slice ao 20 c, .int .i64 0]) ∧ RdB (.slice ao 20 c) (Ar.zeros 20) w' ∧ Mn A 2048 I ((xsB size).map encB) 5 (edL n a size fb) w0 w' ∧ Below w.heap.size w w' := by
  refine (read_ok _ A 2048 _ (2, Ar.zeros 20) _ 2 0 20 0 20 w rfl rfl rfl (by simp [edL]) h.hx (by rw [zeros_len]; omega)).mono fun e w' ⟨v, he, hr, hL, hb⟩ => ?_
  have e1 : ((Ar.zeros 20).drop 0).take 20 = Ar.zeros 20 := by rw [List.drop_zero, List.take_of_length_le (by rw [zeros_len]; omega)]
  have hr2 : RdB v (Ar.zeros 20) w' := RdB.own (base := w.heap.size) (by rw [zeros_len]; rw [e1] at hr; exact hr)
  obtain ⟨ao, c, rfl, _⟩ := hr2.form
  rw [zeros_len] at he hr2
  exact ⟨ao, c, he, hr2, h.to hL, hb⟩
theorem ed_write99 (A I n size : Nat) (a : Int) (w0 w : World) (fb : Bool) (h : Mn A 2048 I ((xsB size).map encB) 5 (edL n a size fb) w0 w) :
    Calls Tryd.prog 14 #[.pointer (some ⟨A, 0, none⟩), .int .i64 99, .int .i64 0, .slice none 0 0] w fun e w' => e = .returned (.int .i64 5) ∧ Mn A 2048 I ((xsB size).map encB) 5 (edL n a size fb) w0 w' :=
  (write_none _ A 2048 _ _ 99 0 _ [] w (by unfold edL; intro b hb; simp at hb; rcases hb with rfl | rfl <;> simp) h.hx (rdB_nil w 0) (by simp) (by omega) (by omega)).mono fun e w' ⟨he, hL⟩ => ⟨he, h.to hL⟩
theorem ed_alloc1 (A n : Nat) (w0 w : World) (h : HX (fun _ => False) A 2048 [] w0.heap.size w) (hb : Below w0.heap.size w0 w) (hn : n ≤ 500) :
    Calls Tryd.prog 8 #[.pointer (some ⟨A, 0, none⟩), .int .i64 (n : Int)] w fun e w' => e = .returned (.tuple #[.int .i64 1, .int .i64 0]) ∧ HX (fun _ => False) A 2048 [(1, Ar.zeros n)] w0.heap.size w' ∧ Below w0.heap.size w0 w' := by
  have hc : Ar.cost n ≤ 512 := by unfold Ar.cost; (repeat' split) <;> omega
  refine (alloc_ok _ A 2048 [] _ _ n w rfl h (by omega) (by rw [sumC_nil]; omega)).mono fun e w' ⟨L1, L2, e1, hl, he, hL⟩ => ?_
  obtain ⟨rfl, rfl⟩ := List.append_eq_nil_iff.1 e1.symm
  exact ⟨he, hL.at_, hb.trans hL.below⟩
theorem ed_alloc2 (A n : Nat) (w0 w : World) (h : HX (fun _ => False) A 2048 [(1, Ar.zeros n)] w0.heap.size w) (hb : Below w0.heap.size w0 w) (hn : n ≤ 500) :
    Calls Tryd.prog 8 #[.pointer (some ⟨A, 0, none⟩), .int .i64 20] w fun e w' => e = .returned (.tuple #[.int .i64 2, .int .i64 0]) ∧ HX (fun _ => False) A 2048 [(1, Ar.zeros n), (2, Ar.zeros 20)] w0.heap.size w' ∧ Below w0.heap.size w0 w' := by
  have hc : Ar.cost n ≤ 512 := by unfold Ar.cost; (repeat' split) <;> omega
  have hc2 : Ar.cost 20 = 32 := by decide
  refine (alloc_ok _ A 2048 _ _ 20 20 w rfl h (by omega) (by rw [sumC_cons, sumC_nil]; simp only [zeros_len]; omega)).mono fun e w' ⟨L1, L2, e1, hl, he, hL⟩ => ?_
  have hL1 : L1 = [(1, Ar.zeros n)] ∧ L2 = [] := by
    cases L1 with
    | nil =>
      simp at e1
      subst e1
      have := hl.2 (1, Ar.zeros n) (by simp)
      simp at this
    | cons y r =>
      simp at e1
      obtain ⟨rfl, e2, e3⟩ := e1
      exact ⟨by rw [e2], e3⟩
  obtain ⟨rfl, rfl⟩ := hL1
  exact ⟨he, hL.at_, hb.trans hL.below⟩
theorem ed_new (w : World) (hT : TabOk w) : Calls Tryd.prog 6 #[.int .i64 2048] w fun e w' => ∃ A, e = .returned (.tuple #[.pointer (some ⟨A, 0, none⟩), .int .i64 0]) ∧ HX (fun _ => False) A 2048 [] w.heap.size w' ∧ Below w.heap.size w w' :=
  new_x 2048 w (by decide) (by decide) hT
end Go.Proofs.YtagjjpmhacknpaaDoor

/- Rows of a law's own beside its arena: what they hold, through the arena's calls, stores and appends. -/
set_option maxRecDepth 100000
namespace Go.Proofs.YtagjjpmhacknpaaDoor
open Go.RowKit Go.Shelf
/-- A block that can be none of an arena's. -/
def Foreign (w : World) (k : Nat) : Prop := ∃ c e z, w.heap[k]? = some (.cells c e z) ∧ e ≠ 66 ∧ e ≠ 5 ∧ e ≠ 21 ∧ e ≠ 81 ∧ e ≠ 93
theorem Foreign.not {w : World} {k : Nat} {l : List Value} {t : TypeId} (h : Foreign w k) (hb : Blk w k l t) (ht : t = 66 ∨ t = 5 ∨ t = 21 ∨ t = 81 ∨ t = 93) : False := by
  obtain ⟨c, e, z, h1, h2, h3, h4, h5, h6⟩ := h
  have := (show w.heap[k]? = _ from hb).symm.trans h1
  injection this with this
  injection this with _ this
  subst this
  rcases ht with ht | ht | ht | ht | ht <;> contradiction
theorem HX.turn {x y : Nat → Prop} {A B : Nat} {L : List Bl} {n0 : Nat} {w w' : World} (h : HX x A B L n0 w) (hk : ∀ k, k < w.heap.size → ¬ x k → w'.heap[k]? = w.heap[k]?) (hb : Below n0 w w')
    (hy : ∀ k, y k → n0 ≤ k ∧ k < w'.heap.size ∧ (x k ∨ w.heap.size ≤ k ∨ Foreign w' k)) : HX y A B L n0 w' := by
  obtain ⟨bs, ⟨L', S, pcs, a, I, e, m⟩, hv⟩ := h.ex
  have hs := hb.size
  have one : ∀ (K : Nat) (l : List Value) (t : TypeId), (t = 66 ∨ t = 5 ∨ t = 21 ∨ t = 81 ∨ t = 93) → Blk w K l t → fx x n0 w K → Blk w' K l t ∧ fx y n0 w' K := fun K l t ht hbk hf => by
    have hB := hbk.kept (hk K hf.2.1 hf.2.2)
    refine ⟨hB, hf.1, Nat.lt_of_lt_of_le hf.2.1 hs, fun e => ?_⟩
    rcases (hy K e).2.2 with h1 | h1 | h1
    · exact hf.2.2 h1
    · have := hf.2.1; omega
    · exact h1.not hB ht
  obtain ⟨b1, f1⟩ := one _ _ _ (.inl rfl) a.box a.fA
  obtain ⟨b2, f2⟩ := one _ _ _ (.inr (.inl rfl)) a.mem a.fM
  obtain ⟨b3, f3⟩ := one _ _ _ (.inr (.inr (.inl rfl))) a.pl a.fP
  obtain ⟨b4, f4⟩ := one _ _ _ (.inr (.inr (.inr (.inl rfl)))) a.us a.fU
  obtain ⟨b5, f5⟩ := one _ _ _ (.inr (.inr (.inr (.inr rfl)))) a.nd a.fN
  exact ⟨⟨bs, ⟨L', S, pcs, ⟨b1, b2, b3, b4, b5, a.cap, a.cm, f1, f2, f3, f4, f5, fun k e => e.2.1⟩, I, e, m⟩, hv⟩, Nat.le_trans h.low hs, fun k e => (hy k e).2.1, fun k e => (hy k e).1, h.tab.below h.tlt hb, h.tlt⟩
/-- A row of the law's own. -/
structure RowIn (x : Nat → Prop) (n0 : Nat) (e : TypeId) (v : Value) (cs : List Value) (w : World) : Prop where
  own : w.ownsRow n0 e 1 v cs.length cs
  isIn : ∀ k, v.ownBlock = some k → x k
theorem ownsRow_same {w w' : World} {n0 : Nat} {e : TypeId} {v : Value} {n : Nat} {cs : List Value} (h : w.ownsRow n0 e 1 v n cs) (hk : ∀ k, v.ownBlock = some k → w'.heap[k]? = w.heap[k]?) : w'.ownsRow n0 e 1 v n cs := by
  refine ⟨h.1, ?_⟩
  rcases h.2 with h2 | ⟨g, cap, cur, rfl, h3, h4, h5⟩
  · exact .inl h2
  · exact .inr ⟨g, cap, cur, rfl, h3, (hk g rfl).trans h4, h5⟩
theorem RowIn.lx {x : Nat → Prop} {A B : Nat} {L : List Bl} {n0 : Nat} {e : TypeId} {v : Value} {cs : List Value} {w w' : World} (h : RowIn x n0 e v cs w) (k : LX x A B L n0 w w') : RowIn x n0 e v cs w' :=
  ⟨ownsRow_same h.own fun j hj => k.own j (h.isIn j hj), h.isIn⟩
theorem RowIn.below {x : Nat → Prop} {n0 : Nat} {e : TypeId} {v : Value} {cs : List Value} {w w' : World} (h : RowIn x n0 e v cs w) (hb : Below w.heap.size w w') : RowIn x n0 e v cs w' :=
  ⟨ownsRow_same h.own fun j hj => hb.block j (h.own.lt j hj).2, h.isIn⟩
theorem RowIn.same {x : Nat → Prop} {n0 : Nat} {e : TypeId} {v : Value} {cs : List Value} {w w' : World} (h : RowIn x n0 e v cs w) (hk : ∀ k, v.ownBlock = some k → w'.heap[k]? = w.heap[k]?) : RowIn x n0 e v cs w' := ⟨ownsRow_same h.own hk, h.isIn⟩
theorem RowIn.more {x y : Nat → Prop} {n0 : Nat} {e : TypeId} {v : Value} {cs : List Value} {w : World} (h : RowIn x n0 e v cs w) (hy : ∀ k, x k → y k) : RowIn y n0 e v cs w := ⟨h.own, fun k hk => hy k (h.isIn k hk)⟩
theorem RowIn.nil (x : Nat → Prop) (n0 : Nat) (e : TypeId) (w : World) : RowIn x n0 e (.slice none 0 0) [] w := ⟨World.ownsRow_nil w n0 e 1, fun k hk => by cases hk⟩
theorem RowIn.form {x : Nat → Prop} {n0 : Nat} {e : TypeId} {v : Value} {cs : List Value} {w : World} (h : RowIn x n0 e v cs w) : ∃ ao c, v = .slice ao cs.length c ∧ cs.length ≤ c := by
  rcases h.own.2 with ⟨rfl, hn⟩ | ⟨g, cap, cur, rfl, _, _, h5, _⟩
  · exact ⟨none, 0, by rw [hn], by omega⟩
  · exact ⟨_, cap, rfl, h5⟩
theorem RowIn.at_ {x : Nat → Prop} {n0 : Nat} {e : TypeId} {ao : Option Addr} {n c : Nat} {cs : List Value} {w : World} (h : RowIn x n0 e (.slice ao n c) cs w) {i : Nat} {u : Value} (hu : cs[i]? = some u) : ∃ g, ao = some ⟨g, 0, none⟩ ∧ w.cell? ⟨g, i, none⟩ = some u ∧ w.frozen? ⟨g, i, none⟩ = false ∧ n0 ≤ g ∧ x g := by
  have hlt : i < cs.length := (List.getElem?_eq_some_iff.1 hu).1
  have ho := h.own
  rcases ho.2 with ⟨e1, hn⟩ | ⟨g, cap, cur, e1, h3, _⟩
  · omega
  · cases e1
    refine ⟨g, rfl, ?_, World.ownsRow.frozenAt ho i, h3, h.isIn g rfl⟩
    have := World.ownsRow.cellAt ho i (by omega)
    rw [this, hu]
theorem ownBlock_slice (g n c : Nat) : (Value.slice (some ⟨g, 0, none⟩) n c).ownBlock = some g := rfl
/-- A store into a row. -/
theorem RowIn.put {x : Nat → Prop} {n0 : Nat} {e : TypeId} {g n c : Nat} {cs : List Value} {w : World} (h : RowIn x n0 e (.slice (some ⟨g, 0, none⟩) n c) cs w) (i : Nat) (u : Value) : RowIn x n0 e (.slice (some ⟨g, 0, none⟩) n c) (cs.set i u) (w.setCell ⟨g, i, none⟩ u) := by
  refine ⟨?_, h.isIn⟩
  have hn : n = cs.length := by
    rcases h.own.2 with ⟨e1, _⟩ | ⟨g', cap, cur, e1, _⟩
    · cases e1
    · cases e1; rfl
  have ho := h.own
  rw [← hn] at ho
  have := World.ownsRow.stored ho i u
  rw [List.length_set, ← hn]
  exact this.1
theorem RowIn.other {x : Nat → Prop} {n0 : Nat} {e : TypeId} {v : Value} {cs : List Value} {w : World} (h : RowIn x n0 e v cs w) {g : Nat} (hg : v.ownBlock ≠ some g) (i : Nat) (u : Value) : RowIn x n0 e v cs (w.setCell ⟨g, i, none⟩ u) :=
  h.same fun k hk => Below.heap_setCell w ⟨g, i, none⟩ u k (fun e => hg (by rw [hk]; exact congrArg some e))
/-- Rows of unlike types are not one. -/
theorem rows_apart {x y : Nat → Prop} {n0 n1 : Nat} {e e' : TypeId} {v v' : Value} {cs cs' : List Value} {w : World} (h : RowIn x n0 e v cs w) (h' : RowIn y n1 e' v' cs' w) (he : e ≠ e') {g : Nat} (hg : v'.ownBlock = some g) : v.ownBlock ≠ some g := fun e0 => by
  rcases h.own.2 with ⟨rfl, _⟩ | ⟨a, cap, cur, rfl, _, h4, _⟩
  · cases e0
  · rcases h'.own.2 with ⟨rfl, _⟩ | ⟨b, cap', cur', rfl, _, h4', _⟩
    · cases hg
    · cases e0
      cases hg
      rw [h4] at h4'
      injection h4' with h4'
      injection h4' with _ h4'
      exact he h4'
theorem rowMono {w : World} {n0 n1 : Nat} {e : TypeId} {v : Value} {n : Nat} {cs : List Value} (h : w.ownsRow n1 e 1 v n cs) (hb : n0 ≤ n1) : w.ownsRow n0 e 1 v n cs := by
  refine ⟨h.1, ?_⟩
  rcases h.2 with h2 | ⟨g, cap, cur, rfl, h3, h4⟩
  · exact .inl h2
  · exact .inr ⟨g, cap, cur, rfl, Nat.le_trans hb h3, h4⟩
/-- A row that Read told, or that was made: it is the law's own from then on. -/
theorem HX.take {x : Nat → Prop} {A B : Nat} {L : List Bl} {n0 : Nat} {e : TypeId} {v : Value} {n : Nat} {cs : List Value} {w w' : World} (h : HX x A B L n0 w) (hb : Below w.heap.size w w') (hr : w'.ownsRow w.heap.size e 1 v n cs) (hn : n = cs.length) :
    HX (fun k => x k ∨ v.ownBlock = some k) A B L n0 w' ∧ RowIn (fun k => x k ∨ v.ownBlock = some k) n0 e v cs w' := by
  subst hn
  refine ⟨h.turn (fun k hk _ => hb.block k hk) (hb.mono h.low) fun k hk => ?_, rowMono hr h.low, fun k hk => .inr hk⟩
  rcases hk with hk | hk
  · exact ⟨h.xlow k hk, Nat.lt_of_lt_of_le (h.xlt k hk) hb.size, .inl hk⟩
  · have := hr.lt k hk
    exact ⟨Nat.le_trans h.low this.1, this.2, .inr (.inl this.1)⟩
end Go.Proofs.YtagjjpmhacknpaaDoor
