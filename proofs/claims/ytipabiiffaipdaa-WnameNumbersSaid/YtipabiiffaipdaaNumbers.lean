/- WnameNumbers: its walk. -/
import Derived.Test.YtipabiiffaipdaaAwake
import Derived.Test.YtipabiiffaipdaaSet
import Derived.Test.YtipabiiffaipdaaFrame
import Derived.Deep.CutRange
namespace Go.Proofs.Ytipabiiffaipdaa
open Go.RowKit Go.Shelf Go.Maps
attribute [local go_sem] Oper.semAt_some

theorem readB_turn {k n cap : Nat} {l : List UInt8} {f : Nat → Prop} {W W' : World} (h : ReadB (.slice (some ⟨k, 0, none⟩) n cap) l W) (ht : Turn f W W') (hf : ¬ f k) : ReadB (.slice (some ⟨k, 0, none⟩) n cap) l W' := by
  obtain ⟨ao, cap', e0, hc⟩ := h.form
  refine ⟨ao, cap', e0, fun j hj => ?_⟩
  obtain ⟨b, off, e, c⟩ := hc j hj
  subst e
  obtain ⟨rfl, rfl⟩ : k = b ∧ 0 = off := by injection e0 with e1; injection e1 with e1; injection e1 with e1 e2 _; exact ⟨e1, e2⟩
  exact ⟨_, _, rfl, ht.cell c hf⟩
theorem readB_set {k n cap : Nat} {l : List UInt8} {W : World} (h : ReadB (.slice (some ⟨k, 0, none⟩) n cap) l W) {j : Nat} (hj : j < l.length) (c : UInt8) : ReadB (.slice (some ⟨k, 0, none⟩) n cap) (l.set j c) (W.setCell ⟨k, j, none⟩ (encB c)) := by
  obtain ⟨ao, cap', e0, hc⟩ := h.form
  refine ⟨ao, cap', by rw [List.length_set]; exact e0, fun i hi => ?_⟩
  rw [List.length_set] at hi
  obtain ⟨b, off, e, c1⟩ := hc i hi
  subst e
  obtain ⟨rfl, rfl⟩ : k = b ∧ 0 = off := by injection e0 with e1; injection e1 with e1; injection e1 with e1 e2 _; exact ⟨e1, e2⟩
  refine ⟨k, 0, rfl, ?_⟩
  by_cases e : i = j
  · subst e
    rw [Nat.zero_add] at c1 ⊢
    rw [World.cell?_setCell_same' _ _ _ (by rw [c1]; rfl)]
    simp
  · rw [World.cell?_setCell_other _ _ _ _ (by intro e'; cases e'; exact e (by omega)), c1, List.getElem_set_ne (Ne.symm e)]

def numL (a b : Int) : List UInt8 := two a ++ four b ++ [120, 121]
theorem numL_len (a b : Int) : (numL a b).length = 8 := rfl
theorem num_state (a b : Int) : (((WS.new 100).put (two a)).put (four b)).put [120, 121] = { most := 100, size := 8, out := numL a b, bad := false, tab := [] } := by
  rw [WS.put_put, WS.put_put]
  show WS.put (WS.new 100) (two a ++ (four b ++ [120, 121])) = _
  unfold WS.put WS.new
  have h1 : (two a ++ (four b ++ [120, 121])).length = 8 := rfl
  simp only [h1]
  rw [if_neg (by omega)]
  simp [numL]
theorem num_cells (a b : Int) : (#[.int .u8 (a / 256 % 256), .int .u8 (a % 256), .int .u8 (b / 16777216 % 256), .int .u8 (b / 65536 % 256), .int .u8 (b / 256 % 256), .int .u8 (b % 256), .int .u8 120, .int .u8 121] : Array Value) = ((numL a b).map encB).toArray := by
  simp only [numL, four, two, List.cons_append, List.nil_append, List.map_cons, List.map_nil, encB, byteOf_int]
  rw [show b / 65536 / 256 = b / 16777216 by omega]
  rfl

set_option maxRecDepth 100000 in
set_option maxHeartbeats 8000000 in
theorem numbers_any (a b z n : Int) (w : World) (hz1 : -9223372036854775808 ≤ z) (hz2 : z ≤ 9223372036854775807) :
    Calls Try.prog 8 #[.int .i64 a, .int .i64 b, .int .i64 z, .int .i64 n] w fun e w' => e = .returned (.bool true) ∧ Below w.heap.size w w' := by
  obtain ⟨S3, hS3⟩ : ∃ S3, S3 = (((WS.new 100).put (two a)).put (four b)).put [120, 121] := ⟨_, rfl⟩
  obtain ⟨L, hL⟩ : ∃ L, L = numL a b := ⟨_, rfl⟩
  have hL8 : L.length = 8 := by rw [hL]; rfl
  have HS3 := Lib.hid hS3
  have HL := Lib.hid hL
  have HST : Hid (S3 = { most := 100, size := 8, out := L, bad := false, tab := [] }) := Lib.hid (by rw [hS3, hL]; exact num_state a b)
  have HCL := Lib.hid (num_cells a b)
  clear hS3 hL
  have hL8' := Lib.hid hL8
  clear hL8
  have hcase : z < 0 ∨ (0 ≤ z ∧ 6 < z) ∨ (0 ≤ z ∧ z ≤ 6) := by omega
  go_enter Try.func8, Try.ntmps8
  go_wp2_with fail
  refine (new_any 100 _).mono ?_
  rintro e w1 ⟨rfl, b1, hw1, hz1'⟩
  go_wp2_with fail
  refine (two_any _ _ _ a _ hw1 (by simp [WS.new])).mono ?_
  rintro e w2 ⟨rfl, t2, hw2⟩
  go_wp2_with fail
  refine (four_any _ _ _ b _ hw2 (by simp [WS.new, WS.put, two_len])).mono ?_
  rintro e w3 ⟨rfl, t3, hw3⟩
  go_wp2_with fail
  refine (bytes_any _ _ _ [120, 121] _ _ (hw3.below ((Below.refl _ _).alloc (Nat.le_refl _) _)) (readB_lit w3 [120, 121] [_, _] _ 2 rfl rfl) (by simp [WS.new, WS.put, two, four])).mono ?_
  rintro e w4 ⟨rfl, t4, hw4⟩
  have s2 := t2.size
  have s3 := t3.size
  have s4 := t4.size
  simp only [World.size_alloc] at s4
  have t14 : Turn (fun k => k = w.heap.size) w1 w4 := (t2.trans t3).trans (((Turn.of_below ((Below.refl _ w3).alloc (Nat.le_refl _) _)).then t4).mono fun k _ h => grow_trans s2 s3 k h)
  have b4 : Below w.heap.size w w4 := b1.trans (t14.below (fun k hk => by omega) (by omega))
  rw [← HS3.out] at hw4
  have hw4' : WrE w.heap.size S3 (fun k => w.heap.size ≤ k ∧ k < w4.heap.size) w4 := hw4.widen fun k hk h => by
    refine ⟨?_, hk⟩
    rcases h with ((h | h) | h) | h
    · have : k = w.heap.size := h
      omega
    · omega
    · omega
    · have := h.1
      simp at this
      omega
  have HW4 := Lib.hid hw4'
  have hsz4 : w.heap.size + 1 ≤ w4.heap.size := by omega
  clear t2 t3 t4 t14 hw1 hw2 hw3 hw4 hw4' s2 s3 s4 b1 hz1'
  have hblk : (w4.alloc (.cells #[.int .u8 (a / 256 % 256), .int .u8 (a % 256), .int .u8 (b / 16777216 % 256), .int .u8 (b / 65536 % 256), .int .u8 (b / 256 % 256), .int .u8 (b % 256), .int .u8 120, .int .u8 121] 5)).heap[w4.heap.size]? = some (.cells #[.int .u8 (a / 256 % 256), .int .u8 (a % 256), .int .u8 (b / 16777216 % 256), .int .u8 (b / 65536 % 256), .int .u8 (b / 256 % 256), .int .u8 (b % 256), .int .u8 120, .int .u8 121] 5 (0, 0)) := World.alloc_heap_new w4 _
  have hread : ReadB (.slice (some ⟨w4.heap.size, 0, none⟩) 8 8) L (w4.alloc (.cells #[.int .u8 (a / 256 % 256), .int .u8 (a % 256), .int .u8 (b / 16777216 % 256), .int .u8 (b / 65536 % 256), .int .u8 (b / 256 % 256), .int .u8 (b % 256), .int .u8 120, .int .u8 121] 5)) := by
    rw [num_cells a b]
    exact readB_lit w4 L _ _ 8 hL8'.out (by rw [HL.out])
  have hcellk : ∀ k, (hk : k < 8) → (w4.alloc (.cells #[.int .u8 (a / 256 % 256), .int .u8 (a % 256), .int .u8 (b / 16777216 % 256), .int .u8 (b / 65536 % 256), .int .u8 (b / 256 % 256), .int .u8 (b % 256), .int .u8 120, .int .u8 121] 5)).cell? ⟨w4.heap.size, k, none⟩ = some (encB (L[k]'(by rw [hL8'.out]; exact hk))) := fun k hk => blk_cell hblk k (by rw [num_cells a b]; simp [← HL.out, hL8'.out, hk])
  have hfz := fun k => blk_frozen hblk k
  have HREAD := Lib.hid hread
  have HCELL := Lib.hid hcellk
  have HFZ := Lib.hid hfz
  have hw5 : WrE w.heap.size S3 (fun k => w.heap.size ≤ k ∧ k < w4.heap.size) (w4.alloc (.cells #[.int .u8 (a / 256 % 256), .int .u8 (a % 256), .int .u8 (b / 16777216 % 256), .int .u8 (b / 65536 % 256), .int .u8 (b / 256 % 256), .int .u8 (b % 256), .int .u8 120, .int .u8 121] 5)) := HW4.out.below ((Below.refl _ _).alloc (Nat.le_refl _) _)
  have HW5A := Lib.hid hw5
  clear hblk hread hcellk hfz hw5
  rcases hcase with h1 | ⟨h1, h2⟩ | ⟨h1, h2⟩
  · have HSET : Hid (S3.set z n = { most := 100, size := 8, out := L, bad := false, tab := [] }) := Lib.hid (by unfold WS.set; rw [if_pos (.inl h1), HST.out])
    go_wp2_with fail
    have b5 : Below w.heap.size w (w4.alloc (.cells #[.int .u8 (a / 256 % 256), .int .u8 (a % 256), .int .u8 (b / 16777216 % 256), .int .u8 (b / 65536 % 256), .int .u8 (b / 256 % 256), .int .u8 (b % 256), .int .u8 120, .int .u8 121] 5)) := b4.alloc (by omega) _
    have HRW := HREAD
    have HW5 := HW5A
    refine (set_any _ S3 _ z n _ HW5.out (by rw [HST.out]; simp) hz1 hz2).mono ?_
    rintro e w6 ⟨rfl, t6, hw6⟩
    have hr6 := readB_turn HRW.out t6 (by intro h; have := h.2; omega)
    have b6 := b5.trans (t6.below (fun k hk => hk.1) (by have := b5.size; omega))
    rw [HSET.out] at hw6
    have HW6 := Lib.hid hw6
    have HR6 := Lib.hid hr6
    clear hr6 hw6 t6 b5
    go_wp2_with fail
    refine (out_any _ _ _ _ HW6.out (by simp)).mono ?_
    rintro e w7 ⟨b7, _, hout⟩
    obtain ⟨v, rfl, ho⟩ := hout (by simp)
    have hrd := ownB_read ho
    obtain ⟨ao, n7, cp, rfl⟩ := own_shape ho
    have hc1 := run_read_str hrd.1
    have hc2 := run_read_str (readB_below HR6.out b7)
    have HW7 := Lib.hid (HW6.out.below b7)
    have b7' := below_trans b6 b7
    clear hrd ho hout b7 b6
    go_wp2_with (first
      | (go_at_call 23; refine (len_any w.heap.size _ _ _ HW7.out).mono ?_; rintro e w' ⟨rfl, rfl⟩)
      | (go_at_call 9; refine (awake_any _).mono ?_; rintro e w8 ⟨rfl, b8⟩))
    go_ret
    exact ⟨rfl, below_trans b7' b8⟩
  · have HSET : Hid (S3.set z n = { most := 100, size := 8, out := L, bad := false, tab := [] }) := Lib.hid (by unfold WS.set; rw [if_pos (.inr (by rw [HST.out]; have := hL8'.out; show (L.length : Int) < _; omega)), HST.out])
    go_wp2_with fail
    have b5 : Below w.heap.size w (w4.alloc (.cells #[.int .u8 (a / 256 % 256), .int .u8 (a % 256), .int .u8 (b / 16777216 % 256), .int .u8 (b / 65536 % 256), .int .u8 (b / 256 % 256), .int .u8 (b % 256), .int .u8 120, .int .u8 121] 5)) := b4.alloc (by omega) _
    have HRW := HREAD
    have HW5 := HW5A
    refine (set_any _ S3 _ z n _ HW5.out (by rw [HST.out]; simp) hz1 hz2).mono ?_
    rintro e w6 ⟨rfl, t6, hw6⟩
    have hr6 := readB_turn HRW.out t6 (by intro h; have := h.2; omega)
    have b6 := b5.trans (t6.below (fun k hk => hk.1) (by have := b5.size; omega))
    rw [HSET.out] at hw6
    have HW6 := Lib.hid hw6
    have HR6 := Lib.hid hr6
    clear hr6 hw6 t6 b5
    go_wp2_with fail
    refine (out_any _ _ _ _ HW6.out (by simp)).mono ?_
    rintro e w7 ⟨b7, _, hout⟩
    obtain ⟨v, rfl, ho⟩ := hout (by simp)
    have hrd := ownB_read ho
    obtain ⟨ao, n7, cp, rfl⟩ := own_shape ho
    have hc1 := run_read_str hrd.1
    have hc2 := run_read_str (readB_below HR6.out b7)
    have HW7 := Lib.hid (HW6.out.below b7)
    have b7' := below_trans b6 b7
    clear hrd ho hout b7 b6
    go_wp2_with (first
      | (go_at_call 23; refine (len_any w.heap.size _ _ _ HW7.out).mono ?_; rintro e w' ⟨rfl, rfl⟩)
      | (go_at_call 9; refine (awake_any _).mono ?_; rintro e w8 ⟨rfl, b8⟩))
    go_ret
    exact ⟨rfl, below_trans b7' b8⟩
  · obtain ⟨k, rfl⟩ := Int.eq_ofNat_of_zero_le h1
    have hk6 : k ≤ 6 := by omega
    have HSET : Hid (S3.set (k : Int) n = { most := 100, size := 8, out := (L.set k (byteOf (n / 256))).set (k + 1) (byteOf n), bad := false, tab := [] }) := Lib.hid (by
      unfold WS.set
      rw [if_neg (by rw [HST.out]; have := hL8'.out; show ¬ ((k : Int) < 0 ∨ (L.length : Int) < _); omega), HST.out]
      rfl)
    obtain ⟨x1, d1⟩ : ∃ x, (w4.alloc (.cells #[.int .u8 (a / 256 % 256), .int .u8 (a % 256), .int .u8 (b / 16777216 % 256), .int .u8 (b / 65536 % 256), .int .u8 (b / 256 % 256), .int .u8 (b % 256), .int .u8 120, .int .u8 121] 5)).cell? ⟨w4.heap.size, k, none⟩ = some x := ⟨_, HCELL.out k (by omega)⟩
    obtain ⟨x2, d2⟩ : ∃ x, (w4.alloc (.cells #[.int .u8 (a / 256 % 256), .int .u8 (a % 256), .int .u8 (b / 16777216 % 256), .int .u8 (b / 65536 % 256), .int .u8 (b / 256 % 256), .int .u8 (b % 256), .int .u8 120, .int .u8 121] 5)).cell? ⟨w4.heap.size, k + 1, none⟩ = some x := ⟨_, HCELL.out (k + 1) (by omega)⟩
    have f1 := HFZ.out k
    have f2 := HFZ.out (k + 1)
    have hk0 : (0 : Int) ≤ (k : Int) := by omega
    have hk1 : (k : Int) < 8 := by omega
    have hk2 : (k : Int) + 1 < 8 := by omega
    have e1 : Value.int .u8 (n / 256 % 256) = encB (byteOf (n / 256)) := by unfold encB; rw [byteOf_int]
    have e2 : Value.int .u8 (n % 256) = encB (byteOf n) := by unfold encB; rw [byteOf_int]
    have E1 := Lib.hid e1
    have E2 := Lib.hid e2
    clear e1 e2
    go_upto_region 8 with (fail)
    have b5a : Below w.heap.size w (w4.alloc (.cells #[.int .u8 (a / 256 % 256), .int .u8 (a % 256), .int .u8 (b / 16777216 % 256), .int .u8 (b / 65536 % 256), .int .u8 (b / 256 % 256), .int .u8 (b % 256), .int .u8 120, .int .u8 121] 5)) := b4.alloc (by omega) _
    generalize w4.alloc (.cells #[.int .u8 (a / 256 % 256), .int .u8 (a % 256), .int .u8 (b / 16777216 % 256), .int .u8 (b / 65536 % 256), .int .u8 (b / 256 % 256), .int .u8 (b % 256), .int .u8 120, .int .u8 121] 5) = W5 at *
    go_wp2_with fail
    have b5 : Below w.heap.size w ((W5.setCell ⟨w4.heap.size, k, none⟩ (encB (byteOf (n / 256)))).setCell ⟨w4.heap.size, k + 1, none⟩ (encB (byteOf n))) := (b5a.setCell (p := ⟨w4.heap.size, k, none⟩) (by show w.heap.size ≤ w4.heap.size; omega) _).setCell (p := ⟨w4.heap.size, k + 1, none⟩) (by show w.heap.size ≤ w4.heap.size; omega) _
    have hrw := readB_set (readB_set HREAD.out (j := k) (by rw [hL8'.out]; omega) (byteOf (n / 256))) (j := k + 1) (by rw [List.length_set, hL8'.out]; omega) (byteOf n)
    have HRW := Lib.hid hrw
    have HW5 : Hid (WrE w.heap.size S3 (fun k => w.heap.size ≤ k ∧ k < w4.heap.size) ((W5.setCell ⟨w4.heap.size, k, none⟩ (encB (byteOf (n / 256)))).setCell ⟨w4.heap.size, k + 1, none⟩ (encB (byteOf n)))) := Lib.hid (HW5A.out.kept fun i _ hi => (Below.heap_setCell _ ⟨w4.heap.size, k + 1, none⟩ _ i (by show i ≠ w4.heap.size; omega)).trans (Below.heap_setCell _ ⟨w4.heap.size, k, none⟩ _ i (by show i ≠ w4.heap.size; omega)))
    rw [← E1.out, ← E2.out] at b5 HRW HW5
    clear hrw
    refine (set_any _ S3 _ (k : Int) n _ HW5.out (by rw [HST.out]; simp) hz1 hz2).mono ?_
    rintro e w6 ⟨rfl, t6, hw6⟩
    have hr6 := readB_turn HRW.out t6 (by intro h; have := h.2; omega)
    have b6 := b5.trans (t6.below (fun k hk => hk.1) (by have := b5.size; omega))
    rw [HSET.out] at hw6
    have HW6 := Lib.hid hw6
    have HR6 := Lib.hid hr6
    clear hr6 hw6 t6 b5
    go_wp2_with fail
    refine (out_any _ _ _ _ HW6.out (by simp)).mono ?_
    rintro e w7 ⟨b7, _, hout⟩
    obtain ⟨v, rfl, ho⟩ := hout (by simp)
    have hrd := ownB_read ho
    obtain ⟨ao, n7, cp, rfl⟩ := own_shape ho
    have hc1 := run_read_str hrd.1
    have hc2 := run_read_str (readB_below HR6.out b7)
    have HW7 := Lib.hid (HW6.out.below b7)
    have b7' := below_trans b6 b7
    clear hrd ho hout b7 b6
    go_wp2_with (first
      | (go_at_call 23; refine (len_any w.heap.size _ _ _ HW7.out).mono ?_; rintro e w' ⟨rfl, rfl⟩)
      | (go_at_call 9; refine (awake_any _).mono ?_; rintro e w8 ⟨rfl, b8⟩))
    go_ret
    exact ⟨rfl, below_trans b7' b8⟩
end Go.Proofs.Ytipabiiffaipdaa
