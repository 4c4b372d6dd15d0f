/- awake of freshetlaw2: what the document fixes. -/
import Derived.Test.YtipabiiffaipdaaName
import Derived.Test.YtipabiiffaipdaaGet
namespace Go.Proofs.Ytipabiiffaipdaa
open Go.RowKit Go.Shelf Go.Maps

def awS1 : WS := (WS.new 100).name [3, 119, 119, 119, 1, 97, 0] true
def awS2 : WS := awS1.name [1, 97, 0] true
theorem awO : awS2.out = [3, 119, 119, 119, 1, 97, 0, 192, 4] := by decide +kernel
theorem awN : awS2.size = 9 := by decide +kernel
theorem awB : ¬ (awS2.bad = true ∨ awS2.most < (awS2.size : Int)) := by decide +kernel
theorem awZ1 : awS1.size ≤ 800000 ∧ awS1.tab.length ≤ 800000 := by decide +kernel
theorem awG1 : getRet (Wn.get [3, 119, 119, 119, 1, 97, 0, 192, 4] 7) = .tuple #[.string ⟨#[1, 97, 0]⟩, .int .i64 9, .int .i64 0] := by kernel_rfl
theorem awG2 : getRet (Wn.get [192, 0] 0) = .tuple #[.string ⟨#[]⟩, .int .i64 0, .int .i64 2] := by kernel_rfl
theorem tabOk_new (most : Int) : TabOk (WS.new most) := fun k v h => by cases h

set_option maxRecDepth 100000 in
set_option maxHeartbeats 4000000 in
theorem awake_any (w : World) :
    Calls Try.prog 9 #[] w fun e w' => e = .returned (.bool true) ∧ Below w.heap.size w w' := by
  go_enter Try.func9, Try.ntmps9
  go_wp2_with fail
  refine (new_any 100 _).mono ?_
  rintro e w1 ⟨rfl, b1, hw1, hz1⟩
  go_wp2_with fail
  refine (name_any _ _ _ [3, 119, 119, 119, 1, 97, 0] true _ hw1 (by simp) (by simp [WS.new]) (by simp [WS.new]) (tabOk_new _)).mono ?_
  rintro e w2 ⟨rfl, t2, hw2⟩
  have b2 : Below w.heap.size w w2 := b1.trans (t2.below (fun k hk => by omega) (by omega))
  go_wp2_with fail
  refine (name_any _ _ _ [1, 97, 0] true _ hw2 (by simp) awZ1.1 awZ1.2 (tabOk_name (tabOk_new _) _ _)).mono ?_
  rintro e w3 ⟨rfl, t3, hw3⟩
  have g2 : ∀ k, grow (fun k => k = w.heap.size) w1 w2 k → w.heap.size ≤ k := fun k hk => hk.elim (fun e => by omega) (fun e => by have := e.1; omega)
  have b3 : Below w.heap.size w w3 := b2.trans (t3.below g2 (by have := b2.size; omega))
  have hw3' : WrE w.heap.size awS2 (grow (grow (fun k => k = w.heap.size) w1 w2) w2 w3) w3 := hw3
  have HW3 := Lib.hid hw3'
  clear hw1 hw2 hw3 hw3' t2 t3 g2 b1 b2 hz1
  go_wp2_with fail
  refine (out_any _ _ _ _ HW3.out (by rw [awN]; omega)).mono ?_
  rintro e w4 ⟨b4, _, hout⟩
  obtain ⟨v, rfl, ho⟩ := hout awB
  rw [awO] at ho
  have hrd := ownB_read ho
  obtain ⟨ao, n, cp, rfl⟩ := own_shape ho
  have b4' := below_trans b3 b4
  have HW4 := Lib.hid (HW3.out.below b4)
  obtain rfl : n = 9 := by obtain ⟨_, _, e, _⟩ := hrd.1.form; injection e
  have HR := Lib.hid hrd
  clear hout hrd ho b3 b4
  go_wp2_with fail
  refine (get_any [3, 119, 119, 119, 1, 97, 0, 192, 4] (.slice ao 9 cp) 7 _ HR.out.1 HR.out.2 (by simp) (by omega) (by omega)).mono ?_
  rw [awG1]
  rintro e w5 ⟨rfl, b5⟩
  go_wp2_with fail
  refine (get_any [192, 0] (.slice (some ⟨w5.heap.size, 0, none⟩) 2 2) 0 _ (readB_lit w5 [192, 0] [_, _] _ 2 rfl rfl) (fun ao n c e => by cases e; omega) (by simp) (by omega) (by omega)).mono ?_
  rw [awG2]
  rintro e w6 ⟨rfl, b6⟩
  have b46 := below_trans b5 (((Below.refl _ w5).alloc (Nat.le_refl _) (.cells [Value.int .u8 ((192 : UInt8).toNat : Int), .int .u8 ((0 : UInt8).toNat : Int)].toArray 5)).trans (b6.mono (by simp)))
  clear b5 b6
  go_wp2_with fail
  refine (two_nil 5 _).mono ?_
  rintro e w7 ⟨rfl, b7⟩
  have b47 := below_trans b46 b7
  clear b7 b46
  go_wp2_with fail
  refine (out_nil _).mono ?_
  rintro e w8 ⟨rfl, b8⟩
  have b48 := below_trans b47 b8
  clear b8 b47
  have hst := run_read_str (readB_below HR.out.1 b48)
  have HW8 := Lib.hid (HW4.out.below b48)
  go_wp2_with (first
    | (go_at_call 23; refine (len_any w.heap.size awS2 _ _ HW8.out).mono ?_; rw [awN]; rintro e w' ⟨rfl, rfl⟩)
    | (go_at_call 23; refine (len_nil _).mono ?_; rintro e w' ⟨rfl, rfl⟩))
  go_ret
  exact ⟨rfl, below_trans b4' b48⟩
end Go.Proofs.Ytipabiiffaipdaa
