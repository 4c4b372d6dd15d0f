/- awake: what the document fixes. -/
import Derived.Test.YtiodfiegknkceaaDoorWalk
namespace Go.Proofs.YtiodfiegknkceaaDoor
open Go.RowKit Go.Shelf

theorem readS_below {v : Value} {L : List (List UInt8)} {W W' : World} (h : ReadS v L W) (hb : Below W.heap.size W W') : ReadS v L W' := by
  obtain ⟨ao, cap, rfl, hc⟩ := h.form
  exact ⟨ao, cap, rfl, fun j hj => by
    obtain ⟨b, off, e, c⟩ := hc j hj
    exact ⟨b, off, e, (hb.cell (cell_lt c)).trans c⟩⟩
theorem readS_two (W : World) (x y : List UInt8) (t : TypeId) : ReadS (.slice (some ⟨W.heap.size, 0, none⟩) 2 2) [x, y] (W.alloc (.cells #[.string ⟨x.toArray⟩, .string ⟨y.toArray⟩] t)) := by
  refine ⟨some ⟨W.heap.size, 0, none⟩, 2, rfl, fun j hj => ⟨W.heap.size, 0, rfl, ?_⟩⟩
  have h := cells_new W [.string ⟨x.toArray⟩, .string ⟨y.toArray⟩] t j (encS ([x, y][j]'hj))
  have e : (⟨W.heap.size, 0, none⟩ : Addr).add j = ⟨W.heap.size, 0 + j, none⟩ := by unfold Addr.add; split <;> simp_all
  rw [e] at h
  refine h ?_
  match j, hj with
  | 0, _ => rfl
  | 1, _ => rfl

def nA : List UInt8 := [3, 119, 119, 119, 4, 69, 120, 46, 97, 0]
def jA : List UInt8 := [1, 97, 1, 98, 0]
theorem aw1 : parseRet [119, 119, 119, 46, 69, 120, 92, 46, 97, 46] = .tuple #[.string ⟨#[3, 119, 119, 119, 4, 69, 120, 46, 97, 0]⟩, .int .i64 0] := by kernel_rfl
theorem aw2 : parseRet [119, 119, 119] = .tuple #[.string ⟨#[]⟩, .int .i64 2] := by kernel_rfl
theorem aw3 : joinRet [[97], [98]] = .tuple #[.string ⟨#[1, 97, 1, 98, 0]⟩, .int .i64 0] := by kernel_rfl
theorem aw4 : Nm.text [3, 119, 119, 119, 4, 69, 120, 46, 97, 0] = [119, 119, 119, 46, 69, 120, 92, 46, 97, 46] := by kernel_rfl
theorem aw5 : Nm.valid [0] = true := by kernel_rfl
theorem aw6 : Nm.valid [] = false := by kernel_rfl
theorem aw7 : Nm.fold [3, 119, 119, 119, 4, 69, 120, 46, 97, 0] = [3, 119, 119, 119, 4, 101, 120, 46, 97, 0] := by kernel_rfl
theorem aw8 : Nm.parent [1, 97, 1, 98, 0] = [1, 98, 0] := by kernel_rfl
theorem aw9 : Nm.under [1, 97, 1, 98, 0] [1, 66, 0] = true := by kernel_rfl
theorem aw10 : Nm.under [1, 98, 0] [1, 97, 1, 98, 0] = false := by kernel_rfl
theorem aw11 : Nm.less [1, 98, 0] [1, 97, 1, 98, 0] = true := by kernel_rfl
theorem aw12 : Nm.commonC [1, 97, 1, 98, 0] [1, 99, 1, 98, 0] = [1, 98, 0] := by kernel_rfl
theorem aw13 : Nm.walkL [1, 97, 1, 98, 0] (-1) = [[97], [98]] := by kernel_rfl

set_option maxRecDepth 100000 in
set_option maxHeartbeats 4000000 in
theorem awake_any (w : World) (hv : VarsOk w) :
    Calls Tryd.prog 11 #[] w fun e w' => e = .returned (.bool true) ∧ Below w.heap.size w w' := by
  go_enter Tryd.func11, Tryd.ntmps11
  go_wp2_with fail
  refine (parse_any [119, 119, 119, 46, 69, 120, 92, 46, 97, 46] _ (by simp) hv).mono ?_
  rw [aw1]
  rintro e w1 ⟨rfl, b1⟩
  go_wp2_with fail
  refine (parse_any [119, 119, 119] _ (by simp) (hv.below b1)).mono ?_
  rw [aw2]
  rintro e w2 ⟨rfl, b2⟩
  replace b2 := below_trans b1 b2
  go_wp2_with fail
  refine (join_any [[97], [98]] _ _ (readS_two w2 [97] [98] _) (by simp) (by simp)).mono ?_
  rw [aw3]
  rintro e w3 ⟨rfl, b3⟩
  replace b3 := below_trans (b2.alloc b2.size _) b3
  go_wp2_with fail
  refine (text_any [3, 119, 119, 119, 4, 69, 120, 46, 97, 0] _ (by simp)).mono ?_
  rw [aw4]
  rintro e w4 ⟨rfl, b4⟩
  replace b4 := below_trans b3 b4
  go_wp2_with fail
  refine (valid_any [0] _ (by simp)).mono ?_
  rw [aw5]
  rintro e w5 ⟨rfl, rfl⟩
  go_wp2_with fail
  refine (valid_any [] _ (by simp)).mono ?_
  rw [aw6]
  rintro e w5 ⟨rfl, rfl⟩
  go_wp2_with fail
  refine (fold_any [3, 119, 119, 119, 4, 69, 120, 46, 97, 0] _ (by simp)).mono ?_
  rw [aw7]
  rintro e w5 ⟨rfl, b5⟩
  replace b5 := below_trans b4 b5
  go_wp2_with fail
  refine (parent_any [1, 97, 1, 98, 0] _ (by simp)).mono ?_
  rw [aw8]
  rintro e w6 ⟨rfl, b6⟩
  replace b6 := below_trans b5 b6
  go_wp2_with fail
  refine (under_any [1, 97, 1, 98, 0] [1, 66, 0] _ (by simp) (by simp)).mono ?_
  rw [aw9]
  rintro e w7 ⟨rfl, b7⟩
  replace b7 := below_trans b6 b7
  go_wp2_with fail
  refine (under_any [1, 98, 0] [1, 97, 1, 98, 0] _ (by simp) (by simp)).mono ?_
  rw [aw10]
  rintro e w8 ⟨rfl, b8⟩
  replace b8 := below_trans b7 b8
  go_wp2_with fail
  refine (less_any [1, 98, 0] [1, 97, 1, 98, 0] _ (by simp) (by simp)).mono ?_
  rw [aw11]
  rintro e w9 ⟨rfl, b9⟩
  replace b9 := below_trans b8 b9
  go_wp2_with fail
  refine (common_any [1, 97, 1, 98, 0] [1, 99, 1, 98, 0] _ (by simp) (by simp)).mono ?_
  rw [aw12]
  rintro e w10 ⟨rfl, b10⟩
  replace b10 := below_trans b9 b10
  go_wp2_with fail
  refine (walk_any [1, 97, 1, 98, 0] (-1) _ (by simp)).mono ?_
  rw [aw13]
  rintro e w11 ⟨v, rfl, ho, b11⟩
  replace b11 := below_trans b10 b11
  go_wp2_with fail
  refine (texts_any [[97], [98]] [[97], [98]] _ _ _ (readS_below (ownS_read ho) ((Below.refl _ _).alloc (Nat.le_refl _) _)) (readS_two w11 [97] [98] _) (by simp) (by simp)).mono ?_
  rw [show ([[97], [98]] == ([[97], [98]] : List (List UInt8))) = true from by decide]
  rintro e w12 ⟨rfl, b12⟩
  replace b12 := (b11.alloc b11.size _).trans b12.below
  go_wp2
  go_ret
  exact ⟨rfl, b12⟩
end Go.Proofs.YtiodfiegknkceaaDoor
