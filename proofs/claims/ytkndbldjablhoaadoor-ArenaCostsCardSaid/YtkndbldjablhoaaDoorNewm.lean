/- What holds of a new arena. -/
import Derived.Test.YtkndbldjablhoaaDoorAnew
import Derived.Test.YtkndbldjablhoaaDoorSlidei
set_option maxRecDepth 100000
namespace Go.Proofs.YtkndbldjablhoaaDoor
namespace Ar
theorem placeOf_new (B k : Nat) (z : Int) : PlaceOf (newSt B k) z = none := by
  cases h : PlaceOf (newSt B k) z with
  | none => rfl
  | some v =>
    obtain ⟨i, e, hk, hb, _⟩ := placeOf_some h
    exfalso
    rw [bitOn_test', Nat.add_sub_cancel] at hb
    have : (newSt B k).us.getD (i / 64) 0 = 0 := by unfold newSt; simp [List.getD_eq_getElem?_getD, List.getElem?_replicate]; split <;> rfl
    rw [this] at hb
    simp at hb
theorem new_inv (B : Nat) (h1 : 1024 ≤ B) (h2 : B ≤ 1048576) : ∃ pcs, Inv (new B) pcs ∧ blocks pcs = [] ∧ (new B).mem.length = B := by
  obtain ⟨k, hk⟩ : ∃ k, k = (B / 16 + 63) / 64 := ⟨_, rfl⟩
  have hlen : (newSt B k).mem.length = B := by simp [newSt]
  have hfr : Frees (fun _ => none) [] (List.replicate (B / 16 * 16) (0 : UInt8)).length [] := fun i c v => by
    constructor
    · intro h; cases h
    · rintro ⟨p, h1, _⟩; cases at_of_atG h1
  have g : Gap (newSt B k) [] (List.replicate (B / 16 * 16) 0) 0 [] (List.replicate (B % 16) 0) (fun _ => none) [] :=
    ⟨by simp only [lay, List.nil_append, List.append_nil]; rw [List.replicate_append_replicate, show B / 16 * 16 + B % 16 = B by omega]; rfl, by simp; omega, by rw [hlen]; exact h2, (fun p hp => by cases hp), (fun p hp => by cases hp), by omega, Ch.ring0, hfr, by show ring0.length < _; unfold ring0; rw [ring_len]; omega⟩
  have htab : Tab (newSt B k) := ⟨by simp [newSt]; omega, by simp [newSt]; omega, fun x hx => by have := List.eq_of_mem_replicate hx; omega, fun x hx => by have := List.eq_of_mem_replicate hx; omega, Nat.zero_le _, fun j hj => by cases hj⟩
  obtain ⟨i, _, hinv, hb⟩ := g.inv (by simp; omega) (by simp) (by show ring0.length ≤ _; unfold ring0; rw [ring_len]; omega) htab (by rw [hlen]; simp [newSt]; omega) (fun h v => by
    rw [placeOf_new]
    constructor
    · intro h; cases h
    · rintro ⟨p, h1, _⟩; cases at_of_atG h1) rfl
  simp only [total, lastT, List.length_replicate] at hinv
  have hput := (g.fill (by simp; omega) (by simp)).1
  simp only [total, lastT, List.length_replicate] at hput
  unfold new
  rw [← hk]
  exact ⟨_, hinv, hb, by rw [putFree_len _ _ _ _ hput.1 hput.2.1 hput.2.2.1]; exact hlen⟩
end Ar
end Go.Proofs.YtkndbldjablhoaaDoor
