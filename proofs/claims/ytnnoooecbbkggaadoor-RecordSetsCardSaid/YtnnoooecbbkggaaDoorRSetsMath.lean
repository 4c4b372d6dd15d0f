/- RecordSets: what its sets of addresses come to. -/
import Derived.Test.YtnnoooecbbkggaaDoorRSame
import Derived.Test.YtnnoooecbbkggaaDoorTargets
namespace Go.Proofs.YtnnoooecbbkggaaDoor.Rd
open Go.Proofs.YtnnoooecbbkggaaDoor.Nm

/-- An address's record of a name. -/
def adr (n : List UInt8) (ttl x : Int) : RR := ⟨n, 1, 1, ttl, four x⟩
theorem four_inj {x y : Int} (hx0 : 0 ≤ x) (hx1 : x < 4294967296) (hy0 : 0 ≤ y) (hy1 : y < 4294967296) (h : four x = four y) : x = y := by
  rw [← number_four hx0 hx1, ← number_four hy0 hy1, h]
theorem foldR_adr (n : List UInt8) (ttl x : Int) : foldR (adr n ttl x) = ⟨fold n, 1, 1, 0, four x⟩ := rfl
theorem sameR_adr (n : List UInt8) (t1 t2 : Int) {x y : Int} (hx0 : 0 ≤ x) (hx1 : x < 4294967296) (hy0 : 0 ≤ y) (hy1 : y < 4294967296) : sameR (adr n t1 x) (adr n t2 y) = (x == y) := by
  unfold sameR
  rw [foldR_adr, foldR_adr, Bool.eq_iff_iff]
  simp only [beq_iff_eq, RR.mk.injEq, true_and]
  exact ⟨four_inj hx0 hx1 hy0 hy1, fun h => by rw [h]⟩
theorem sameR_refl (a : RR) : sameR a a = true := by unfold sameR; simp
theorem sameR_symm (a b : RR) : sameR a b = sameR b a := by
  unfold sameR; rw [Bool.eq_iff_iff]; simp only [beq_iff_eq]; exact eq_comm
theorem sameSet_symm (a b : List RR) : sameSet a b = sameSet b a := by unfold sameSet; rw [Bool.and_comm]
/-- The same records, however they stand and how often: the same set. -/
theorem sameSet_of_mem {a b : List RR} (h1 : ∀ x ∈ a, x ∈ b) (h2 : ∀ x ∈ b, x ∈ a) : sameSet a b = true := by
  unfold sameSet
  rw [Bool.and_eq_true, List.all_eq_true, List.all_eq_true]
  exact ⟨fun x hx => List.any_eq_true.2 ⟨x, h1 x hx, sameR_refl x⟩, fun x hx => List.any_eq_true.2 ⟨x, h2 x hx, sameR_refl x⟩⟩
def turned (a : List RR) (t : Nat) : List RR := ([] ++ a.drop t) ++ a.take t ++ a
theorem mem_turned {a : List RR} {t : Nat} (x : RR) : x ∈ turned a t ↔ x ∈ a := by
  unfold turned
  simp only [List.nil_append, List.mem_append]
  exact ⟨fun h => h.elim (fun h => h.elim List.mem_of_mem_drop List.mem_of_mem_take) id, .inr⟩
theorem same_turned (a : List RR) (t : Nat) : sameSet a (turned a t) = true := sameSet_of_mem (fun x hx => (mem_turned x).2 hx) (fun x hx => (mem_turned x).1 hx)
/-- One more. -/
theorem same_more {a b : List RR} {r : RR} (h1 : ∀ x ∈ a, x ∈ b) (h2 : ∀ x ∈ b, x ∈ a) : sameSet a ([] ++ b ++ [r]) = a.any (fun y => sameR y r) := by
  unfold sameSet
  rw [Bool.eq_iff_iff, Bool.and_eq_true, List.all_eq_true, List.all_eq_true]
  constructor
  · rintro ⟨_, h⟩
    exact h r (by simp)
  · intro h
    refine ⟨fun x hx => List.any_eq_true.2 ⟨x, by simp [h1 x hx], sameR_refl x⟩, fun x hx => ?_⟩
    simp only [List.nil_append, List.mem_append, List.mem_singleton] at hx
    rcases hx with hx | rfl
    · exact List.any_eq_true.2 ⟨x, h2 x hx, sameR_refl x⟩
    · exact h
theorem any_adr {n : List UInt8} {k : Int} (hk : 0 ≤ k ∧ k < 50) : ∀ (xs : List Int), (∀ x ∈ xs, 0 ≤ x ∧ x < 50) → (xs.map (adr n 60)).any (fun y => sameR y (adr n 5 k)) = xs.any (fun x => x == k)
  | [], _ => rfl
  | x :: xs, h => by
    have hx := h x (List.mem_cons_self ..)
    rw [List.map_cons, List.any_cons, List.any_cons, sameR_adr n 60 5 hx.1 (by omega) hk.1 (by omega), any_adr hk xs (fun y hy => h y (List.mem_cons_of_mem _ hy))]
end Go.Proofs.YtnnoooecbbkggaaDoor.Rd
