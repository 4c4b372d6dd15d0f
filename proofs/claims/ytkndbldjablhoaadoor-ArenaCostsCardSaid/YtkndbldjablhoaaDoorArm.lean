/- An arena in numbers alone: heads in bytes, lists of free pieces, handles. -/
import Derived.Test.YtkndbldjablhoaaDoorAcost
namespace Go.Proofs.YtkndbldjablhoaaDoor
namespace Ar
structure Head where
  free : Bool
  owner : Nat
  size : Nat
  ahead : Nat
def Head.fits (p : Head) : Prop := p.owner < 2097152 ∧ p.size < 2097152 ∧ p.ahead < 2097152
def Head.word (p : Head) : Nat := (if p.free then 9223372036854775808 else 0) + p.owner * 4398046511104 + p.size * 2097152 + p.ahead
def headOf (x : Nat) : Head := ⟨decide (x / 9223372036854775808 % 2 = 1), x / 4398046511104 % 2097152, x / 2097152 % 2097152, x % 2097152⟩
theorem headOf_word {p : Head} (h : p.fits) : headOf p.word = p := by
  obtain ⟨f, o, s, a⟩ := p
  obtain ⟨h1, h2, h3⟩ := h
  simp only at h1 h2 h3
  unfold headOf Head.word
  cases f <;> simp only [Head.mk.injEq, Bool.false_eq_true, if_false, if_true, decide_eq_true_eq, decide_eq_false_iff_not] <;> refine ⟨by omega, by omega, by omega, by omega⟩
theorem word_lt {p : Head} (h : p.fits) : p.word < 18446744073709551616 := by
  obtain ⟨h1, h2, h3⟩ := h
  unfold Head.word
  split <;> omega
/-- Bytes, the highest first. -/
def wordOf : List UInt8 → Nat := List.foldl (fun a b => a * 256 + b.toNat) 0
theorem wordOf_snoc (l : List UInt8) (b : UInt8) : wordOf (l ++ [b]) = wordOf l * 256 + b.toNat := by simp [wordOf]
theorem foldl_lt : ∀ (l : List UInt8) (a : Nat), l.foldl (fun a b => a * 256 + b.toNat) a < (a + 1) * 256 ^ l.length
  | [], a => by simp
  | b :: l, a => by
    have ih := foldl_lt l (a * 256 + b.toNat)
    have hb := UInt8.toNat_lt b
    have : (a * 256 + b.toNat + 1) * 256 ^ l.length ≤ ((a + 1) * 256) * 256 ^ l.length := Nat.mul_le_mul_right _ (by omega)
    rw [List.foldl_cons, List.length_cons, Nat.pow_succ]
    rw [show (a + 1) * (256 ^ l.length * 256) = ((a + 1) * 256) * 256 ^ l.length by rw [Nat.mul_comm (256 ^ l.length), Nat.mul_assoc]]
    omega
theorem wordOf_lt (l : List UInt8) : wordOf l < 256 ^ l.length := by have := foldl_lt l 0; simpa [wordOf] using this
end Ar
end Go.Proofs.YtkndbldjablhoaaDoor
