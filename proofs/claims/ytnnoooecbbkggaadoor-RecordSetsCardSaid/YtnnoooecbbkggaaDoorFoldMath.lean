/- Plain mathematics of folding. -/
import Derived.Test.YtnnoooecbbkggaaDoorOrderMath
namespace Go.Proofs.YtnnoooecbbkggaaDoor
namespace Nm
def foldTo (n : List UInt8) (k : Nat) : List UInt8 := (folded n).take k ++ n.drop k
theorem foldTo_length (n : List UInt8) (k : Nat) : (foldTo n k).length = n.length := by
  simp [foldTo, folded_length]; omega
theorem foldTo_zero (n : List UInt8) : foldTo n 0 = n := by simp [foldTo]
theorem foldTo_end (n : List UInt8) : foldTo n n.length = folded n := by simp [foldTo, ← folded_length n]
theorem foldTo_get {n : List UInt8} {k : Nat} (h : k < n.length) : (foldTo n k)[k]'(by rw [foldTo_length]; exact h) = n[k] := by
  unfold foldTo
  rw [List.getElem_append_right (by rw [List.length_take, folded_length]; omega)]
  simp [folded_length, Nat.min_eq_left (Nat.le_of_lt h)]
theorem foldTo_set {n : List UInt8} {k : Nat} (h : k < n.length) : (foldTo n k).set k (small n[k]) = foldTo n (k + 1) := by
  have hl : ((folded n).take k).length = k := by rw [List.length_take, folded_length]; omega
  have hF : k < (folded n).length := by rw [folded_length]; exact h
  have hg : (folded n)[k] = small n[k] := by simp [folded]
  unfold foldTo
  rw [List.set_append_right k (small n[k]) (by omega), hl, Nat.sub_self, drop_cons h, List.set_cons_zero, List.take_succ_eq_append_getElem hF, hg, List.append_assoc]
  rfl
def fold (n : List UInt8) : List UInt8 := if valid n then folded n else n
end Nm
end Go.Proofs.YtnnoooecbbkggaaDoor
