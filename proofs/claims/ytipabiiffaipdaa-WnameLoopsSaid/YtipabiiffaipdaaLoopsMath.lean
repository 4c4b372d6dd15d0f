/- Plain mathematics of pointers one behind the other behind a name. -/
import Derived.Test.YtipabiiffaipdaaGetMath
namespace Go.Proofs.Ytipabiiffaipdaa.Wn

def ptrs : List Nat → List UInt8
  | [] => []
  | k :: r => 192 :: UInt8.ofNat k :: ptrs r
def chain (ks : List Nat) : List UInt8 := [1, 97, 0] ++ ptrs ks
theorem ptrs_length : ∀ ks, (ptrs ks).length = 2 * ks.length
  | [] => rfl
  | _ :: r => by simp only [ptrs, List.length_cons, ptrs_length r]; omega
theorem ptrs_append : ∀ a b, ptrs (a ++ b) = ptrs a ++ ptrs b
  | [], _ => rfl
  | x :: r, b => by simp only [ptrs, List.cons_append, ptrs_append r b]
theorem chain_length (ks : List Nat) : (chain ks).length = 3 + 2 * ks.length := by
  unfold chain; rw [List.length_append, ptrs_length]; rfl
theorem chain_append (ks : List Nat) (k : Nat) : chain (ks ++ [k]) = chain ks ++ [192, UInt8.ofNat k] := by
  unfold chain; rw [ptrs_append, List.append_assoc]; rfl
theorem ptrs_at : ∀ (ks : List Nat) (j : Nat) (h : j < ks.length), (ptrs ks)[2 * j]? = some 192 ∧ (ptrs ks)[2 * j + 1]? = some (UInt8.ofNat ks[j])
  | [], j, h => by simp at h
  | k :: r, 0, _ => ⟨rfl, rfl⟩
  | k :: r, j + 1, h => by
    obtain ⟨h1, h2⟩ := ptrs_at r j (by simpa using h)
    refine ⟨?_, ?_⟩
    · rw [show 2 * (j + 1) = 2 * j + 1 + 1 by omega]
      simpa [ptrs] using h1
    · rw [show 2 * (j + 1) + 1 = 2 * j + 1 + 1 + 1 by omega]
      simpa [ptrs] using h2
theorem chain_at {ks : List Nat} {j : Nat} (h : j < ks.length) : (chain ks)[3 + 2 * j]? = some 192 ∧ (chain ks)[3 + 2 * j + 1]? = some (UInt8.ofNat ks[j]) := by
  obtain ⟨h1, h2⟩ := ptrs_at ks j h
  unfold chain
  constructor
  · rw [List.getElem?_append_right (by simp)]
    rw [show 3 + 2 * j - ([1, 97, 0] : List UInt8).length = 2 * j by simp]
    exact h1
  · rw [List.getElem?_append_right (by simp; omega)]
    rw [show 3 + 2 * j + 1 - ([1, 97, 0] : List UInt8).length = 2 * j + 1 by simp; omega]
    exact h2
theorem chain_step {ks : List Nat} {j t nx : Nat} (h : j < ks.length) (ht : ks[j] = t) (h256 : t < 256) (hlt : t < 3 + 2 * j) :
    fin [] nx (getU (chain ks) (3 + 2 * j)) = fin [] (if nx = 0 then 3 + 2 * j + 2 else nx) (getU (chain ks) t) := by
  obtain ⟨h1, h2⟩ := chain_at h
  obtain ⟨hl1, e1⟩ := List.getElem?_eq_some_iff.1 h1
  obtain ⟨hl2, e2⟩ := List.getElem?_eq_some_iff.1 h2
  have he : eol (chain ks) (3 + 2 * j) = some (3 + 2 * j) := eol_end hl1 (by rw [e1]; right; decide)
  have hp : ptr (chain ks) (3 + 2 * j) = some t := by
    rw [ptr_some hl2, e1, e2, ht, UInt8.toNat_ofNat_of_lt' (by simpa using h256)]
    simp
  rw [fin_step he hl1 (by rw [e1]; decide) hp hlt]
  congr 1
  unfold part
  simp
theorem chain_two (ks : List Nat) : getU (chain ks) 2 = some ([0], 3) := by
  have hl : 2 < (chain ks).length := by rw [chain_length]; omega
  have e : (chain ks)[2] = 0 := rfl
  rw [getU_zero (eol_end hl (by rw [e]; left; rfl)) hl e]
  unfold part
  simp
theorem chain_zero (ks : List Nat) : getU (chain ks) 0 = some ([1, 97, 0], 3) := by
  have hl : 2 < (chain ks).length := by rw [chain_length]; omega
  have hl0 : 0 < (chain ks).length := by omega
  have e : (chain ks)[2] = 0 := rfl
  have e0 : (chain ks)[0] = 1 := rfl
  have h2 : eol (chain ks) 2 = some 2 := eol_end hl (by rw [e]; left; rfl)
  have h0 : eol (chain ks) 0 = some 2 := by rw [eol_step hl0 (by rw [e0]; decide) (by rw [e0]; decide), e0]; exact h2
  rw [getU_zero h0 hl e]
  rfl
end Go.Proofs.Ytipabiiffaipdaa.Wn
