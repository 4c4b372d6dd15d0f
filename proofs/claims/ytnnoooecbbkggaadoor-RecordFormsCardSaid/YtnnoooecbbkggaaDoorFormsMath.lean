/- RecordForms: what the eight forms are, and that a byte more or less is none of them. -/
import Derived.Test.YtnnoooecbbkggaaDoorFormMath
namespace Go.Proofs.YtnnoooecbbkggaaDoor.Rd
open Go.Proofs.YtnnoooecbbkggaaDoor.Nm

def fT : Nat → Int
  | 0 => 1 | 1 => 28 | 2 => 2 | 3 => 5 | 4 => 12 | 5 => 15 | 6 => 33 | _ => 6
def fD (n o : List UInt8) : Nat → List UInt8
  | 0 => [49, 50, 51, 52]
  | 1 => [49, 50, 51, 52, 53, 54, 55, 56, 49, 50, 51, 52, 53, 54, 55, 56]
  | 2 => n
  | 3 => n
  | 4 => n
  | 5 => [49, 50] ++ n
  | 6 => [49, 50, 51, 52, 53, 54] ++ n
  | _ => n ++ o ++ [49, 50, 51, 52, 53, 54, 55, 56, 57, 48, 49, 50, 51, 52, 53, 54, 55, 56, 57, 48]
def fN : Nat → Nat
  | 0 => 0 | 1 => 0 | 2 => 1 | 3 => 1 | 4 => 1 | 5 => 1 | 6 => 1 | _ => 2
/-- What is said of one form. -/
def FormOk (t : Int) (d : List UInt8) (m : Nat) : Prop :=
  dataOk t d = true ∧ (∀ x, dataOk t (d ++ [x]) = false) ∧ (∀ c, c < d.length → dataOk t (d.take c) = false) ∧ (partsD t d).length = m ∧ known t = true ∧ 0 < d.length
theorem formOk_of {t : Int} {d : List UInt8} {a n b : Nat} {ps : List (Nat × Nat)} (h16 : t ≠ 16) (hl : lay t = some (a, n, b)) (hd : d.length ≤ 1000) (ha : a ≤ d.length) (hb : b ≤ d.length) (he : run d n a = some (ps, d.length - b)) (hk : known t = true) (h0 : 0 < d.length) (hn : ps.length = n) : FormOk t d n := by
  obtain ⟨h1, h2⟩ := dataOk_form (parts_form h16 hl hd he hb)
  exact ⟨h1, fun x => more_off h16 hl ha hb he x, fun c hc => less_off h16 hl hb he hc, by rw [h2, hn], hk, h0⟩
theorem formOk_name {t : Int} {q l : List UInt8} (h16 : t ≠ 16) (hl : lay t = some (q.length, 1, 0)) (hq : q.length ≤ 6) (h : valid l = true) (hk : known t = true) : FormOk t (q ++ l) 1 := by
  have h1 := run_one (q := q) (l := l) (r := []) h
  rw [List.append_nil] at h1
  have := valid_len h
  have := ne_nil_of_valid h
  exact formOk_of h16 hl (by simp; omega) (by simp) (by simp) (by simpa using h1) hk (by simp; omega) rfl
theorem forms_ok {n o : List UInt8} (hn : valid n = true) (ho : valid o = true) (k : Nat) (hk : k < 8) : FormOk (fT k) (fD n o k) (fN k) := by
  have hc : k = 0 ∨ k = 1 ∨ k = 2 ∨ k = 3 ∨ k = 4 ∨ k = 5 ∨ k = 6 ∨ k = 7 := by omega
  rcases hc with rfl | rfl | rfl | rfl | rfl | rfl | rfl | rfl
  · exact formOk_of (a := 4) (n := 0) (b := 0) (ps := []) (by decide) rfl (show _ ≤ _ by simp [fD]) (show _ ≤ _ by simp [fD]) (Nat.zero_le _) rfl rfl (show _ < _ by simp [fD]) rfl
  · exact formOk_of (a := 16) (n := 0) (b := 0) (ps := []) (by decide) rfl (show _ ≤ _ by simp [fD]) (show _ ≤ _ by simp [fD]) (Nat.zero_le _) rfl rfl (show _ < _ by simp [fD]) rfl
  · exact formOk_name (q := []) (by decide) rfl (by decide) hn rfl
  · exact formOk_name (q := []) (by decide) rfl (by decide) hn rfl
  · exact formOk_name (q := []) (by decide) rfl (by decide) hn rfl
  · exact formOk_name (q := [49, 50]) (by decide) rfl (by decide) hn rfl
  · exact formOk_name (q := [49, 50, 51, 52, 53, 54]) (by decide) rfl (by decide) hn rfl
  · have h1 := run_two (r := [49, 50, 51, 52, 53, 54, 55, 56, 57, 48, 49, 50, 51, 52, 53, 54, 55, 56, 57, 48]) hn ho
    have hl1 := valid_len hn
    have hl2 := valid_len ho
    refine formOk_of (a := 0) (n := 2) (b := 20) (by decide) rfl (by simp [fD]; omega) (by omega) (by simp [fD]; omega) (ps := [(0, n.length), (n.length, o.length)]) ?_ rfl (by simp [fD]; omega) rfl
    have e : (fD n o 7).length - 20 = n.length + o.length := by simp [fD]; omega
    rw [e]; exact h1
theorem fD_len {n o : List UInt8} (hn : n.length ≤ 100) (ho : o.length ≤ 100) (k : Nat) : (fD n o k).length ≤ 300 := by
  unfold fD; split
  all_goals first | omega | (simp; omega) | simp
theorem fT_known (k : Nat) : 1 ≤ fT k ∧ fT k ≤ 33 := by unfold fT; split <;> decide
theorem fN_le (k : Nat) : fN k ≤ 2 := by unfold fN; split <;> decide
end Go.Proofs.YtnnoooecbbkggaaDoor.Rd
