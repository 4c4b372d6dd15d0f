/- Short: are texts few, and short in all? -/
import Derived.Test.YtipabiiffaipdaaPlaces
namespace Go.Proofs.Ytipabiiffaipdaa
open Go.RowKit Go.Shelf

namespace Nm
theorem encL_take_drop (ls : List (List UInt8)) (k : Nat) : encL ls = encL (ls.take k) + encL (ls.drop k) := by
  rw [← encL_append, List.take_append_drop]
theorem encL_take_succ {ls : List (List UInt8)} {k : Nat} (h : k < ls.length) : encL (ls.take (k + 1)) = encL (ls.take k) + (1 + ls[k].length) := by
  rw [List.take_succ_eq_append_getElem h, encL_append]; simp [encL]
theorem short_over {ls : List (List UInt8)} {k nn : Nat} {top : Int} (hk : k ≤ ls.length) (h : nn + k = ls.length + encL (ls.take k)) (ht : top < nn) : decide ((encL ls : Int) ≤ top) = false := by
  have h1 := encL_take_drop ls k
  have h2 := @length_le_encL (ls.drop k)
  rw [List.length_drop] at h2
  rw [decide_eq_false_iff_not]
  omega
theorem short_long {ls : List (List UInt8)} {k : Nat} {top : Int} (hk : k < ls.length) (ht : top < (ls[k].length : Int)) : decide ((encL ls : Int) ≤ top) = false := by
  have h1 := encL_take_drop ls (k + 1)
  have h2 := encL_take_succ hk
  rw [decide_eq_false_iff_not]
  omega
theorem encL_mem {ls : List (List UInt8)} {l : List UInt8} (h : l ∈ ls) : l.length ≤ encL ls := by
  induction ls with
  | nil => cases h
  | cons x ls ih =>
    simp only [encL]
    rcases List.mem_cons.1 h with rfl | h
    · omega
    · have := ih h; omega
end Nm

set_option maxRecDepth 100000 in
set_option maxHeartbeats 2000000 in
theorem short_any (ls : List (List UInt8)) (sv : Value) (top : Int) (w : World) (hr : ReadS sv ls w) (hlen : ls.length ≤ 9223372036854775807) (hl : ∀ l ∈ ls, l.length ≤ 9223372036854775807) (ht : 0 ≤ top ∧ top ≤ 100000) :
    Calls Try.prog 24 #[sv, .int .i64 top] w fun e w' => e = .returned (.bool (decide ((Nm.encL ls : Int) ≤ top))) ∧ w = w' := by
  obtain ⟨ao, cap, rfl, hcell⟩ := hr.form
  obtain ⟨ht0, ht1⟩ := ht
  have HL := Lib.hid hl
  have HC := Lib.hid hcell
  clear hl hcell
  go_enter Try.func24, Try.ntmps24
  go_wp2
  go_loop [5, 6] (fun nv i => ∃ (k nn : Nat), k ≤ ls.length ∧ i = .int .i64 (k : Int) ∧ nv = .int .i64 (nn : Int) ∧ Hid (nn + k = ls.length + Nm.encL (ls.take k)) ∧ (0 < k → (nn : Int) ≤ 2 * top)) (fun _ i => ls.length + 1 - (intOf i).toNat)
  case atStart => exact ⟨0, ls.length, by omega, rfl, rfl, Lib.hid (by simp [Nm.encL]), by omega⟩
  case round =>
    obtain ⟨k, nn, hk, rfl, rfl, hh, hb⟩ := hrel
    by_cases hlt : k < ls.length
    · obtain ⟨b, off, rfl, c1⟩ := HC.out k hlt
      by_cases hov : top < (nn : Int)
      · have H := Lib.hid (Nm.short_over hk hh.out hov)
        go_wp2
        go_ret
        exact ⟨ret_bool (by rw [H.out]; simp; omega), rfl⟩
      · have hll := HL.out ls[k] (List.getElem_mem hlt)
        have H1 := Lib.hid (Nm.encL_take_succ hlt)
        have H2 := Lib.hid (fun (h : top < (ls[k].length : Int)) => Nm.short_long hlt h)
        obtain ⟨l, hle⟩ : ∃ l, l = ls[k] := ⟨_, rfl⟩
        rw [← hle] at c1 hll H1 H2
        replace c1 : w.cell? ⟨b, off + k, none⟩ = some (.string ⟨l.toArray⟩) := c1
        clear hle
        by_cases hlong : top < (l.length : Int)
        · have H := Lib.hid (H2.out hlong)
          go_wp2
          go_ret
          exact ⟨ret_bool H.out.symm, rfl⟩
        · go_wp2
          exact ⟨⟨k + 1, nn + l.length, by omega, by go_num, by go_num, Lib.hid (by have := hh.out; rw [H1.out]; omega), by omega⟩, by simp [intOf]; omega⟩
    · obtain rfl : k = ls.length := by omega
      have H : Hid (nn = Nm.encL ls) := Lib.hid (by have := hh.out; rw [List.take_length] at this; omega)
      go_wp2
      go_ret
      exact ⟨ret_bool (by rw [H.out]), rfl⟩
end Go.Proofs.Ytipabiiffaipdaa
