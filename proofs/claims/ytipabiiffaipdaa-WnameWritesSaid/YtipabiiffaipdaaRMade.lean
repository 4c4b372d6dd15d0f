/- The document's own Made. -/
import Derived.Test.YtipabiiffaipdaaRLabels
import Derived.Test.YtipabiiffaipdaaShort
import Derived.Deep.RegionHeld3
namespace Go.Proofs.Ytipabiiffaipdaa
open Go.RowKit Go.Shelf
attribute [local go_sem] Oper.semAt_some

set_option maxRecDepth 100000 in
set_option maxHeartbeats 2000000 in
theorem rmade_any (ls : List (List UInt8)) (sv : Value) (w : World) (hr : ReadS sv ls w) (hn : Nm.encL ls ≤ 100000) :
    Calls Try.prog 35 #[sv] w fun e w' => e = .returned (.string ⟨(Nm.made ls).toArray⟩) ∧ Below w.heap.size w w' := by
  obtain ⟨ao, cap, rfl, hc⟩ := hr.form
  have hll : ls.length ≤ 100000 := Nat.le_trans Nm.length_le_encL hn
  have HC := Lib.hid hc
  have HE : Hid (∀ k, k ≤ ls.length → Nm.encL (ls.take k) ≤ 100000) := Lib.hid (fun k _ => by have := Nm.encL_take_drop ls k; omega)
  clear hc
  go_enter Try.func35, Try.ntmps35
  go_wp2
  go_loopw [3, 4] (fun s i wr => ∃ (k : Nat) (t : List UInt8), k ≤ ls.length ∧ s = .string ⟨t.toArray⟩ ∧ i = .int .i64 k ∧ t.length ≤ 100000 ∧ Hid (t = Nm.encs (ls.take k)) ∧ Below w.heap.size w wr) (fun _ i _ => ls.length + 1 - (intOf i).toNat)
  case atStart => exact ⟨0, [], by omega, rfl, rfl, by simp, Lib.hid rfl, Below.refl _ _⟩
  case round =>
    obtain ⟨k, t, hk, rfl, rfl, htl, hh, hb⟩ := hrel
    have hwr := hb.size
    by_cases hlt : k < ls.length
    · obtain ⟨b, off, rfl, c1⟩ := HC.out k hlt
      replace c1 := (hb.cell (p := ⟨b, off + k, none⟩) (cell_lt c1)).trans c1
      have het := Nm.encs_take hlt
      rw [← hh.out] at het
      obtain ⟨l, hl⟩ : ∃ l, l = ls[k] := ⟨_, rfl⟩
      have hel := HE.out (k + 1) hlt
      rw [Nm.encL_take_succ hlt, ← hl] at hel
      rw [← hl] at c1 het
      replace c1 : wr.cell? ⟨b, off + k, none⟩ = some (.string ⟨l.toArray⟩) := c1
      have HET := Lib.hid het
      have hl63 : l.length ≤ 100000 := by omega
      clear het hl hh
      have hu8 : encB (UInt8.ofNat l.length) = .int .u8 (IntKind.u8.wrap (l.length : Int)) := by
        unfold encB
        rw [UInt8.toNat_ofNat']
        congr 1
      have hcv : (convert 22 9 (.slice (some ⟨wr.heap.size, 0, none⟩) 1 1)).run Try.prog (wr.alloc (.cells #[.int .u8 (IntKind.u8.wrap (l.length : Int))] 5)).drew = .ok (.string ⟨[UInt8.ofNat l.length].toArray⟩) (wr.alloc (.cells #[.int .u8 (IntKind.u8.wrap (l.length : Int))] 5)).drew :=
        run_convert_bytes_back (P := Try.prog) _ 22 9 5 ⟨wr.heap.size, 0, none⟩ 1 [UInt8.ofNat l.length] Try.underlying22 Try.underlying5 Try.underlying9 (fun j hj => cells_new wr [.int .u8 (IntKind.u8.wrap (l.length : Int))] 5 j (encB [UInt8.ofNat l.length][j]) (by
          obtain rfl : j = 0 := by simpa using hj
          simp [hu8]))
      clear hu8
      have hbl : b < wr.heap.size := cell_lt c1
      have hcx : ∀ o, (wr.alloc o).cell? ⟨b, off + k, none⟩ = some (.string ⟨l.toArray⟩) := fun o => (((Below.refl wr.heap.size wr).alloc (Nat.le_refl _) o).cell (p := ⟨b, off + k, none⟩) hbl).trans c1
      have e1 := app_bytes t [UInt8.ofNat l.length]
      have e2 := app_bytes (t ++ [UInt8.ofNat l.length]) l
      obtain ⟨t2, ht2⟩ : ∃ t2, t2 = t ++ [UInt8.ofNat l.length] ++ l := ⟨_, rfl⟩
      rw [← ht2] at e2
      have hle : t2.length ≤ 100000 := by
        rw [ht2, ← HET.out, Nm.encs_length]
        exact HE.out (k + 1) hlt
      have hl1 : (t ++ [UInt8.ofNat l.length]).length ≤ 100001 := by simp; omega
      have HN : Hid (t2 = Nm.encs (ls.take (k + 1))) := Lib.hid (by rw [ht2, HET.out])
      clear ht2
      go_wp2
      go_region_with (fail)
      all_goals
        simp only [List.getElem_toArray, List.getElem_cons_succ, List.getElem_cons_zero, Act.put, List.setIfInBounds_toArray, List.set_cons_succ, List.set_cons_zero]
        go_wp2
        go_roundw
        case rel => exact ⟨k + 1, t2, by omega, rfl, by go_num, hle, HN, (hb.alloc hwr _).drew⟩
        case measure => simp [intOf]; omega
    · obtain rfl : k = ls.length := by omega
      have HT : Hid (t ++ [0] = Nm.made ls) := Lib.hid (by rw [hh.out, List.take_length, Nm.made_encs])
      have e1 := app_bytes t [0]
      have hl1 : (t ++ [0]).length ≤ 100001 := by simp; omega
      clear hh
      go_wp2
      go_ret
      exact ⟨ret_str HT.out, hb⟩
end Go.Proofs.Ytipabiiffaipdaa
