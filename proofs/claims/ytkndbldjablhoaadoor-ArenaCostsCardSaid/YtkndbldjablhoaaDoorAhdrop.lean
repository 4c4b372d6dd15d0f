/- A handle is given back. -/
import Derived.Test.YtkndbldjablhoaaDoorAhan
set_option maxRecDepth 100000
namespace Go.Proofs.YtkndbldjablhoaaDoor
open Go.RowKit Go.Shelf
namespace Ar
def dropHd (S : St) (k : Nat) : St := { S with us := S.us.set (k / 64) (S.us.getD (k / 64) 0 &&& (18446744073709551615 - 2 ^ (k % 64))), low := min S.low (k / 64) }
end Ar
set_option maxHeartbeats 2000000 in
theorem hdrop_any (A : Nat) (L : Loc) (S : Ar.St) (f : Nat → Prop) (z : Int) (k : Nat) (w : World) (hz : z = (k : Int) + 1) (hA : ArE A L S f w) (hk : k < S.pl.length) (h3 : S.pl.length ≤ 1000000) (h4 : S.pl.length = 64 * S.us.length) (h5 : ∀ x ∈ S.us, x < 18446744073709551616) (h6 : S.low ≤ 1000000) :
    Calls Tryd.prog 40 #[.pointer (some ⟨A, 2, none⟩), .int .i64 z] w fun e w' => e = .returned (.tuple #[]) ∧ Trn f w w' ∧ ArE A L (Ar.dropHd S k) f w' := by
  subst hz
  have hc3 := hA.cells.2.2.2.1
  have hc4 := hA.cells.2.2.2.2.1
  have hf4 := hA.box.frozen 4
  have hk2 : k / 64 < S.us.length := by omega
  have hu := hA.us.cell (i := k / 64) (v := encU (S.us.getD (k / 64) 0)) (by simp [hk2])
  have hfu := hA.us.frozen (k / 64)
  have hu64 : S.us.getD (k / 64) 0 < 18446744073709551616 := by simp only [List.getD, List.getElem?_eq_getElem hk2, Option.getD_some]; exact h5 _ (List.getElem_mem hk2)
  have hUA : A ≠ L.U := hA.box.ne hA.us (by decide)
  unfold encU at hu
  unfold encI at hc4
  have H4 := Lib.hid h4
  clear h4
  have hp := pow_lt64 (Nat.mod_lt k (show 0 < 64 by decide))
  have R : ∀ m : Nat, m = 2 ^ (k % 64) → bits .andNot .u64 ((S.us.getD (k / 64) 0 : Nat) : Int) (m : Int) = ((S.us.getD (k / 64) 0 &&& (18446744073709551615 - m) : Nat) : Int) := fun m e => u64_andNot_nat _ _ hu64 (e ▸ hp)
  have fin : ∀ m n : Nat, m = 2 ^ (k % 64) → Trn f w ((((w.drewN n).setCell ⟨L.U, k / 64, none⟩ (encU (S.us.getD (k / 64) 0 &&& (18446744073709551615 - m)))).setCell ⟨A, 4, none⟩ (encI (min S.low (k / 64))))) ∧ ArE A L (Ar.dropHd S k) f ((((w.drewN n).setCell ⟨L.U, k / 64, none⟩ (encU (S.us.getD (k / 64) 0 &&& (18446744073709551615 - m)))).setCell ⟨A, 4, none⟩ (encI (min S.low (k / 64))))) := fun m n e => by
    subst e
    have hA1 := hA.drew n
    have hb := hA1.us.set (k / 64) (encU (S.us.getD (k / 64) 0 &&& (18446744073709551615 - 2 ^ (k % 64))))
    rw [← List.map_set] at hb
    have hA2 := hA1.setUs hb (by simp) (fun j hj _ => Below.heap_setCell (w.drewN n) ⟨L.U, k / 64, none⟩ _ j hj) (by simp [World.setCell])
    have t2 : Trn f w ((w.drewN n).setCell ⟨L.U, k / 64, none⟩ (encU (S.us.getD (k / 64) 0 &&& (18446744073709551615 - 2 ^ (k % 64))))) := (Trn.drew w n).trans (Trn.set hA1.us (.inl hA.fU) _ _)
    refine ⟨t2.trans (Trn.set hA2.box (.inl hA.fA) _ _), hA2.setBox 4 _ ?_ rfl rfl rfl rfl⟩
    unfold arBox Ar.dropHd
    simp
  have Fin := Lib.hid fin
  have HR := Lib.hid R
  clear fin R
  have hmin : ((min S.low (k / 64) : Nat) : Int) = min (S.low : Int) ((k : Int) / 64) := by omega
  have Hmin := Lib.hid hmin
  clear hmin
  generalize hxx : S.us.getD (k / 64) 0 = x at hu hu64 Fin HR
  clear hxx
  go_enter Tryd.func40, Tryd.ntmps40
  go_wp2_with (go_at_call 56; (with_reducible refine (bit_any _ k _ rfl (by omega)).mono ?_); rintro e w' ⟨m, hm, rfl, n, rfl⟩; have hbm := HR.out m hm.out; have hfin := Lib.hid (Fin.out m n hm.out))
  go_end0
  have e := hfin.out
  unfold encU encI at e
  rw [Hmin.out] at e
  exact ⟨rfl, e⟩
end Go.Proofs.YtkndbldjablhoaaDoor
