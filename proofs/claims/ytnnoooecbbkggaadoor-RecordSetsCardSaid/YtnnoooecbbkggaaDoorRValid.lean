/- The document's own Valid (freshetref1). -/
import Derived.Test.YtnnoooecbbkggaaDoorRLabels
namespace Go.Proofs.YtnnoooecbbkggaaDoor
open Go.RowKit Go.Shelf
attribute [local go_sem] Oper.semAt_some

set_option maxRecDepth 100000 in
theorem rvalid_any (n : List UInt8) (w : World) (hs : n.length ≤ 100000) :
    Calls Tryd.prog 35 #[.string ⟨n.toArray⟩] w fun e w' => e = .returned (.bool (Nm.valid n)) ∧ Below w.heap.size w w' := by
  obtain ⟨x, hx⟩ : ∃ x, Nm.valid n = x := ⟨_, rfl⟩
  have HX := Lib.hid hx
  rw [hx]
  clear hx
  go_enter Tryd.func35, Tryd.ntmps35
  go_wp2_with (go_at_call 60; refine (rlabels_any n _ hs).mono ?_; rintro e w1 ⟨v, L, rfl, ho, b1, hL, hl⟩; rw [HX.out])
  go_ret
  exact ⟨rfl, b1⟩
end Go.Proofs.YtnnoooecbbkggaaDoor
