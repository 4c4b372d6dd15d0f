/- The document's own Valid (freshetref1). -/
import Derived.Test.YtipabiiffaipdaaRLabels
namespace Go.Proofs.Ytipabiiffaipdaa
open Go.RowKit Go.Shelf
attribute [local go_sem] Oper.semAt_some

set_option maxRecDepth 100000 in
theorem rvalid_any (n : List UInt8) (w : World) (hs : n.length ≤ 100000) :
    Calls Try.prog 25 #[.string ⟨n.toArray⟩] w fun e w' => e = .returned (.bool (Nm.valid n)) ∧ Below w.heap.size w w' := by
  obtain ⟨x, hx⟩ : ∃ x, Nm.valid n = x := ⟨_, rfl⟩
  have HX := Lib.hid hx
  rw [hx]
  clear hx
  go_enter Try.func25, Try.ntmps25
  go_wp2_with (go_at_call 34; refine (rlabels_any n _ hs).mono ?_; rintro e w1 ⟨v, L, rfl, ho, b1, hL, hl⟩; rw [HX.out])
  go_ret
  exact ⟨rfl, b1⟩
end Go.Proofs.Ytipabiiffaipdaa
