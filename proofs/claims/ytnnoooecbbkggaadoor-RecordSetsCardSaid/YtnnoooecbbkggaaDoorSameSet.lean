/- SameSet: two sets of records compared. -/
import Derived.Test.YtnnoooecbbkggaaDoorMapsEq
namespace Go.Proofs.YtnnoooecbbkggaaDoor
open Go.RowKit Go.Shelf Go.Maps
attribute [local go_sem] Oper.semAt_some

theorem below_grownNone {w w' : World} (h : w.grownBy w' none) : Below w.heap.size w w' :=
  (Below.refl _ w).grown h (Nat.le_refl _) (fun j e => by cases e)

set_option maxRecDepth 100000 in
set_option maxHeartbeats 4000000 in
theorem sameSet_any (a b : List Rd.RR) (sa sb : Value) (w : World) (ha : ReadR sa a w) (hb : ReadR sb b w) (fa : ∀ r ∈ a, Fine r) (fb : ∀ r ∈ b, Fine r) (la : a.length ≤ 100000) (lb : b.length ≤ 100000) :
    Calls Tryd.prog 27 #[sa, sb] w fun e w' => e = .returned (.bool (Rd.sameSet a b)) ∧ Below w.heap.size w w' := by
  go_enter Tryd.func27, Tryd.ntmps27
  go_wp2_with (go_at_call 52; refine (foldedSet_any a sa _ ha fa la).mono ?_; rintro e w1 ⟨b1, rfl, hb1, ho1, bl1⟩; refine Hid.out ?_)
  refine Lib.hid ?_
  have hb2 := readR_below hb bl1
  go_wp2_with (go_at_call 52; refine (foldedSet_any b sb _ hb2 fb lb).mono ?_; rintro e w2 ⟨b2, rfl, hb2', ho2, bl2⟩; refine Hid.out ?_)
  refine Lib.hid ?_
  have ho1' := setOwn_below ho1 bl2
  have hr := setEq_same a b fa fb
  go_wp2_with (go_at_call 51; refine (mapsEq_any b1 b2 _ _ _ _ w2 ho1' ho2).mono ?_; rintro e w3 ⟨rfl, hg⟩; refine Hid.out ?_)
  refine Lib.hid ?_
  have hbl : Below w.heap.size w w3 := below_trans (below_trans bl1 bl2) (below_grownNone hg)
  go_wp2
  go_ret
  exact ⟨rfl, hbl⟩
end Go.Proofs.YtnnoooecbbkggaaDoor
