/- Set: two bytes are others. -/
import Derived.Test.YtipabiiffaipdaaName
import Derived.BigRegion
namespace Go.Proofs.Ytipabiiffaipdaa
open Go.RowKit Go.Shelf Go.Maps
attribute [local go_sem] Oper.semAt_some

def WS.set (S : WS) (z n : Int) : WS := if z < 0 ∨ (S.out.length : Int) < z + 2 then S else { S with out := (S.out.set z.toNat (byteOf (n / 256))).set (z.toNat + 1) (byteOf n) }
theorem ownE_setElem {base g cap n : Nat} {l : List UInt8} {W : World} (h : OwnE encB 5 base (.slice (some ⟨g, 0, none⟩) n cap) l W) {j : Nat} (_hj : j < l.length) (c : UInt8) : OwnE encB 5 base (.slice (some ⟨g, 0, none⟩) n cap) (l.set j c) (W.setCell ⟨g, j, none⟩ (encB c)) := by
  obtain ⟨h1, h2⟩ := h
  rcases h2 with ⟨e, _⟩ | ⟨g', cap', cur, e, hbg, hh, hnc, hcm, hcs, htake⟩
  · cases e
  · obtain ⟨rfl, rfl, rfl⟩ : g = g' ∧ n = l.length ∧ cap = cap' := by
      injection e with e1 e2 e3
      injection e1 with e1
      injection e1 with e1
      exact ⟨e1, e2, e3⟩
    refine ⟨by simp, .inr ⟨g, cap, cur.setIfInBounds j (encB c), by rw [List.length_set], hbg, blk_set hh j _, by rw [List.length_set]; exact hnc, hcm, by rw [Array.size_setIfInBounds]; exact hcs, ?_⟩⟩
    rw [List.length_set, Nat.mul_one, List.map_set, Array.toList_setIfInBounds, List.take_set, ← htake, Nat.mul_one]
theorem own_lit {base : Nat} {v : Value} {l : List UInt8} {W : World} (h : OwnE encB 5 base v l W) (hl : l ≠ []) : ∃ g cap, v = .slice (some ⟨g, 0, none⟩) l.length cap ∧ (∀ j, j < l.length → W.frozen? ⟨g, j, none⟩ = false) ∧ (∃ cur, W.heap[g]? = some (.cells cur 5 (0, 0)) ∧ cur.size = cap ∧ l.length ≤ cap) := by
  rcases h.2 with ⟨rfl, hn⟩ | ⟨g, cap, cur, rfl, hbg, hh, hnc, hcm, hcs, htake⟩
  · exact absurd (List.length_eq_zero_iff.1 hn) hl
  · exact ⟨g, cap, rfl, fun j _ => blk_frozen hh j, cur, hh, by omega, hnc⟩
/-- A store into a row of bytes that is no box: that a box stays one. -/
theorem boxed_setByte {W : World} {g j : Nat} {cur : Array Value} (hh : W.heap[g]? = some (.cells cur 5 (0, 0))) (hs : 1 < cur.size) {k : Nat} {t : TypeId} {u v : Value} (hb : Boxed W k t u) : Boxed (W.setCell ⟨g, j, none⟩ v) k t u := by
  refine (Below.heap_setCell W ⟨g, j, none⟩ v k (fun e => ?_)).trans hb
  have e' : k = g := e
  subst e'
  rw [show W.heap[k]? = _ from hb] at hh
  cases hh
  simp at hs
theorem byteOf_mod (z : Int) : ((byteOf z).toNat : Int) = z % 256 := byteOf_int z

set_option maxRecDepth 100000 in
set_option maxHeartbeats 4000000 in
theorem set_any (B : Nat) (S : WS) (f : Nat → Prop) (z n : Int) (w : World) (h : WrE B S f w) (hl : S.size ≤ 1000000) (hz1 : -9223372036854775808 ≤ z) (hz2 : z ≤ 9223372036854775807) :
    Calls Try.prog 26 #[.pointer (some ⟨B, 0, none⟩), .int .i64 z, .int .i64 n] w (ActRet B (S.set z n) f w) := by
  obtain ⟨vo, vm, h⟩ := h
  have hlen := h.len
  obtain ⟨ao, n0, c0, rfl⟩ := own_shape h.own
  have hn0 : n0 = S.out.length := by
    obtain ⟨_, _, e, _⟩ := (ownB_read h.own).1.form
    injection e
  subst hn0
  have c2 := blk_cell h.heap 2 (v := .slice ao S.out.length c0) rfl
  by_cases hbad : z < 0 ∨ (S.out.length : Int) < z + 2
  · have HS : Hid (S.set z n = S) := Lib.hid (by unfold WS.set; rw [if_pos hbad])
    have HH := Lib.hid h
    have hcase : z < 0 ∨ (0 ≤ z ∧ (S.out.length : Int) - 2 < z) := by omega
    clear h hbad
    rcases hcase with h1 | ⟨h1, h2⟩
    all_goals
      go_enter Try.func26, Try.ntmps26
      go_wp2
      refine bodyPost_ret (results_none rfl _ _ _) rfl ?_
      rw [HS.out]
      exact ⟨rfl, Turn.refl _ _, WrE.widen ⟨_, _, HH.out⟩ fun _ _ => .inl⟩
  · obtain ⟨k, rfl⟩ := Int.eq_ofNat_of_zero_le (by omega : 0 ≤ z)
    have hk : k + 2 ≤ S.out.length := by omega
    have HS : Hid (S.set (k : Int) n = { S with out := (S.out.set k (byteOf (n / 256))).set (k + 1) (byteOf n) }) := Lib.hid (by unfold WS.set; rw [if_neg hbad]; rfl)
    obtain ⟨g, cap, e, hfr, cur, hcur, hcs, hcl⟩ := own_lit h.own (by intro e; rw [e] at hk; simp at hk)
    cases e
    have f1 := hfr k (by omega)
    have f2 := hfr (k + 1) (by omega)
    obtain ⟨x1, d1⟩ : ∃ x, w.cell? ⟨g, k, none⟩ = some x := ⟨_, by have := ownE_cell h.own (j := k) (by omega); rwa [Nat.zero_add] at this⟩
    obtain ⟨x2, d2⟩ : ∃ x, w.cell? ⟨g, k + 1, none⟩ = some x := ⟨_, by have := ownE_cell h.own (j := k + 1) (by omega); rwa [Nat.zero_add] at this⟩
    have hgB : B ≠ g := by rintro rfl; exact h.out_ne rfl
    have hk0 : (0 : Int) ≤ (k : Int) := by omega
    have hk1 : (k : Int) < (S.out.length : Int) := by omega
    have hk2 : (k : Int) + 1 < (S.out.length : Int) := by omega
    have hk3 : (k : Int) ≤ (S.out.length : Int) - 2 := by omega
    have HH := Lib.hid h
    have HC := Lib.hid hcur
    clear h hbad hcur hfr
    go_enter Try.func26, Try.ntmps26
    go_wp2
    go_region
    all_goals go_end0
    have h := HH.out
    have e1 : Value.int .u8 (n / 256 % 256) = encB (byteOf (n / 256)) := by unfold encB; rw [byteOf_int]
    have e2 : Value.int .u8 (n % 256) = encB (byteOf n) := by unfold encB; rw [byteOf_int]
    rw [e1, e2]
    have hb1 := blk_set HC.out k (encB (byteOf (n / 256)))
    have hT1 : Turn f w (w.setCell ⟨g, k, none⟩ (encB (byteOf (n / 256)))) := turn_setCell HC.out (by omega) (h.mine g rfl) k _
    have hT2 : Turn f (w.setCell ⟨g, k, none⟩ (encB (byteOf (n / 256)))) ((w.setCell ⟨g, k, none⟩ (encB (byteOf (n / 256)))).setCell ⟨g, k + 1, none⟩ (encB (byteOf n))) := turn_setCell hb1 (by rw [Array.size_setIfInBounds]; omega) (h.mine g rfl) (k + 1) _
    have ho1 := ownE_setElem h.own (j := k) (by omega) (byteOf (n / 256))
    have ho2 := ownE_setElem ho1 (j := k + 1) (by rw [List.length_set]; omega) (byteOf n)
    have hoth : ∀ i, i ≠ g → (((w.setCell ⟨g, k, none⟩ (encB (byteOf (n / 256)))).setCell ⟨g, k + 1, none⟩ (encB (byteOf n))).drew).heap[i]? = w.heap[i]? := fun i hi => (Below.heap_setCell _ ⟨g, k + 1, none⟩ _ i hi).trans (Below.heap_setCell _ ⟨g, k, none⟩ _ i hi)
    refine ⟨rfl, (hT1.then hT2).then (Turn.of_below ((Below.refl _ _).drew)), ?_⟩
    rw [HS.out]
    refine h.again (vo' := .slice (some ⟨g, 0, none⟩) S.out.length c0) ((hoth B hgB).trans h.heap) (show OwnE encB 5 0 _ _ _ from ho2) (.inr ?_) (fun g' hg' => .inl (h.mine g' hg')) (by simpa using h.len) rfl (fun i es ck hi => hoth i (by rintro rfl; rw [HC.out] at hi; cases hi))
    intro e
    have := congrArg List.length e
    simp at this
    rw [this] at hk
    simp at hk
end Go.Proofs.Ytipabiiffaipdaa
