/- 3 texts put together: MRecs, MIter, MData. -/
import Derived.Test.YtfmghbmbahembaaJB8
import Derived.Test.YtfmghbmbahembaaJB13
import Derived.Test.YtfmghbmbahembaaJB14
import Derived.Test.YtfmghbmbahembaaJB15
import Derived.Test.YtfmghbmbahembaaJB16
import Derived.Test.YtfmghbmbahembaaJB19
import Derived.Test.YtfmghbmbahembaaJB20
/- Records: what it makes of a message. -/
namespace Go.Proofs.Ytfmghbmbahembaa
open Go.RowKit Go.Shelf Go.Maps
attribute [local go_sem] Oper.semAt_some

theorem idx_s0 (w : World) (x y z : Value) : (Instr.index 69 (.agg #[x, y, z]) (.int .i64 0)).run Try.prog w = .ok x w := by kernel_rfl
theorem idx_s1 (w : World) (x y z : Value) : (Instr.index 69 (.agg #[x, y, z]) (.int .i64 1)).run Try.prog w = .ok y w := by kernel_rfl
theorem idx_s2 (w : World) (x y z : Value) : (Instr.index 69 (.agg #[x, y, z]) (.int .i64 2)).run Try.prog w = .ok z w := by kernel_rfl

theorem ownK_lower {α : Type} {enc : α → List Value} {k : Nat} {e : TypeId} {base base' : Nat} {v : Value} {l : List α} {W : World} (h : OwnK enc k e base v l W) (hb : base' ≤ base) : OwnK enc k e base' v l W :=
  ⟨h.1, h.2.imp id fun ⟨g, cap, cur, h1, h2, h3⟩ => ⟨g, cap, cur, h1, Nat.le_trans hb h2, h3⟩⟩
theorem heap_set_other {W : World} {B g i : Nat} {u : Value} (h : g ≠ B) : (W.setCell ⟨B, i, none⟩ u).heap[g]? = W.heap[g]? := by
  unfold World.setCell
  simp only
  rw [Array.getElem?_modify, if_neg (Ne.symm h)]
theorem ownK_beside {α : Type} {enc : α → List Value} {k : Nat} {e t : TypeId} {base B : Nat} {v : Value} {l : List α} {W : World} {cs : Array Value} (h : OwnK enc k e base v l W) (hb : Block W B cs t) (hte : t ≠ e) (i : Nat) (u : Value) : OwnK enc k e base v l (W.setCell ⟨B, i, none⟩ u) := by
  refine ⟨h.1, h.2.imp id fun ⟨g, cap, cur, h1, h2, h3, h4⟩ => ⟨g, cap, cur, h1, h2, ?_, h4⟩⟩
  rw [heap_set_other (fun e1 => ?_)]
  · exact h3
  · subst e1
    have hx : W.heap[g]? = some (.cells cs t (0, 0)) := hb
    rw [h3] at hx
    injection hx with hx
    injection hx with _ h5
    exact hte h5.symm
theorem _root_.Go.RowKit.Below.set_above {n B : Nat} {W W' : World} (h : RowKit.Below n W W') (hB : n ≤ B) (i : Nat) (u : Value) : RowKit.Below n W (W'.setCell ⟨B, i, none⟩ u) :=
  ⟨h.os, h.tape, h.output, by have := h.size; simpa [World.setCell] using this, fun k hk => (heap_set_other (by omega)).trans (h.block k hk)⟩
/-- What Records gives: a function whose own memory lies above base. -/
def RecsRet (m : Ms.M) (w : World) (e : Ending) (w' : World) : Prop :=
  ∃ B va vn vd, e = .returned (.func (.func 47) #[] #[.pointer (some ⟨B, 0, none⟩)]) ∧ w.heap.size ≤ B ∧ Block w' B #[va, vn, vd] 69 ∧
    OwnK encRR 5 45 w.heap.size va m.an w' ∧ OwnK encRR 5 45 w.heap.size vn m.ns w' ∧ OwnK encRR 5 45 w.heap.size vd m.ad w' ∧ Below w.heap.size w w'

set_option maxRecDepth 100000 in
set_option maxHeartbeats 4000000 in
theorem mrecords_any (m : Ms.M) (vq va vn vd : Value) (w : World) (hL : Lists m vq va vn vd w) (hs : Slim m) :
    Calls Try.prog 19 #[msgV m vq va vn vd] w (RecsRet m w) := by
  have hcs : ∀ (l : List Rd.RR) (v : Value), FewR l 100000 → ReadR v l w → ∀ W, Below w.heap.size w W → Calls Try.prog 46 #[v] W fun e w' => ∃ v, e = .returned v ∧ OwnK encRR 5 45 W.heap.size v l w' ∧ Below W.heap.size W w' :=
    fun l v hF hR W hb => copied_any l v W (readR_below hR hb) hF.len hF.all
  have C1 := Lib.hid (hcs m.an va hs.an hL.an)
  have C2 := Lib.hid (hcs m.ns vn hs.ns hL.ns)
  have C3 := Lib.hid (hcs m.ad vd hs.ad hL.ad)
  obtain ⟨aa, ca, rfl, _⟩ := hL.an.form
  obtain ⟨an, cn, rfl, _⟩ := hL.ns.form
  obtain ⟨ad, cd, rfl, _⟩ := hL.ad.form
  clear hcs hL hs
  unfold msgV
  go_enter Try.func19, Try.ntmps19
  go_wp2_with fail
  have d9 := Lib.hid ((Block.new w (hcells m vq (.slice aa m.an.length ca) (.slice an m.ns.length cn) (.slice ad m.ad.length cd)) 27).cell (i := 9) (v := .slice aa m.an.length ca) rfl)
  have d10 := Lib.hid ((Block.new w (hcells m vq (.slice aa m.an.length ca) (.slice an m.ns.length cn) (.slice ad m.ad.length cd)) 27).cell (i := 10) (v := .slice an m.ns.length cn) rfl)
  have d11 := Lib.hid ((Block.new w (hcells m vq (.slice aa m.an.length ca) (.slice an m.ns.length cn) (.slice ad m.ad.length cd)) 27).cell (i := 11) (v := .slice ad m.ad.length cd) rfl)
  have bA := Lib.hid ((Below.refl w.heap.size w).alloc (Nat.le_refl _) (.cells (hcells m vq (.slice aa m.an.length ca) (.slice an m.ns.length cn) (.slice ad m.ad.length cd)) 27))
  unfold hcells at d9 d10 d11 bA
  have hmp : Try.prog.follows .mixedOrders = true := by kernel_rfl
  refine wp_region_slotsTL (by simp) slotLe (slotPhi ((fun v _ => v = ?a4) :: (fun v _ => v = ?a5) :: (fun v W' => OwnK encRR 5 45 w.heap.size v m.an W') :: (fun v _ => v = ?a7) :: (fun v _ => v = ?a8) :: (fun v W' => OwnK encRR 5 45 w.heap.size v m.ns W') :: (fun v _ => v = ?a10) :: (fun v _ => v = ?a11) :: (fun v W' => OwnK encRR 5 45 w.heap.size v m.ad W') :: (fun v W' => ∃ x y z, v = .agg #[x, y, z] ∧ OwnK encRR 5 45 w.heap.size x m.an W' ∧ OwnK encRR 5 45 w.heap.size y m.ns W' ∧ OwnK encRR 5 45 w.heap.size z m.ad W') :: (fun v W' => ∃ B, v = .pointer (some ⟨B, 0, none⟩) ∧ w.heap.size < B ∧ ∃ x y z, Block W' B #[x, y, z] 69) :: [])) slotLe_refl slotLe_trans (slotPhi_stable ?stb) (by kernel_rfl) (by kernel_rfl) (by kernel_rfl) (by kernel_rfl) (by kernel_rfl) ?steps ?fin
  case stb =>
    refine ⟨by intro _ _ _ _ h; exact h, ?_⟩
    refine ⟨by intro _ _ _ _ h; exact h, ?_⟩
    refine ⟨by intro _ _ _ h k; exact ownK_below k h, ?_⟩
    refine ⟨by intro _ _ _ _ h; exact h, ?_⟩
    refine ⟨by intro _ _ _ _ h; exact h, ?_⟩
    refine ⟨by intro _ _ _ h k; exact ownK_below k h, ?_⟩
    refine ⟨by intro _ _ _ _ h; exact h, ?_⟩
    refine ⟨by intro _ _ _ _ h; exact h, ?_⟩
    refine ⟨by intro _ _ _ h k; exact ownK_below k h, ?_⟩
    refine ⟨by rintro _ _ _ h ⟨x, y, z, rfl, h1, h2, h3⟩; exact ⟨x, y, z, rfl, ownK_below h1 h, ownK_below h2 h, ownK_below h3 h⟩, ?_⟩
    refine ⟨by rintro _ _ _ h ⟨B, rfl, hB, x, y, z, hb⟩; exact ⟨B, rfl, hB, x, y, z, hb.below h⟩, ?_⟩
    exact trivial
  case steps =>
    refine ⟨?_, ?_⟩
    · intro a W K N hK
      have e1 : a.tmps[1]?.getD undef = .pointer (some ⟨w.heap.size, 0, none⟩) := N.was' 1 _ (by kernel_rfl) rfl
      rw [if_pos (wanted_no rfl)]
      go_simp
      refine hK _ _ (slotLe_refl _) ?_
      exact rfl
    refine ⟨?_, ?_⟩
    · intro a W K N hK
      have e4 : a.tmps[4]?.getD undef = _ := N.dep' 0 4 (by kernel_rfl)
      rw [if_pos (wanted_no rfl)]
      have z := keep_cell N.le d9.out
      go_simp
      refine hK _ _ (slotLe_refl _) ?_
      exact rfl
    refine ⟨?_, ?_⟩
    · intro a W K N hK
      have e5 : a.tmps[5]?.getD undef = _ := N.dep' 1 5 (by kernel_rfl)
      rw [if_pos (wanted_no rfl)]
      go_simp
      refine (C1.out W (bA.out.trans ((below_undrew N.le).mono bA.out.size))).mono ?_
      rintro e w4 ⟨v4, rfl, ho, b4⟩
      refine hK _ _ b4 ?_
      exact ownK_lower ho (bA.out.trans ((below_undrew N.le).mono bA.out.size)).size
    refine ⟨?_, ?_⟩
    · intro a W K N hK
      have e1 : a.tmps[1]?.getD undef = .pointer (some ⟨w.heap.size, 0, none⟩) := N.was' 1 _ (by kernel_rfl) rfl
      rw [if_pos (wanted_no rfl)]
      go_simp
      refine hK _ _ (slotLe_refl _) ?_
      exact rfl
    refine ⟨?_, ?_⟩
    · intro a W K N hK
      have e7 : a.tmps[7]?.getD undef = _ := N.dep' 3 7 (by kernel_rfl)
      rw [if_pos (wanted_no rfl)]
      have z := keep_cell N.le d10.out
      go_simp
      refine hK _ _ (slotLe_refl _) ?_
      exact rfl
    refine ⟨?_, ?_⟩
    · intro a W K N hK
      have e8 : a.tmps[8]?.getD undef = _ := N.dep' 4 8 (by kernel_rfl)
      rw [if_pos (wanted_no rfl)]
      go_simp
      refine (C2.out W (bA.out.trans ((below_undrew N.le).mono bA.out.size))).mono ?_
      rintro e w4 ⟨v4, rfl, ho, b4⟩
      refine hK _ _ b4 ?_
      exact ownK_lower ho (bA.out.trans ((below_undrew N.le).mono bA.out.size)).size
    refine ⟨?_, ?_⟩
    · intro a W K N hK
      have e1 : a.tmps[1]?.getD undef = .pointer (some ⟨w.heap.size, 0, none⟩) := N.was' 1 _ (by kernel_rfl) rfl
      rw [if_pos (wanted_no rfl)]
      go_simp
      refine hK _ _ (slotLe_refl _) ?_
      exact rfl
    refine ⟨?_, ?_⟩
    · intro a W K N hK
      have e10 : a.tmps[10]?.getD undef = _ := N.dep' 6 10 (by kernel_rfl)
      rw [if_pos (wanted_no rfl)]
      have z := keep_cell N.le d11.out
      go_simp
      refine hK _ _ (slotLe_refl _) ?_
      exact rfl
    refine ⟨?_, ?_⟩
    · intro a W K N hK
      have e11 : a.tmps[11]?.getD undef = _ := N.dep' 7 11 (by kernel_rfl)
      rw [if_pos (wanted_no rfl)]
      go_simp
      refine (C3.out W (bA.out.trans ((below_undrew N.le).mono bA.out.size))).mono ?_
      rintro e w4 ⟨v4, rfl, ho, b4⟩
      refine hK _ _ b4 ?_
      exact ownK_lower ho (bA.out.trans ((below_undrew N.le).mono bA.out.size)).size
    refine ⟨?_, ?_⟩
    · intro a W K N hK
      have e6 := Lib.hid (show (fun v W' => OwnK encRR 5 45 w.heap.size v m.an W') (a.tmps[6]?.getD undef) W from N.dep' 2 6 (by kernel_rfl))
      have e9 := Lib.hid (show (fun v W' => OwnK encRR 5 45 w.heap.size v m.ns W') (a.tmps[9]?.getD undef) W from N.dep' 5 9 (by kernel_rfl))
      have e12 := Lib.hid (show (fun v W' => OwnK encRR 5 45 w.heap.size v m.ad W') (a.tmps[12]?.getD undef) W from N.dep' 8 12 (by kernel_rfl))
      rw [if_pos (wanted_no rfl)]
      obtain ⟨ao6, cap6, q6, _⟩ := ownK_form e6.out
      obtain ⟨ao9, cap9, q9, _⟩ := ownK_form e9.out
      obtain ⟨ao12, cap12, q12, _⟩ := ownK_form e12.out
      rw [q6] at e6
      rw [q9] at e9
      rw [q12] at e12
      go_simp
      refine hK _ _ (slotLe_refl _) ?_
      exact ⟨_, _, _, rfl, e6.out, e9.out, e12.out⟩
    refine ⟨?_, ?_⟩
    · intro a W K N hK
      rw [if_pos (wanted_no rfl)]
      go_simp
      refine hK _ _ ((Below.refl _ _).alloc (Nat.le_refl _) _) ?_
      exact ⟨_, rfl, by have := (below_undrew N.le).size; simp at this; omega, _, _, _, Block.new _ _ _⟩
    exact trivial
  case fin =>
    intro V hV
    simp only [FinAll, slotPhi, List.dropLast, List.getLast_cons_cons, List.getLast_singleton, List.getD_cons_zero, List.getD_cons_succ, forall_eq, Act.put, List.setIfInBounds_toArray, List.set_cons_zero, List.set_cons_succ]
    intro v6 h6
    intro v9 h9
    intro v12 h12
    intro v13 h13
    intro v3 h3
    have bV := Lib.hid (bA.out.trans ((below_undrew hV).mono bA.out.size))
    obtain ⟨x, y, z, rfl, o1, o2, o3⟩ := h13
    obtain ⟨B, rfl, hB, x0, y0, z0, hBl⟩ := h3
    obtain ⟨ao1, cp1, q1, _⟩ := ownK_form o1
    obtain ⟨ao2, cp2, q2, _⟩ := ownK_form o2
    obtain ⟨ao3, cp3, q3, _⟩ := ownK_form o3
    have k0 := hBl.cell (i := 0) (v := x0) rfl
    have k1 := hBl.cell (i := 1) (v := y0) rfl
    have k2 := hBl.cell (i := 2) (v := z0) rfl
    have fz := fun i => hBl.frozen i
    rw [q1] at o1 ⊢
    rw [q2] at o2 ⊢
    rw [q3] at o3 ⊢
    have O1 := Lib.hid o1
    have O2 := Lib.hid o2
    have O3 := Lib.hid o3
    have HBL := Lib.hid hBl
    clear o1 o2 o3 hBl hV
    go_wp2_with fail
    go_ret
    have b1 := HBL.out.set 0 (.slice ao1 m.an.length cp1)
    have b2 := b1.set 1 (.slice ao2 m.ns.length cp2)
    have b3 := b2.set 2 (.slice ao3 m.ad.length cp3)
    exact ⟨B, _, _, _, rfl, by omega, b3, ownK_beside (ownK_beside (ownK_beside O1.out HBL.out (by decide) _ _) b1 (by decide) _ _) b2 (by decide) _ _, ownK_beside (ownK_beside (ownK_beside O2.out HBL.out (by decide) _ _) b1 (by decide) _ _) b2 (by decide) _ _, ownK_beside (ownK_beside (ownK_beside O3.out HBL.out (by decide) _ _) b1 (by decide) _ _) b2 (by decide) _ _, ((bV.out.set_above (by omega) _ _).set_above (by omega) _ _).set_above (by omega) _ _⟩
end Go.Proofs.Ytfmghbmbahembaa

/- The iterator over a message's records. -/
namespace Go.Proofs.Ytfmghbmbahembaa
open Go.RowKit Go.Shelf Go.Maps
attribute [local go_sem] Oper.semAt_some

namespace Ms
def rowsOf (i : Nat) (l : List Rd.RR) : List (Nat × Rd.RR) := l.map fun r => (i, r)
def rows (m : M) : List (Nat × Rd.RR) := (([] ++ rowsOf 0 m.an) ++ rowsOf 1 m.ns) ++ rowsOf 2 m.ad
theorem rowsOf_step (P : List (Nat × Rd.RR)) (i : Nat) {L : List Rd.RR} {k : Nat} (hk : k < L.length) : (P ++ rowsOf i (L.take k)) ++ [(i, L[k])] = P ++ rowsOf i (L.take (k + 1)) := by
  unfold rowsOf
  rw [List.take_succ_eq_append_getElem hk, List.map_append, List.append_assoc]
  rfl
theorem rowsOf_pre (P : List (Nat × Rd.RR)) (i : Nat) (L : List Rd.RR) (k : Nat) {R : List (Nat × Rd.RR)} (h : P ++ rowsOf i L <+: R) : P ++ rowsOf i (L.take k) <+: R := by
  refine List.IsPrefix.trans ?_ h
  rw [List.prefix_append_right_inj]
  exact (List.take_prefix k L).map _
theorem rowsOf_all (P : List (Nat × Rd.RR)) (i : Nat) (L : List Rd.RR) : P ++ rowsOf i (L.take L.length) = P ++ rowsOf i L := by rw [List.take_length]
end Ms
theorem readR_keep {v : Value} {l : List Rd.RR} {W W' : World} (h : ReadR v l W) (hc : ∀ a u, W.cell? a = some u → W'.cell? a = some u) : ReadR v l W' := by
  obtain ⟨ao, cap, rfl, hx⟩ := h.form
  exact ⟨ao, cap, rfl, fun j hj => by
    obtain ⟨g, off, e, c0, c1, c2, c3, c4⟩ := hx j hj
    exact ⟨g, off, e, hc _ _ c0, hc _ _ c1, hc _ _ c2, hc _ _ c3, hc _ _ c4⟩⟩
/-- Three lists lie as they lay. -/
structure KRs (m : Ms.M) (va vn vd : Value) (W W' : World) : Prop where
  an : ReadR va m.an W → ReadR va m.an W'
  ns : ReadR vn m.ns W → ReadR vn m.ns W'
  ad : ReadR vd m.ad W → ReadR vd m.ad W'
theorem krs_t {m : Ms.M} {va vn vd : Value} {A B C : World} (h : KRs m va vn vd A B) (k : KRs m va vn vd B C) : KRs m va vn vd A C := ⟨k.an ∘ h.an, k.ns ∘ h.ns, k.ad ∘ h.ad⟩
theorem krs_cells {m : Ms.M} {va vn vd : Value} {W W' : World} (hc : ∀ a u, W.cell? a = some u → W'.cell? a = some u) : KRs m va vn vd W W' := ⟨fun h => readR_keep h hc, fun h => readR_keep h hc, fun h => readR_keep h hc⟩
theorem krs_below {m : Ms.M} {va vn vd : Value} {W W' : World} (hb : Below W.heap.size W W') : KRs m va vn vd W W' := krs_cells fun _ _ h => keep_cell hb h
theorem krs_b {m : Ms.M} {va vn vd : Value} (W : World) (l : Nat) (o o' : Obj) (h : W.heap[l]? = some o) (hc : o.isCells = false) : KRs m va vn vd W (W.putObj l o') := krs_cells fun a u hu => by
  have hne : l ≠ a.block := fun e => by
    subst e
    unfold World.cell? at hu
    rw [h] at hu
    cases o <;> simp_all [Obj.isCells]
  unfold World.cell? at hu ⊢
  have : (W.putObj l o').heap[a.block]? = W.heap[a.block]? := by
    simp only [World.putObj]
    rw [Array.getElem?_setIfInBounds, if_neg hne]
  rw [this]
  exact hu

set_option maxRecDepth 100000 in
set_option maxHeartbeats 8000000 in
theorem iter_in (n l B : Nat) (hn : 1 ≤ n) (m : Ms.M) (va vn vd : Value) (J Jx : List (Nat × Rd.RR) → World → Prop) (W : World) (hJ : OwnBk W.heap.size J) (hs : Slim m)
    (hY : ∀ pre x W1, J pre W1 → pre ++ [x] <+: Ms.rows m → YieldAt Fence.wide (n - 1) Try.prog l #[.int .i64 (x.1 : Int), rrV x.2] W1 fun e W' =>
      (e = .returned (.bool true) ∧ J (pre ++ [x]) W' ∧ KRs m va vn vd W1 W') ∨ (e = .returned (.bool false) ∧ Jx (pre ++ [x]) W'))
    (hB : Block W B #[va, vn, vd] 69) (ha : ReadR va m.an W) (hns : ReadR vn m.ns W) (had : ReadR vd m.ad W) (h0 : J [] W) :
    CallsIn Fence.wide n Try.prog 47 #[.func (.yield l) #[] #[], .pointer (some ⟨B, 0, none⟩)] W fun e W' => (∃ v, e = .returned v) ∧
      ((∃ ys, ys = Ms.rows m ∧ J ys W') ∨ (∃ pre, pre <+: Ms.rows m ∧ Jx pre W')) := by
  have hJb : ∀ {pre : List (Nat × Rd.RR)} {W1 W2 : World}, J pre W1 → Below W1.heap.size W1 W2 → J pre W2 := fun h hb => hJ _ _ _ none h ⟨hb.os, hb.tape, hb.output, hb.size, fun k hk _ => hb.block k hk⟩ (fun r e => by cases e)
  have k0 := hB.cell (i := 0) (v := va) rfl
  have k1 := hB.cell (i := 1) (v := vn) rfl
  have k2 := hB.cell (i := 2) (v := vd) rfl
  have hla := hs.an.len
  have hln := hs.ns.len
  have hld := hs.ad.len
  obtain ⟨aa, ca, rfl, _⟩ := ha.form
  obtain ⟨an, cn, rfl, _⟩ := hns.form
  obtain ⟨ad, cd, rfl, _⟩ := had.form
  have hp0 : [] ++ Ms.rowsOf 0 m.an <+: Ms.rows m := ⟨Ms.rowsOf 1 m.ns ++ Ms.rowsOf 2 m.ad, by unfold Ms.rows; simp only [List.append_assoc]⟩
  have hp1 : ([] ++ Ms.rowsOf 0 m.an) ++ Ms.rowsOf 1 m.ns <+: Ms.rows m := ⟨Ms.rowsOf 2 m.ad, rfl⟩
  have hp2 : (([] ++ Ms.rowsOf 0 m.an) ++ Ms.rowsOf 1 m.ns) ++ Ms.rowsOf 2 m.ad <+: Ms.rows m := List.prefix_rfl
  have hp3 : (([] ++ Ms.rowsOf 0 m.an) ++ Ms.rowsOf 1 m.ns) ++ Ms.rowsOf 2 m.ad = Ms.rows m := rfl
  obtain ⟨P0, hP0⟩ : ∃ P, ([] : List (Nat × Rd.RR)) = P := ⟨_, rfl⟩
  rw [hP0] at hp0 hp1 hp2 hp3 h0
  obtain ⟨P1, hP1⟩ : ∃ P, P0 ++ Ms.rowsOf 0 m.an = P := ⟨_, rfl⟩
  rw [hP1] at hp1 hp2 hp3
  obtain ⟨P2, hP2⟩ : ∃ P, P1 ++ Ms.rowsOf 1 m.ns = P := ⟨_, rfl⟩
  rw [hP2] at hp2 hp3
  have HP0 := Lib.hid hp0
  have HP1 := Lib.hid hp1
  have HP2 := Lib.hid hp2
  have HP3 := Lib.hid hp3
  have E1 := Lib.hid hP1
  have E2 := Lib.hid hP2
  have HY := Lib.hid hY
  clear hp0 hp1 hp2 hp3 hP0 hP1 hP2 hY hB
  have HA := Lib.hid ha
  have HN := Lib.hid hns
  have HD := Lib.hid had
  clear ha hns had
  refine callsIn_of_wp Try.func47 rfl trivial ?_ rfl
  simp only [Try.ntmps47, List.size_toArray, List.length_cons, List.length_nil, Nat.reduceAdd, Nat.reduceSub, Array.replicate_succ, Array.replicate_zero, List.push_toArray, List.append_toArray, List.nil_append, List.cons_append]
  gi_wp2_with fail
  gi_loopw [8] (fun p wr => ∃ i : Nat, p = .int .i64 (i : Int) ∧ Hid ((i = 0 ∧ J P0 wr) ∨ (i = 1 ∧ J P1 wr) ∨ (i = 2 ∧ J P2 wr) ∨ (i = 3 ∧ J (Ms.rows m) wr)) ∧ Hid (ReadR (.slice aa m.an.length ca) m.an wr) ∧ Hid (ReadR (.slice an m.ns.length cn) m.ns wr) ∧ Hid (ReadR (.slice ad m.ad.length cd) m.ad wr)) (fun p _ => 4 - (intOf p).toNat)
  case atStart => exact ⟨0, rfl, Lib.hid (.inl ⟨rfl, h0⟩), HA, HN, HD⟩
  case round =>
    clear HA HN HD h0
    obtain ⟨i, rfl, hi, HA, HN, HD⟩ := hrel
    rcases hi.out with ⟨rfl, hj⟩ | ⟨rfl, hj⟩ | ⟨rfl, hj⟩ | ⟨rfl, hj⟩
    · clear hi
      simp only [show ((0 : Nat) : Int) = 0 from rfl]
      have ix := fun W => idx_s0 W (.slice aa m.an.length ca) (.slice an m.ns.length cn) (.slice ad m.ad.length cd)
      have HJ0 := Lib.hid hj
      clear hj
      gi_wp2_with fail
      clear ix
      gi_loopw [14] (fun q wr => ∃ k : Nat, q = .int .i64 (k : Int) ∧ k ≤ m.an.length ∧ Hid (J (P0 ++ Ms.rowsOf 0 (m.an.take k)) wr) ∧ Hid (ReadR (.slice aa m.an.length ca) m.an wr) ∧ Hid (ReadR (.slice an m.ns.length cn) m.ns wr) ∧ Hid (ReadR (.slice ad m.ad.length cd) m.ad wr)) (fun q _ => m.an.length + 1 - (intOf q).toNat)
      case atStart => exact ⟨0, rfl, by omega, Lib.hid (by simpa [Ms.rowsOf] using HJ0.out), HA, HN, HD⟩
      case round =>
        clear HJ0 HA HN HD
        obtain ⟨k, rfl, hk, HJ, HA, HN, HD⟩ := hrel
        by_cases hlt : k < m.an.length
        · obtain ⟨g, off, rfl, x0, x1, x2, x3, x4⟩ := readR_at HA.out hlt
          have hst := Ms.rowsOf_step P0 0 hlt
          have hpr := Ms.rowsOf_pre P0 0 m.an (k + 1) HP0.out
          rw [← hst] at hpr
          obtain ⟨⟨pn, pt, pc, pl, pd⟩, hpq⟩ : ∃ x, m.an[k] = x := ⟨_, rfl⟩
          rw [hpq] at x0 x1 x2 x3 x4 hst hpr
          simp only at x0 x1 x2 x3 x4
          clear hpq
          have hbA := (Below.refl wr.heap.size wr).alloc (Nat.le_refl _) (.cells #[.string ⟨pn.toArray⟩, .int .i64 pt, .int .i64 pc, .int .i64 pl, .string ⟨pd.toArray⟩] 45)
          obtain ⟨fn, tmps, assign, body, hyy, hR⟩ := HY.out _ (0, ⟨pn, pt, pc, pl, pd⟩) _ (hJb HJ.out hbA) hpr
          rw [hst] at hR
          have HA' := Lib.hid (readR_below HA.out hbA)
          have HN' := Lib.hid (readR_below HN.out hbA)
          have HD' := Lib.hid (readR_below HD.out hbA)
          clear hst hpr hbA HJ HA HN HD
          simp only [rrV, show ((0 : Nat) : Int) = 0 from rfl] at hyy
          gi_wp2_with fail
          refine hR.mono ?_
          rintro e1 W3 (⟨rfl, hJ3, hk3⟩ | ⟨rfl, hJx3⟩)
          · have HJ3 := Lib.hid hJ3
            have HA3 := Lib.hid (hk3.an HA'.out)
            have HN3 := Lib.hid (hk3.ns HN'.out)
            have HD3 := Lib.hid (hk3.ad HD'.out)
            clear hJ3 hk3
            gi_wp2_with fail
            go_roundw
            case rel => exact ⟨k + 1, by go_num, by omega, HJ3, HA3, HN3, HD3⟩
            case measure => simp [intOf]; omega
          · have HJx := Lib.hid hJx3
            clear hJx3
            gi_wp2_with fail
            refine bodyPost_ret (results_none rfl _ _ _) rfl ?_
            exact ⟨⟨_, rfl⟩, .inr ⟨_, Ms.rowsOf_pre P0 0 m.an (k + 1) HP0.out, HJx.out⟩⟩
        · obtain rfl : k = m.an.length := by omega
          have HJ4 := HJ.out
          rw [Ms.rowsOf_all, E1.out] at HJ4
          have HJ5 := Lib.hid HJ4
          clear HJ HJ4
          gi_wp2_with fail
          go_roundw
          case rel => exact ⟨0 + 1, by go_num, Lib.hid (.inr (.inl ⟨rfl, HJ5.out⟩)), HA, HN, HD⟩
          case measure => simp [intOf]
    · clear hi
      simp only [show ((1 : Nat) : Int) = 1 from rfl]
      have ix := fun W => idx_s1 W (.slice aa m.an.length ca) (.slice an m.ns.length cn) (.slice ad m.ad.length cd)
      have HJ0 := Lib.hid hj
      clear hj
      gi_wp2_with fail
      clear ix
      gi_loopw [14] (fun q wr => ∃ k : Nat, q = .int .i64 (k : Int) ∧ k ≤ m.ns.length ∧ Hid (J (P1 ++ Ms.rowsOf 1 (m.ns.take k)) wr) ∧ Hid (ReadR (.slice aa m.an.length ca) m.an wr) ∧ Hid (ReadR (.slice an m.ns.length cn) m.ns wr) ∧ Hid (ReadR (.slice ad m.ad.length cd) m.ad wr)) (fun q _ => m.ns.length + 1 - (intOf q).toNat)
      case atStart => exact ⟨0, rfl, by omega, Lib.hid (by simpa [Ms.rowsOf] using HJ0.out), HA, HN, HD⟩
      case round =>
        clear HJ0 HA HN HD
        obtain ⟨k, rfl, hk, HJ, HA, HN, HD⟩ := hrel
        by_cases hlt : k < m.ns.length
        · obtain ⟨g, off, rfl, x0, x1, x2, x3, x4⟩ := readR_at HN.out hlt
          have hst := Ms.rowsOf_step P1 1 hlt
          have hpr := Ms.rowsOf_pre P1 1 m.ns (k + 1) HP1.out
          rw [← hst] at hpr
          obtain ⟨⟨pn, pt, pc, pl, pd⟩, hpq⟩ : ∃ x, m.ns[k] = x := ⟨_, rfl⟩
          rw [hpq] at x0 x1 x2 x3 x4 hst hpr
          simp only at x0 x1 x2 x3 x4
          clear hpq
          have hbA := (Below.refl wr.heap.size wr).alloc (Nat.le_refl _) (.cells #[.string ⟨pn.toArray⟩, .int .i64 pt, .int .i64 pc, .int .i64 pl, .string ⟨pd.toArray⟩] 45)
          obtain ⟨fn, tmps, assign, body, hyy, hR⟩ := HY.out _ (1, ⟨pn, pt, pc, pl, pd⟩) _ (hJb HJ.out hbA) hpr
          rw [hst] at hR
          have HA' := Lib.hid (readR_below HA.out hbA)
          have HN' := Lib.hid (readR_below HN.out hbA)
          have HD' := Lib.hid (readR_below HD.out hbA)
          clear hst hpr hbA HJ HA HN HD
          simp only [rrV, show ((1 : Nat) : Int) = 1 from rfl] at hyy
          gi_wp2_with fail
          refine hR.mono ?_
          rintro e1 W3 (⟨rfl, hJ3, hk3⟩ | ⟨rfl, hJx3⟩)
          · have HJ3 := Lib.hid hJ3
            have HA3 := Lib.hid (hk3.an HA'.out)
            have HN3 := Lib.hid (hk3.ns HN'.out)
            have HD3 := Lib.hid (hk3.ad HD'.out)
            clear hJ3 hk3
            gi_wp2_with fail
            go_roundw
            case rel => exact ⟨k + 1, by go_num, by omega, HJ3, HA3, HN3, HD3⟩
            case measure => simp [intOf]; omega
          · have HJx := Lib.hid hJx3
            clear hJx3
            gi_wp2_with fail
            refine bodyPost_ret (results_none rfl _ _ _) rfl ?_
            exact ⟨⟨_, rfl⟩, .inr ⟨_, Ms.rowsOf_pre P1 1 m.ns (k + 1) HP1.out, HJx.out⟩⟩
        · obtain rfl : k = m.ns.length := by omega
          have HJ4 := HJ.out
          rw [Ms.rowsOf_all, E2.out] at HJ4
          have HJ5 := Lib.hid HJ4
          clear HJ HJ4
          gi_wp2_with fail
          go_roundw
          case rel => exact ⟨1 + 1, by go_num, Lib.hid (.inr (.inr (.inl ⟨rfl, HJ5.out⟩))), HA, HN, HD⟩
          case measure => simp [intOf]
    · clear hi
      simp only [show ((2 : Nat) : Int) = 2 from rfl]
      have ix := fun W => idx_s2 W (.slice aa m.an.length ca) (.slice an m.ns.length cn) (.slice ad m.ad.length cd)
      have HJ0 := Lib.hid hj
      clear hj
      gi_wp2_with fail
      clear ix
      gi_loopw [14] (fun q wr => ∃ k : Nat, q = .int .i64 (k : Int) ∧ k ≤ m.ad.length ∧ Hid (J (P2 ++ Ms.rowsOf 2 (m.ad.take k)) wr) ∧ Hid (ReadR (.slice aa m.an.length ca) m.an wr) ∧ Hid (ReadR (.slice an m.ns.length cn) m.ns wr) ∧ Hid (ReadR (.slice ad m.ad.length cd) m.ad wr)) (fun q _ => m.ad.length + 1 - (intOf q).toNat)
      case atStart => exact ⟨0, rfl, by omega, Lib.hid (by simpa [Ms.rowsOf] using HJ0.out), HA, HN, HD⟩
      case round =>
        clear HJ0 HA HN HD
        obtain ⟨k, rfl, hk, HJ, HA, HN, HD⟩ := hrel
        by_cases hlt : k < m.ad.length
        · obtain ⟨g, off, rfl, x0, x1, x2, x3, x4⟩ := readR_at HD.out hlt
          have hst := Ms.rowsOf_step P2 2 hlt
          have hpr := Ms.rowsOf_pre P2 2 m.ad (k + 1) HP2.out
          rw [← hst] at hpr
          obtain ⟨⟨pn, pt, pc, pl, pd⟩, hpq⟩ : ∃ x, m.ad[k] = x := ⟨_, rfl⟩
          rw [hpq] at x0 x1 x2 x3 x4 hst hpr
          simp only at x0 x1 x2 x3 x4
          clear hpq
          have hbA := (Below.refl wr.heap.size wr).alloc (Nat.le_refl _) (.cells #[.string ⟨pn.toArray⟩, .int .i64 pt, .int .i64 pc, .int .i64 pl, .string ⟨pd.toArray⟩] 45)
          obtain ⟨fn, tmps, assign, body, hyy, hR⟩ := HY.out _ (2, ⟨pn, pt, pc, pl, pd⟩) _ (hJb HJ.out hbA) hpr
          rw [hst] at hR
          have HA' := Lib.hid (readR_below HA.out hbA)
          have HN' := Lib.hid (readR_below HN.out hbA)
          have HD' := Lib.hid (readR_below HD.out hbA)
          clear hst hpr hbA HJ HA HN HD
          simp only [rrV, show ((2 : Nat) : Int) = 2 from rfl] at hyy
          gi_wp2_with fail
          refine hR.mono ?_
          rintro e1 W3 (⟨rfl, hJ3, hk3⟩ | ⟨rfl, hJx3⟩)
          · have HJ3 := Lib.hid hJ3
            have HA3 := Lib.hid (hk3.an HA'.out)
            have HN3 := Lib.hid (hk3.ns HN'.out)
            have HD3 := Lib.hid (hk3.ad HD'.out)
            clear hJ3 hk3
            gi_wp2_with fail
            go_roundw
            case rel => exact ⟨k + 1, by go_num, by omega, HJ3, HA3, HN3, HD3⟩
            case measure => simp [intOf]; omega
          · have HJx := Lib.hid hJx3
            clear hJx3
            gi_wp2_with fail
            refine bodyPost_ret (results_none rfl _ _ _) rfl ?_
            exact ⟨⟨_, rfl⟩, .inr ⟨_, Ms.rowsOf_pre P2 2 m.ad (k + 1) HP2.out, HJx.out⟩⟩
        · obtain rfl : k = m.ad.length := by omega
          have HJ4 := HJ.out
          rw [Ms.rowsOf_all, HP3.out] at HJ4
          have HJ5 := Lib.hid HJ4
          clear HJ HJ4
          gi_wp2_with fail
          go_roundw
          case rel => exact ⟨2 + 1, by go_num, Lib.hid (.inr (.inr (.inr ⟨rfl, HJ5.out⟩))), HA, HN, HD⟩
          case measure => simp [intOf]
    · have HJ := Lib.hid hj
      clear hj hi
      simp only [show ((3 : Nat) : Int) = 3 from rfl]
      gi_wp2_with fail
      go_end0
      exact ⟨⟨_, rfl⟩, .inl ⟨_, rfl, HJ.out⟩⟩
theorem recs_stops (n : Nat) (hn : 1 ≤ n) (B : Nat) (m : Ms.M) (va vn vd : Value) (hs : Slim m) (w : World) (hB : Block w B #[va, vn, vd] 69) (ha : ReadR va m.an w) (hns : ReadR vn m.ns w) (had : ReadR vd m.ad w) (N : Nat) (hN : (Ms.rows m).length ≤ N) :
    SeqStopsB Fence.wide n Try.prog 47 #[.pointer (some ⟨B, 0, none⟩)] (fun x : Nat × Rd.RR => #[Value.int .i64 (x.1 : Int), rrV x.2]) (KRs m va vn vd) (fun ys => ys = Ms.rows m) (fun pre => pre <+: Ms.rows m) N w :=
  fun l J Jx W hW hJ _ hY h0 => iter_in n l B hn m va vn vd J Jx W hJ hs (fun pre x W1 h1 hp => by
    obtain ⟨fn, tmps, assign, body, hy, hR⟩ := hY pre x W1 h1 (by have := hp.length_le; simp at this; omega) hp
    exact ⟨fn, tmps, assign, body, hy, hR.mono fun e W' h => h.imp (fun h => ⟨h.1, h.2.1, h.2.2.1⟩) (fun h => ⟨h.1, h.2.1⟩)⟩) (hB.below hW) (readR_below ha hW) (readR_below hns hW) (readR_below had hW) h0
end Go.Proofs.Ytfmghbmbahembaa

/- writeData: a record's data, its names written as names. -/
namespace Go.Proofs.Ytfmghbmbahembaa
open Go.RowKit Go.Shelf Go.Maps
attribute [local go_sem] Oper.semAt_some

namespace Rd
def endOf (a : Nat) (ps : List (Nat × Nat)) : Nat := ps.foldl (fun _ p => p.1 + p.2) a
theorem endOf_snoc (a : Nat) (ps : List (Nat × Nat)) (x : Nat × Nat) : endOf a (ps ++ [x]) = x.1 + x.2 := by unfold endOf; rw [List.foldl_append]; rfl
theorem run_chain (d : List UInt8) : ∀ (n a : Nat) {ps : List (Nat × Nat)} {e : Nat}, run d n a = some (ps, e) → ∀ pre x, pre ++ [x] <+: ps → x.1 = endOf a pre
  | 0, a, ps, e, h, pre, x, hp => by
    simp only [run, Option.some.injEq, Prod.mk.injEq] at h
    obtain ⟨rfl, _⟩ := h
    have := hp.length_le
    simp at this
  | n + 1, a, ps, e, h, pre, x, hp => by
    simp only [run] at h
    split at h
    · cases h
    · obtain ⟨y, hy, hye⟩ := Option.map_eq_some_iff.1 h
      simp only [Prod.mk.injEq] at hye
      obtain ⟨rfl, _⟩ := hye
      cases pre with
      | nil =>
        obtain ⟨r, hr⟩ := hp
        simp only [List.nil_append, List.cons_append, List.cons.injEq] at hr
        rw [hr.1]; rfl
      | cons p pre =>
        obtain ⟨r, hr⟩ := hp
        simp only [List.cons_append, List.cons.injEq] at hr
        obtain ⟨rfl, hr⟩ := hr
        exact run_chain d n _ hy pre x ⟨r, hr⟩
theorem partsD_chain {t : Int} {d : List UInt8} {pre : List (Nat × Nat)} {x : Nat × Nat} (h : pre ++ [x] <+: partsD t d) : endOf 0 pre ≤ x.1 ∧ x.1 + x.2 ≤ d.length := by
  refine ⟨?_, (prefix_bound h).2⟩
  unfold partsD parts at h
  have hnil : ∀ {q : List (Nat × Nat)}, q = [] → ¬ pre ++ [x] <+: q := fun hq hp => by subst hq; have := hp.length_le; simp at this
  split at h
  · exact absurd h (hnil rfl)
  · split at h
    · split at h <;> exact absurd h (hnil rfl)
    · cases hl : lay t with
      | none => rw [hl] at h; exact absurd h (hnil rfl)
      | some y =>
        obtain ⟨a, n, b⟩ := y
        rw [hl] at h
        simp only at h
        cases hr : run d n a with
        | none => rw [hr] at h; exact absurd h (hnil rfl)
        | some z =>
          obtain ⟨ps, e⟩ := z
          rw [hr] at h
          simp only at h
          split at h
          · have := run_chain d n a hr pre x h
            cases pre with
            | nil => exact Nat.zero_le _
            | cons p pre =>
              rw [this]
              exact Nat.le_refl _
          · exact absurd h (hnil rfl)
theorem endOf_le {t : Int} {d : List UInt8} : ∀ {pre : List (Nat × Nat)}, pre <+: partsD t d → endOf 0 pre ≤ d.length := fun {pre} h => by
  rcases List.eq_nil_or_concat pre with rfl | ⟨q, x, rfl⟩
  · exact Nat.zero_le _
  · rw [List.concat_eq_append] at h ⊢
    rw [endOf_snoc]
    exact (partsD_chain h).2
end Rd

/-- Where the walk over names stands. -/
structure WdAt (S : WS) (sq : Bool) (d : List UInt8) (ps pre : List (Nat × Nat)) (Sk : WS) : Prop where
  eq : ∃ rest, ps = pre ++ rest ∧ Ms.wParts sq d 0 ps S = Ms.wParts sq d (Rd.endOf 0 pre) rest Sk
  ok : TabOk Sk
  size : Sk.size ≤ S.size + Rd.endOf 0 pre
  tab : Sk.tab.length ≤ S.tab.length + Rd.endOf 0 pre
theorem WdAt.start (S : WS) (sq : Bool) (d : List UInt8) (ps : List (Nat × Nat)) (h : TabOk S) : WdAt S sq d ps [] S := ⟨⟨ps, rfl, rfl⟩, h, Nat.le_refl _, Nat.le_refl _⟩
theorem WdAt.next {S Sk : WS} {sq : Bool} {d : List UInt8} {ps pre : List (Nat × Nat)} {x : Nat × Nat} (h : WdAt S sq d ps pre Sk) (hp : pre ++ [x] <+: ps) (h1 : Rd.endOf 0 pre ≤ x.1) (h2 : x.1 + x.2 ≤ d.length) :
    WdAt S sq d ps (pre ++ [x]) ((Sk.put ((d.drop (Rd.endOf 0 pre)).take (x.1 - Rd.endOf 0 pre))).name ((d.drop x.1).take x.2) sq) := by
  obtain ⟨rest, he, hw⟩ := h.eq
  obtain ⟨r, hr⟩ := hp
  have hrest : rest = x :: r := by
    rw [he, List.append_assoc] at hr
    have := List.append_cancel_left hr
    simpa using this.symm
  subst hrest
  have hn := name_size_le (Sk.put ((d.drop (Rd.endOf 0 pre)).take (x.1 - Rd.endOf 0 pre))) ((d.drop x.1).take x.2) sq
  have hs := h.size
  have ht := h.tab
  have e1 : (Sk.put ((d.drop (Rd.endOf 0 pre)).take (x.1 - Rd.endOf 0 pre))).size = Sk.size + ((d.drop (Rd.endOf 0 pre)).take (x.1 - Rd.endOf 0 pre)).length := rfl
  have e2 : (Sk.put ((d.drop (Rd.endOf 0 pre)).take (x.1 - Rd.endOf 0 pre))).tab = Sk.tab := rfl
  rw [e1, e2] at hn
  simp only [List.length_take, List.length_drop] at hn
  refine ⟨⟨r, by rw [he]; simp, ?_⟩, tabOk_name (tabOk_put h.ok _) _ _, ?_, ?_⟩
  · rw [hw, Rd.endOf_snoc]; rfl
  · rw [Rd.endOf_snoc]; omega
  · rw [Rd.endOf_snoc]; omega
theorem WdAt.done {S Sk : WS} {sq : Bool} {d : List UInt8} {ps : List (Nat × Nat)} (h : WdAt S sq d ps ps Sk) : Ms.wParts sq d 0 ps S = Sk.put (d.drop (Rd.endOf 0 ps)) := by
  obtain ⟨rest, he, hw⟩ := h.eq
  have : rest = [] := by simpa using he
  subst this
  rw [hw]; rfl
def WdI (B : Nat) (S : WS) (sq : Bool) (d : List UInt8) (ps : List (Nat × Nat)) (f : Nat → Prop) (w : World) (Bb : Nat) (pre : List (Nat × Nat)) (W : World) : Prop :=
  ∃ Sk, WdAt S sq d ps pre Sk ∧ Boxed W Bb 3 (.int .i64 (Rd.endOf 0 pre : Int)) ∧ Turn f w W ∧ WrE B Sk (grow f w W) W
theorem wdI_own {B : Nat} {S : WS} {sq : Bool} {d : List UInt8} {ps : List (Nat × Nat)} {f : Nat → Prop} {w : World} {Bb base : Nat} (hb : w.heap.size ≤ base) : OwnBk base (WdI B S sq d ps f w Bb) := by
  rintro pre A C row ⟨Sk, hP, h1, ht, hw⟩ hg hr
  have hr' : ∀ r, row = some r → ∃ o : Obj, A.heap[r]? = some o ∧ isBook o = true := fun r e => (hr r e).2
  exact ⟨Sk, hP, boxed_book h1 hg hr', ht.grown hg (fun r e => by have := (hr r e).1; omega), (hw.book hg hr').widen fun k _ => grow_le hg.size k⟩
end Go.Proofs.Ytfmghbmbahembaa
