/- New. -/
import Derived.Test.YtkndbldjablhoaaDoorAnewh
import Derived.Test.YtkndbldjablhoaaDoorArel
import Derived.Test.YtkndbldjablhoaaDoorSlots
set_option maxRecDepth 100000
namespace Go.Proofs.YtkndbldjablhoaaDoor
open Go.RowKit Go.Shelf
namespace Ar
def newSt (B k : Nat) : St := ⟨List.replicate B 0, 0, List.replicate (k * 64) 0, List.replicate k 0, 0, ring0, 0⟩
end Ar
def NewMem (B n0 : Nat) (v : Value) (W : World) : Prop := ∃ M, v = .slice (some ⟨M, 0, none⟩) B B ∧ Blk W M (List.replicate B (.int .u8 0)) 5 ∧ n0 ≤ M
def NewHand (k n0 : Nat) (v : Value) (W : World) : Prop := ∃ P U, v = .agg #[.slice (some ⟨P, 0, none⟩) (k * 64) (k * 64), .slice (some ⟨U, 0, none⟩) k k, .int .i64 0] ∧ Blk W P (List.replicate (k * 64) (.int .i32 0)) 21 ∧ Blk W U (List.replicate k (.int .u64 0)) 87 ∧ n0 ≤ P ∧ n0 ≤ U
def NewRing (n0 : Nat) (v : Value) (W : World) : Prop := ∃ N, v = .agg #[.slice (some ⟨N, 0, none⟩) 17 17, .int .i64 0] ∧ Blk W N (encNs Ar.ring0) 99 ∧ n0 ≤ N
def NewAgg (B k n0 : Nat) (v : Value) (W : World) : Prop := ∃ M P U N, v = .agg #[.slice (some ⟨M, 0, none⟩) B B, .int .i64 0, .slice (some ⟨P, 0, none⟩) (k * 64) (k * 64), .slice (some ⟨U, 0, none⟩) k k, .int .i64 0, .slice (some ⟨N, 0, none⟩) 17 17, .int .i64 0] ∧ Blk W M (List.replicate B (.int .u8 0)) 5 ∧ Blk W P (List.replicate (k * 64) (.int .i32 0)) 21 ∧ Blk W U (List.replicate k (.int .u64 0)) 87 ∧ Blk W N (encNs Ar.ring0) 99 ∧ n0 ≤ M ∧ n0 ≤ P ∧ n0 ≤ U ∧ n0 ≤ N
def NewBox (B k n0 : Nat) (v : Value) (W : World) : Prop := ∃ A L, v = .pointer (some ⟨A, 0, none⟩) ∧ ArE A L (Ar.newSt B k) (fun j => n0 ≤ j ∧ j < W.heap.size) W
theorem Blk.sl {x y : World} {B : Nat} {l : List Value} {t : TypeId} (h : Blk x B l t) (hl : slotLe x y) : Blk y B l t := h.kept (hl.block _ h.lt)
theorem NewMem.below {B n0 : Nat} {v : Value} {x y : World} (h : NewMem B n0 v x) (hl : slotLe x y) : NewMem B n0 v y := by
  obtain ⟨M, e, b, z⟩ := h
  exact ⟨M, e, b.sl hl, z⟩
theorem NewHand.below {k n0 : Nat} {v : Value} {x y : World} (h : NewHand k n0 v x) (hl : slotLe x y) : NewHand k n0 v y := by
  obtain ⟨P, U, e, b, c, z⟩ := h
  exact ⟨P, U, e, b.sl hl, c.sl hl, z⟩
theorem NewRing.below {n0 : Nat} {v : Value} {x y : World} (h : NewRing n0 v x) (hl : slotLe x y) : NewRing n0 v y := by
  obtain ⟨M, e, b, z⟩ := h
  exact ⟨M, e, b.sl hl, z⟩
theorem NewAgg.below {B k n0 : Nat} {v : Value} {x y : World} (h : NewAgg B k n0 v x) (hl : slotLe x y) : NewAgg B k n0 v y := by
  obtain ⟨M, P, U, N, e, b1, b2, b3, b4, z⟩ := h
  exact ⟨M, P, U, N, e, b1.sl hl, b2.sl hl, b3.sl hl, b4.sl hl, z⟩
theorem NewBox.below {B k n0 : Nat} {v : Value} {x y : World} (h : NewBox B k n0 v x) (hl : slotLe x y) : NewBox B k n0 v y := by
  obtain ⟨A, L, e, b⟩ := h
  exact ⟨A, L, e, (ArE.below b hl).wide (fun _ e => ⟨e.1, Nat.lt_of_lt_of_le e.2 hl.size⟩) (fun _ e => e.2)⟩
theorem NewMem.made {B n0 : Nat} {W : World} (h : n0 ≤ W.heap.size) : NewMem B n0 (.slice (some ⟨W.heap.size, 0, none⟩) B B) (W.alloc (.cells (List.replicate B (.int .u8 0)).toArray 5)) := ⟨_, rfl, Blk.new W _ _, h⟩
theorem HandRet.phi {k : Nat} {w w' : World} {e : Ending} (h : HandRet k w e w') : ∃ v, e = .returned v ∧ (∀ n0, n0 ≤ w.heap.size → NewHand k n0 v w') ∧ Below w.heap.size w w' := by
  obtain ⟨P, U, e, b, c, z1, z2, hb⟩ := h
  exact ⟨_, e, fun n0 h0 => ⟨P, U, rfl, b, c, by omega, by omega⟩, hb⟩
theorem RingRet.phi {w w' : World} {e : Ending} (h : RingRet w e w') : ∃ v, e = .returned v ∧ (∀ n0, n0 ≤ w.heap.size → NewRing n0 v w') ∧ Below w.heap.size w w' := by
  obtain ⟨N, e, b, z1, hb⟩ := h
  exact ⟨_, e, fun n0 h0 => ⟨N, rfl, b, by omega⟩, hb⟩
theorem NewBox.made {B k n0 : Nat} {W : World} {M P U N : Nat} (h : n0 ≤ W.heap.size) (b1 : Blk W M (List.replicate B (.int .u8 0)) 5) (b2 : Blk W P (List.replicate (k * 64) (.int .i32 0)) 21) (b3 : Blk W U (List.replicate k (.int .u64 0)) 87) (b4 : Blk W N (encNs Ar.ring0) 99) (z1 : n0 ≤ M) (z2 : n0 ≤ P) (z3 : n0 ≤ U) (z4 : n0 ≤ N) :
    NewBox B k n0 (.pointer (some ⟨W.heap.size, 0, none⟩)) (W.alloc (.cells #[.slice (some ⟨M, 0, none⟩) B B, .int .i64 0, .slice (some ⟨P, 0, none⟩) (k * 64) (k * 64), .slice (some ⟨U, 0, none⟩) k k, .int .i64 0, .slice (some ⟨N, 0, none⟩) 17 17, .int .i64 0] 73)) := by
  have hs : (W.alloc (.cells #[.slice (some ⟨M, 0, none⟩) B B, .int .i64 0, .slice (some ⟨P, 0, none⟩) (k * 64) (k * 64), .slice (some ⟨U, 0, none⟩) k k, .int .i64 0, .slice (some ⟨N, 0, none⟩) 17 17, .int .i64 0] 73)).heap.size = W.heap.size + 1 := World.size_alloc _ _
  have l1 := b1.lt; have l2 := b2.lt; have l3 := b3.lt; have l4 := b4.lt
  refine ⟨W.heap.size, ⟨M, P, U, N, 17, []⟩, rfl, ?_, ?_, ?_, ?_, ?_, ?_, ?_, ?_, ?_, ?_, ?_, ?_, fun _ e => e.2⟩
  · have := Blk.new W [.slice (some ⟨M, 0, none⟩) B B, .int .i64 0, .slice (some ⟨P, 0, none⟩) (k * 64) (k * 64), .slice (some ⟨U, 0, none⟩) k k, .int .i64 0, .slice (some ⟨N, 0, none⟩) 17 17, .int .i64 0] 73
    unfold arBox Ar.newSt
    simp only [List.length_replicate]
    exact this
  · have := b1.alloc (.cells #[.slice (some ⟨M, 0, none⟩) B B, .int .i64 0, .slice (some ⟨P, 0, none⟩) (k * 64) (k * 64), .slice (some ⟨U, 0, none⟩) k k, .int .i64 0, .slice (some ⟨N, 0, none⟩) 17 17, .int .i64 0] 73)
    unfold Ar.newSt
    simp only [List.map_replicate]
    exact this
  · have := b2.alloc (.cells #[.slice (some ⟨M, 0, none⟩) B B, .int .i64 0, .slice (some ⟨P, 0, none⟩) (k * 64) (k * 64), .slice (some ⟨U, 0, none⟩) k k, .int .i64 0, .slice (some ⟨N, 0, none⟩) 17 17, .int .i64 0] 73)
    unfold Ar.newSt
    simp only [List.map_replicate]
    exact this
  · have := b3.alloc (.cells #[.slice (some ⟨M, 0, none⟩) B B, .int .i64 0, .slice (some ⟨P, 0, none⟩) (k * 64) (k * 64), .slice (some ⟨U, 0, none⟩) k k, .int .i64 0, .slice (some ⟨N, 0, none⟩) 17 17, .int .i64 0] 73)
    unfold Ar.newSt
    simp only [List.map_replicate]
    exact this
  · have := b4.alloc (.cells #[.slice (some ⟨M, 0, none⟩) B B, .int .i64 0, .slice (some ⟨P, 0, none⟩) (k * 64) (k * 64), .slice (some ⟨U, 0, none⟩) k k, .int .i64 0, .slice (some ⟨N, 0, none⟩) 17 17, .int .i64 0] 73)
    rw [show encNs (Ar.newSt B k).nd ++ [] = encNs Ar.ring0 by rw [List.append_nil]; rfl]
    exact this
  · show 0 + 3 * (Ar.ring 17).length = 3 * 17
    rw [Ar.ring_len]
  · show 17 ≤ maxLen
    unfold maxLen; omega
  · exact ⟨h, by rw [hs]; omega⟩
  · exact ⟨z1, by rw [hs]; show M < _; omega⟩
  · exact ⟨z2, by rw [hs]; show P < _; omega⟩
  · exact ⟨z3, by rw [hs]; show U < _; omega⟩
  · exact ⟨z4, by rw [hs]; show N < _; omega⟩
namespace Ar
/-- A new arena of so many bytes. -/
def new (B : Nat) : St := putFree (newSt B ((B / 16 + 63) / 64)) 0 (B / 16 * 16) 0
end Ar
def NewRet (B : Nat) (w : World) (e : Ending) (w' : World) : Prop := ∃ A L, e = .returned (.tuple #[.pointer (some ⟨A, 0, none⟩), .int .i64 0]) ∧ ArE A L (Ar.new B) (fun j => w.heap.size ≤ j ∧ j < w'.heap.size) w' ∧ Below w.heap.size w w'
set_option maxHeartbeats 4000000 in
theorem new_any (B : Nat) (w : World) (h1 : 1024 ≤ B) (h2 : B ≤ 1048576) : Calls Tryd.prog 11 #[.int .i64 (B : Int)] w (NewRet B w) := by
  obtain ⟨k, hk⟩ : ∃ k, k = (B / 16 + 63) / 64 := ⟨_, rfl⟩
  have HKK := Lib.hid hk
  have HMK := Lib.hid (make_one Tryd.underlying34 infoU8 (by omega) rfl (B : Int) B rfl (by omega))
  clear hk
  go_enter Tryd.func11, Tryd.ntmps11
  go_wp2
  refine wp_region_slots slotLe (slotPhi ((fun v _ => v = ?s11) :: (NewMem B w.heap.size) :: (fun v _ => v = ?s13) :: (fun v _ => v = ?s14) :: (NewHand k w.heap.size) :: (NewRing w.heap.size) :: (NewAgg B k w.heap.size) :: (NewBox B k w.heap.size) :: (NewBox B k w.heap.size) :: [])) slotLe_refl slotLe_trans (slotPhi_stable ?stb) (by kernel_rfl) (by kernel_rfl) (by kernel_rfl) ?steps ?fin
  case stb =>
    refine ⟨by intro _ _ _ _ h; exact h, ?_⟩
    refine ⟨fun _ _ _ h q => NewMem.below q h, ?_⟩
    refine ⟨by intro _ _ _ _ h; exact h, ?_⟩
    refine ⟨by intro _ _ _ _ h; exact h, ?_⟩
    refine ⟨fun _ _ _ h q => NewHand.below q h, ?_⟩
    refine ⟨fun _ _ _ h q => NewRing.below q h, ?_⟩
    refine ⟨fun _ _ _ h q => NewAgg.below q h, ?_⟩
    refine ⟨fun _ _ _ h q => NewBox.below q h, ?_⟩
    refine ⟨fun _ _ _ h q => NewBox.below q h, ?_⟩
    exact trivial
  case steps =>
    refine ⟨?_, ?_⟩
    · intro a W K N hK
      have e0 : a.tmps[0]?.getD undef = .int .i64 (B : Int) := N.was' 0 _ (by kernel_rfl) rfl
      rw [if_pos (wanted_no rfl)]
      go_simp
      refine hK _ _ (slotLe_refl _) ?_
      exact rfl
    refine ⟨?_, ?_⟩
    · intro a W K N hK
      have e11 : a.tmps[11]?.getD undef = _ := N.dep' 0 11 (by kernel_rfl)
      rw [if_pos (wanted_no rfl)]
      have hmk := HMK.out
      go_simp
      refine hK _ _ ((RowKit.Below.refl _ W).alloc (Nat.le_refl _) _) ?_
      exact NewMem.made N.le.size
    refine ⟨?_, ?_⟩
    · intro a W K N hK
      have e0 : a.tmps[0]?.getD undef = .int .i64 (B : Int) := N.was' 0 _ (by kernel_rfl) rfl
      rw [if_pos (wanted_no rfl)]
      go_simp
      refine hK _ _ (slotLe_refl _) ?_
      exact rfl
    refine ⟨?_, ?_⟩
    · intro a W K N hK
      have e13 : a.tmps[13]?.getD undef = _ := N.dep' 2 13 (by kernel_rfl)
      rw [if_pos (wanted_no rfl)]
      go_simp
      refine hK _ _ (slotLe_refl _) ?_
      exact rfl
    refine ⟨?_, ?_⟩
    · intro a W K N hK
      have e14 : a.tmps[14]?.getD undef = _ := N.dep' 3 14 (by kernel_rfl)
      rw [if_pos (wanted_no rfl)]
      go_simp
      refine (newHandles_any _ (B / 16) k _ (by rw [IntKind.wrap_i64]; omega) (by omega) HKK.out).mono ?_
      rintro e w4 h4
      obtain ⟨v4, rfl, q4, b4⟩ := h4.phi
      refine hK _ _ b4 ?_
      exact q4 _ N.le.size
    refine ⟨?_, ?_⟩
    · intro a W K N hK
      rw [if_pos (wanted_no rfl)]
      go_simp
      refine (newChains_any _).mono ?_
      rintro e w4 h4
      obtain ⟨v4, rfl, q4, b4⟩ := h4.phi
      refine hK _ _ b4 ?_
      exact q4 _ N.le.size
    refine ⟨?_, ?_⟩
    · intro a W K N hK
      have e12 := Lib.hid (show (NewMem B w.heap.size) (a.tmps[12]?.getD undef) W from N.dep' 1 12 (by kernel_rfl))
      have e15 := Lib.hid (show (NewHand k w.heap.size) (a.tmps[15]?.getD undef) W from N.dep' 4 15 (by kernel_rfl))
      have e16 := Lib.hid (show (NewRing w.heap.size) (a.tmps[16]?.getD undef) W from N.dep' 5 16 (by kernel_rfl))
      rw [if_pos (wanted_no rfl)]
      obtain ⟨M, q12, b12, z12⟩ := e12.out
      obtain ⟨P, U, q15, b15, b15', z15, z15'⟩ := e15.out
      obtain ⟨NN, q16, b16, z16⟩ := e16.out
      go_simp
      refine hK _ _ (slotLe_refl _) ?_
      exact ⟨M, P, U, NN, rfl, b12, b15, b15', b16, z12, z15, z15', z16⟩
    refine ⟨?_, ?_⟩
    · intro a W K N hK
      have e17 := Lib.hid (show (NewAgg B k w.heap.size) (a.tmps[17]?.getD undef) W from N.dep' 6 17 (by kernel_rfl))
      rw [if_pos (wanted_no rfl)]
      obtain ⟨M, P, U, NN, q17, b12, b15, b15', b16, z12, z15, z15', z16⟩ := e17.out
      go_simp
      refine hK _ _ ((RowKit.Below.refl _ W).alloc (Nat.le_refl _) _) ?_
      exact NewBox.made N.le.size b12 b15 b15' b16 z12 z15 z15' z16
    refine ⟨?_, ?_⟩
    · intro a W K N hK
      have e18 := Lib.hid (show (NewBox B k w.heap.size) (a.tmps[18]?.getD undef) W from N.dep' 7 18 (by kernel_rfl))
      rw [if_pos (wanted_no rfl)]
      obtain ⟨AA, LL, q18, b18⟩ := e18.out
      go_simp
      refine hK _ _ (slotLe_refl _) ?_
      exact ⟨AA, LL, rfl, b18⟩
    exact trivial
  case fin =>
    intro V hV
    simp only [FinAll, slotPhi, List.getD_cons_zero, List.getD_cons_succ, forall_eq, Act.put, List.setIfInBounds_toArray, List.set_cons_zero, List.set_cons_succ]
    intro v12 _ v15 _ v16 _ v17 _ v18 _ v4 h4
    obtain ⟨A, L, rfl, hA⟩ := h4
    have HV := Lib.hid (below_undrew hV)
    have HA := Lib.hid hA
    have hmB : (Ar.newSt B k).mem.length = B := by simp [Ar.newSt]
    have HMB := Lib.hid hmB
    have HF : Hid (Ar.fin (Ar.newSt B k) = B / 16 * 16) := Lib.hid (by unfold Ar.fin; rw [hmB])
    have hcl := (Ar.cls_spec (s := B / 16 * 16) (by omega) (by omega)).2.2
    have HR : Hid (Ar.cls (B / 16 * 16) < (Ar.newSt B k).nd.length ∧ (Ar.nodeAt (Ar.newSt B k).nd (Ar.cls (B / 16 * 16))).n < (Ar.newSt B k).nd.length ∧ (Ar.newSt B k).spare < (Ar.newSt B k).nd.length ∧ (Ar.newSt B k).nd.length < 200000) := Lib.hid (by
      generalize Ar.cls (B / 16 * 16) = c at hcl
      have : (Ar.newSt B k).nd = Ar.ring 17 := rfl
      rw [this, Ar.ring_len]
      refine ⟨by omega, ?_, show 0 < 17 by omega, by omega⟩
      have : ∀ c : Fin 17, (Ar.nodeAt (Ar.ring 17) c.1).n < 17 := by decide +kernel
      exact this ⟨c, by omega⟩)
    clear hA hV hmB hcl HMK
    go_wp2_with (first
      | (go_at_call 32; (with_reducible refine (end_at A L (Ar.newSt B k) _ (B / 16 * 16) _ HA.out (by rw [HMB.out]; exact h2) HF.out).mono ?_); rintro e w' ⟨rfl, rfl⟩)
      | (go_at_call 31; (refine (putFree_at A L (Ar.newSt B k) _ _ _ _ 0 (B / 16 * 16) 0 _ HA.out rfl rfl rfl (by rw [HMB.out]; exact h2) (by omega) (by rw [HMB.out]; omega) (by omega) (by omega) HR.out.1 HR.out.2.1 HR.out.2.2.1 HR.out.2.2.2).mono ?_); rintro e w5 ⟨rfl, L5, hA5⟩))
    go_ret2
    have hE : Ar.putFree (Ar.newSt B k) 0 (B / 16 * 16) 0 = Ar.new B := by rw [HKK.out]; rfl
    refine ⟨A, L5, rfl, ?_, ?_⟩
    · rw [← hE]
      exact hA5.ar.wide (fun j e => e.elim (fun e => ⟨e.1, Nat.lt_of_lt_of_le e.2 hA5.trn.size⟩) (fun e => ⟨Nat.le_trans HV.out.size e.1, e.2⟩)) (fun j e => e.2)
    · exact HV.out.trans (hA5.trn.below (fun j e => e.1) HV.out.size)
set_option maxHeartbeats 1000000 in
theorem new_none (z : Int) (w : World) (h : z < 1024 ∨ 1048576 < z) : Calls Tryd.prog 11 #[.int .i64 z] w fun e w' => e = .returned (.tuple #[.pointer none, .int .i64 1]) ∧ w = w' := by
  go_enter Tryd.func11, Tryd.ntmps11
  by_cases h1 : z < 1024
  · go_wp2
    go_ret2
    exact ⟨rfl, rfl⟩
  · have h2 : 1048576 < z := by omega
    go_wp2
    go_ret2
    exact ⟨rfl, rfl⟩
end Go.Proofs.YtkndbldjablhoaaDoor
