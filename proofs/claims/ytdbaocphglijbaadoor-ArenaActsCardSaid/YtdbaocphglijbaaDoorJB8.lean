/- 2 texts put together: Anew, Aslide. -/
import Derived.Laws.CopyRow
import Derived.Deep.RegionLaw
import Derived.Test.YtdbaocphglijbaaDoorJB4
import Derived.Test.YtdbaocphglijbaaDoorJB6
import Derived.Test.YtdbaocphglijbaaDoorJB7
/- New. -/
set_option maxRecDepth 100000
namespace Go.Proofs.YtdbaocphglijbaaDoor
open Go.RowKit Go.Shelf
namespace Ar
def newSt (B k : Nat) : St := ⟨List.replicate B 0, 0, List.replicate (k * 64) 0, List.replicate k 0, 0, ring0, 0⟩
end Ar
def NewMem (B n0 : Nat) (v : Value) (W : World) : Prop := ∃ M, v = .slice (some ⟨M, 0, none⟩) B B ∧ Blk W M (List.replicate B (.int .u8 0)) 5 ∧ n0 ≤ M
def NewHand (k n0 : Nat) (v : Value) (W : World) : Prop := ∃ P U, v = .agg #[.slice (some ⟨P, 0, none⟩) (k * 64) (k * 64), .slice (some ⟨U, 0, none⟩) k k, .int .i64 0] ∧ Blk W P (List.replicate (k * 64) (.int .i32 0)) 21 ∧ Blk W U (List.replicate k (.int .u64 0)) 126 ∧ n0 ≤ P ∧ n0 ≤ U
def NewRing (n0 : Nat) (v : Value) (W : World) : Prop := ∃ N, v = .agg #[.slice (some ⟨N, 0, none⟩) 17 17, .int .i64 0] ∧ Blk W N (encNs Ar.ring0) 142 ∧ n0 ≤ N
def NewAgg (B k n0 : Nat) (v : Value) (W : World) : Prop := ∃ M P U N, v = .agg #[.slice (some ⟨M, 0, none⟩) B B, .int .i64 0, .slice (some ⟨P, 0, none⟩) (k * 64) (k * 64), .slice (some ⟨U, 0, none⟩) k k, .int .i64 0, .slice (some ⟨N, 0, none⟩) 17 17, .int .i64 0] ∧ Blk W M (List.replicate B (.int .u8 0)) 5 ∧ Blk W P (List.replicate (k * 64) (.int .i32 0)) 21 ∧ Blk W U (List.replicate k (.int .u64 0)) 126 ∧ Blk W N (encNs Ar.ring0) 142 ∧ n0 ≤ M ∧ n0 ≤ P ∧ n0 ≤ U ∧ n0 ≤ N
def NewBox (B k n0 : Nat) (v : Value) (W : World) : Prop := ∃ A L, v = .pointer (some ⟨A, 0, none⟩) ∧ ArE A L (Ar.newSt B k) (fun j => n0 ≤ j ∧ j < W.heap.size) W
theorem Blk.sl {x y : World} {B : Nat} {l : List Value} {t : TypeId} (h : Blk x B l t) (hl : slotLe x y) : Blk y B l t := h.kept (hl.block _ h.lt)
theorem NewMem.below {B n0 : Nat} {v : Value} {x y : World} (h : NewMem B n0 v x) (hl : slotLe x y) : NewMem B n0 v y := by
  obtain ⟨M, e, b, z⟩ := h
  exact ⟨M, e, b.sl hl, z⟩
theorem NewHand.below {k n0 : Nat} {v : Value} {x y : World} (h : NewHand k n0 v x) (hl : slotLe x y) : NewHand k n0 v y := by
  obtain ⟨P, U, e, b, c, z⟩ := h
  exact ⟨P, U, e, b.sl hl, c.sl hl, z⟩
theorem NewRing.below {n0 : Nat} {v : Value} {x y : World} (h : NewRing n0 v x) (hl : slotLe x y) : NewRing n0 v y := by
  obtain ⟨M, e, b, z⟩ := h
  exact ⟨M, e, b.sl hl, z⟩
theorem NewAgg.below {B k n0 : Nat} {v : Value} {x y : World} (h : NewAgg B k n0 v x) (hl : slotLe x y) : NewAgg B k n0 v y := by
  obtain ⟨M, P, U, N, e, b1, b2, b3, b4, z⟩ := h
  exact ⟨M, P, U, N, e, b1.sl hl, b2.sl hl, b3.sl hl, b4.sl hl, z⟩
theorem NewBox.below {B k n0 : Nat} {v : Value} {x y : World} (h : NewBox B k n0 v x) (hl : slotLe x y) : NewBox B k n0 v y := by
  obtain ⟨A, L, e, b⟩ := h
  exact ⟨A, L, e, (ArE.below b hl).wide (fun _ e => ⟨e.1, Nat.lt_of_lt_of_le e.2 hl.size⟩) (fun _ e => e.2)⟩
theorem NewMem.made {B n0 : Nat} {W : World} (h : n0 ≤ W.heap.size) : NewMem B n0 (.slice (some ⟨W.heap.size, 0, none⟩) B B) (W.alloc (.cells (List.replicate B (.int .u8 0)).toArray 5)) := ⟨_, rfl, Blk.new W _ _, h⟩
theorem HandRet.phi {k : Nat} {w w' : World} {e : Ending} (h : HandRet k w e w') : ∃ v, e = .returned v ∧ (∀ n0, n0 ≤ w.heap.size → NewHand k n0 v w') ∧ Below w.heap.size w w' := by
  obtain ⟨P, U, e, b, c, z1, z2, hb⟩ := h
  exact ⟨_, e, fun n0 h0 => ⟨P, U, rfl, b, c, by omega, by omega⟩, hb⟩
theorem RingRet.phi {w w' : World} {e : Ending} (h : RingRet w e w') : ∃ v, e = .returned v ∧ (∀ n0, n0 ≤ w.heap.size → NewRing n0 v w') ∧ Below w.heap.size w w' := by
  obtain ⟨N, e, b, z1, hb⟩ := h
  exact ⟨_, e, fun n0 h0 => ⟨N, rfl, b, by omega⟩, hb⟩
theorem NewBox.made {B k n0 : Nat} {W : World} {M P U N : Nat} (h : n0 ≤ W.heap.size) (b1 : Blk W M (List.replicate B (.int .u8 0)) 5) (b2 : Blk W P (List.replicate (k * 64) (.int .i32 0)) 21) (b3 : Blk W U (List.replicate k (.int .u64 0)) 126) (b4 : Blk W N (encNs Ar.ring0) 142) (z1 : n0 ≤ M) (z2 : n0 ≤ P) (z3 : n0 ≤ U) (z4 : n0 ≤ N) :
    NewBox B k n0 (.pointer (some ⟨W.heap.size, 0, none⟩)) (W.alloc (.cells #[.slice (some ⟨M, 0, none⟩) B B, .int .i64 0, .slice (some ⟨P, 0, none⟩) (k * 64) (k * 64), .slice (some ⟨U, 0, none⟩) k k, .int .i64 0, .slice (some ⟨N, 0, none⟩) 17 17, .int .i64 0] 95)) := by
  have hs : (W.alloc (.cells #[.slice (some ⟨M, 0, none⟩) B B, .int .i64 0, .slice (some ⟨P, 0, none⟩) (k * 64) (k * 64), .slice (some ⟨U, 0, none⟩) k k, .int .i64 0, .slice (some ⟨N, 0, none⟩) 17 17, .int .i64 0] 95)).heap.size = W.heap.size + 1 := World.size_alloc _ _
  have l1 := b1.lt; have l2 := b2.lt; have l3 := b3.lt; have l4 := b4.lt
  refine ⟨W.heap.size, ⟨M, P, U, N, 17, []⟩, rfl, ?_, ?_, ?_, ?_, ?_, ?_, ?_, ?_, ?_, ?_, ?_, ?_, fun _ e => e.2⟩
  · have := Blk.new W [.slice (some ⟨M, 0, none⟩) B B, .int .i64 0, .slice (some ⟨P, 0, none⟩) (k * 64) (k * 64), .slice (some ⟨U, 0, none⟩) k k, .int .i64 0, .slice (some ⟨N, 0, none⟩) 17 17, .int .i64 0] 95
    unfold arBox Ar.newSt
    simp only [List.length_replicate]
    exact this
  · have := b1.alloc (.cells #[.slice (some ⟨M, 0, none⟩) B B, .int .i64 0, .slice (some ⟨P, 0, none⟩) (k * 64) (k * 64), .slice (some ⟨U, 0, none⟩) k k, .int .i64 0, .slice (some ⟨N, 0, none⟩) 17 17, .int .i64 0] 95)
    unfold Ar.newSt
    simp only [List.map_replicate]
    exact this
  · have := b2.alloc (.cells #[.slice (some ⟨M, 0, none⟩) B B, .int .i64 0, .slice (some ⟨P, 0, none⟩) (k * 64) (k * 64), .slice (some ⟨U, 0, none⟩) k k, .int .i64 0, .slice (some ⟨N, 0, none⟩) 17 17, .int .i64 0] 95)
    unfold Ar.newSt
    simp only [List.map_replicate]
    exact this
  · have := b3.alloc (.cells #[.slice (some ⟨M, 0, none⟩) B B, .int .i64 0, .slice (some ⟨P, 0, none⟩) (k * 64) (k * 64), .slice (some ⟨U, 0, none⟩) k k, .int .i64 0, .slice (some ⟨N, 0, none⟩) 17 17, .int .i64 0] 95)
    unfold Ar.newSt
    simp only [List.map_replicate]
    exact this
  · have := b4.alloc (.cells #[.slice (some ⟨M, 0, none⟩) B B, .int .i64 0, .slice (some ⟨P, 0, none⟩) (k * 64) (k * 64), .slice (some ⟨U, 0, none⟩) k k, .int .i64 0, .slice (some ⟨N, 0, none⟩) 17 17, .int .i64 0] 95)
    rw [show encNs (Ar.newSt B k).nd ++ [] = encNs Ar.ring0 by rw [List.append_nil]; rfl]
    exact this
  · show 0 + 3 * (Ar.ring 17).length = 3 * 17
    rw [Ar.ring_len]
  · show 17 ≤ maxLen
    unfold maxLen; omega
  · exact ⟨h, by rw [hs]; omega⟩
  · exact ⟨z1, by rw [hs]; show M < _; omega⟩
  · exact ⟨z2, by rw [hs]; show P < _; omega⟩
  · exact ⟨z3, by rw [hs]; show U < _; omega⟩
  · exact ⟨z4, by rw [hs]; show N < _; omega⟩
namespace Ar
/-- A new arena of so many bytes. -/
def new (B : Nat) : St := putFree (newSt B ((B / 16 + 63) / 64)) 0 (B / 16 * 16) 0
end Ar
def NewRet (B : Nat) (w : World) (e : Ending) (w' : World) : Prop := ∃ A L, e = .returned (.tuple #[.pointer (some ⟨A, 0, none⟩), .int .i64 0]) ∧ ArE A L (Ar.new B) (fun j => w.heap.size ≤ j ∧ j < w'.heap.size) w' ∧ Below w.heap.size w w'
set_option maxHeartbeats 4000000 in
theorem new_any (B : Nat) (w : World) (h1 : 1024 ≤ B) (h2 : B ≤ 1048576) : Calls Tryd.prog 15 #[.int .i64 (B : Int)] w (NewRet B w) := by
  obtain ⟨k, hk⟩ : ∃ k, k = (B / 16 + 63) / 64 := ⟨_, rfl⟩
  have HKK := Lib.hid hk
  have HMK := Lib.hid (make_one Tryd.underlying34 infoU8 (by omega) rfl (B : Int) B rfl (by omega))
  clear hk
  go_enter Tryd.func15, Tryd.ntmps15
  go_wp2
  refine wp_region_slots slotLe (slotPhi ((fun v _ => v = ?s11) :: (NewMem B w.heap.size) :: (fun v _ => v = ?s13) :: (fun v _ => v = ?s14) :: (NewHand k w.heap.size) :: (NewRing w.heap.size) :: (NewAgg B k w.heap.size) :: (NewBox B k w.heap.size) :: (NewBox B k w.heap.size) :: [])) slotLe_refl slotLe_trans (slotPhi_stable ?stb) (by kernel_rfl) (by kernel_rfl) (by kernel_rfl) ?steps ?fin
  case stb =>
    refine ⟨by intro _ _ _ _ h; exact h, ?_⟩
    refine ⟨fun _ _ _ h q => NewMem.below q h, ?_⟩
    refine ⟨by intro _ _ _ _ h; exact h, ?_⟩
    refine ⟨by intro _ _ _ _ h; exact h, ?_⟩
    refine ⟨fun _ _ _ h q => NewHand.below q h, ?_⟩
    refine ⟨fun _ _ _ h q => NewRing.below q h, ?_⟩
    refine ⟨fun _ _ _ h q => NewAgg.below q h, ?_⟩
    refine ⟨fun _ _ _ h q => NewBox.below q h, ?_⟩
    refine ⟨fun _ _ _ h q => NewBox.below q h, ?_⟩
    exact trivial
  case steps =>
    refine ⟨?_, ?_⟩
    · intro a W K N hK
      have e0 : a.tmps[0]?.getD undef = .int .i64 (B : Int) := N.was' 0 _ (by kernel_rfl) rfl
      rw [if_pos (wanted_no rfl)]
      go_simp
      refine hK _ _ (slotLe_refl _) ?_
      exact rfl
    refine ⟨?_, ?_⟩
    · intro a W K N hK
      have e11 : a.tmps[11]?.getD undef = _ := N.dep' 0 11 (by kernel_rfl)
      rw [if_pos (wanted_no rfl)]
      have hmk := HMK.out
      go_simp
      refine hK _ _ ((RowKit.Below.refl _ W).alloc (Nat.le_refl _) _) ?_
      exact NewMem.made N.le.size
    refine ⟨?_, ?_⟩
    · intro a W K N hK
      have e0 : a.tmps[0]?.getD undef = .int .i64 (B : Int) := N.was' 0 _ (by kernel_rfl) rfl
      rw [if_pos (wanted_no rfl)]
      go_simp
      refine hK _ _ (slotLe_refl _) ?_
      exact rfl
    refine ⟨?_, ?_⟩
    · intro a W K N hK
      have e13 : a.tmps[13]?.getD undef = _ := N.dep' 2 13 (by kernel_rfl)
      rw [if_pos (wanted_no rfl)]
      go_simp
      refine hK _ _ (slotLe_refl _) ?_
      exact rfl
    refine ⟨?_, ?_⟩
    · intro a W K N hK
      have e14 : a.tmps[14]?.getD undef = _ := N.dep' 3 14 (by kernel_rfl)
      rw [if_pos (wanted_no rfl)]
      go_simp
      refine (newHandles_any _ (B / 16) k _ (by rw [IntKind.wrap_i64]; omega) (by omega) HKK.out).mono ?_
      rintro e w4 h4
      obtain ⟨v4, rfl, q4, b4⟩ := h4.phi
      refine hK _ _ b4 ?_
      exact q4 _ N.le.size
    refine ⟨?_, ?_⟩
    · intro a W K N hK
      rw [if_pos (wanted_no rfl)]
      go_simp
      refine (newChains_any _).mono ?_
      rintro e w4 h4
      obtain ⟨v4, rfl, q4, b4⟩ := h4.phi
      refine hK _ _ b4 ?_
      exact q4 _ N.le.size
    refine ⟨?_, ?_⟩
    · intro a W K N hK
      have e12 := Lib.hid (show (NewMem B w.heap.size) (a.tmps[12]?.getD undef) W from N.dep' 1 12 (by kernel_rfl))
      have e15 := Lib.hid (show (NewHand k w.heap.size) (a.tmps[15]?.getD undef) W from N.dep' 4 15 (by kernel_rfl))
      have e16 := Lib.hid (show (NewRing w.heap.size) (a.tmps[16]?.getD undef) W from N.dep' 5 16 (by kernel_rfl))
      rw [if_pos (wanted_no rfl)]
      obtain ⟨M, q12, b12, z12⟩ := e12.out
      obtain ⟨P, U, q15, b15, b15', z15, z15'⟩ := e15.out
      obtain ⟨NN, q16, b16, z16⟩ := e16.out
      go_simp
      refine hK _ _ (slotLe_refl _) ?_
      exact ⟨M, P, U, NN, rfl, b12, b15, b15', b16, z12, z15, z15', z16⟩
    refine ⟨?_, ?_⟩
    · intro a W K N hK
      have e17 := Lib.hid (show (NewAgg B k w.heap.size) (a.tmps[17]?.getD undef) W from N.dep' 6 17 (by kernel_rfl))
      rw [if_pos (wanted_no rfl)]
      obtain ⟨M, P, U, NN, q17, b12, b15, b15', b16, z12, z15, z15', z16⟩ := e17.out
      go_simp
      refine hK _ _ ((RowKit.Below.refl _ W).alloc (Nat.le_refl _) _) ?_
      exact NewBox.made N.le.size b12 b15 b15' b16 z12 z15 z15' z16
    refine ⟨?_, ?_⟩
    · intro a W K N hK
      have e18 := Lib.hid (show (NewBox B k w.heap.size) (a.tmps[18]?.getD undef) W from N.dep' 7 18 (by kernel_rfl))
      rw [if_pos (wanted_no rfl)]
      obtain ⟨AA, LL, q18, b18⟩ := e18.out
      go_simp
      refine hK _ _ (slotLe_refl _) ?_
      exact ⟨AA, LL, rfl, b18⟩
    exact trivial
  case fin =>
    intro V hV
    simp only [FinAll, slotPhi, List.getD_cons_zero, List.getD_cons_succ, forall_eq, Act.put, List.setIfInBounds_toArray, List.set_cons_zero, List.set_cons_succ]
    intro v12 _ v15 _ v16 _ v17 _ v18 _ v4 h4
    obtain ⟨A, L, rfl, hA⟩ := h4
    have HV := Lib.hid (below_undrew hV)
    have HA := Lib.hid hA
    have hmB : (Ar.newSt B k).mem.length = B := by simp [Ar.newSt]
    have HMB := Lib.hid hmB
    have HF : Hid (Ar.fin (Ar.newSt B k) = B / 16 * 16) := Lib.hid (by unfold Ar.fin; rw [hmB])
    have hcl := (Ar.cls_spec (s := B / 16 * 16) (by omega) (by omega)).2.2
    have HR : Hid (Ar.cls (B / 16 * 16) < (Ar.newSt B k).nd.length ∧ (Ar.nodeAt (Ar.newSt B k).nd (Ar.cls (B / 16 * 16))).n < (Ar.newSt B k).nd.length ∧ (Ar.newSt B k).spare < (Ar.newSt B k).nd.length ∧ (Ar.newSt B k).nd.length < 200000) := Lib.hid (by
      generalize Ar.cls (B / 16 * 16) = c at hcl
      have : (Ar.newSt B k).nd = Ar.ring 17 := rfl
      rw [this, Ar.ring_len]
      refine ⟨by omega, ?_, show 0 < 17 by omega, by omega⟩
      have : ∀ c : Fin 17, (Ar.nodeAt (Ar.ring 17) c.1).n < 17 := by decide +kernel
      exact this ⟨c, by omega⟩)
    clear hA hV hmB hcl HMK
    go_wp2_with (first
      | (go_at_call 53; (with_reducible refine (end_at A L (Ar.newSt B k) _ (B / 16 * 16) _ HA.out (by rw [HMB.out]; exact h2) HF.out).mono ?_); rintro e w' ⟨rfl, rfl⟩)
      | (go_at_call 52; (refine (putFree_at A L (Ar.newSt B k) _ _ _ _ 0 (B / 16 * 16) 0 _ HA.out rfl rfl rfl (by rw [HMB.out]; exact h2) (by omega) (by rw [HMB.out]; omega) (by omega) (by omega) HR.out.1 HR.out.2.1 HR.out.2.2.1 HR.out.2.2.2).mono ?_); rintro e w5 ⟨rfl, L5, hA5⟩))
    go_ret2
    have hE : Ar.putFree (Ar.newSt B k) 0 (B / 16 * 16) 0 = Ar.new B := by rw [HKK.out]; rfl
    refine ⟨A, L5, rfl, ?_, ?_⟩
    · rw [← hE]
      exact hA5.ar.wide (fun j e => e.elim (fun e => ⟨e.1, Nat.lt_of_lt_of_le e.2 hA5.trn.size⟩) (fun e => ⟨Nat.le_trans HV.out.size e.1, e.2⟩)) (fun j e => e.2)
    · exact HV.out.trans (hA5.trn.below (fun j e => e.1) HV.out.size)
set_option maxHeartbeats 1000000 in
theorem new_none (z : Int) (w : World) (h : z < 1024 ∨ 1048576 < z) : Calls Tryd.prog 15 #[.int .i64 z] w fun e w' => e = .returned (.tuple #[.pointer none, .int .i64 1]) ∧ w = w' := by
  go_enter Tryd.func15, Tryd.ntmps15
  by_cases h1 : z < 1024
  · go_wp2
    go_ret2
    exact ⟨rfl, rfl⟩
  · have h2 : 1048576 < z := by omega
    go_wp2
    go_ret2
    exact ⟨rfl, rfl⟩
end Go.Proofs.YtdbaocphglijbaaDoor

/- slide: all blocks to the beginning. -/
set_option maxRecDepth 100000
namespace Go.Proofs.YtdbaocphglijbaaDoor
open Go.RowKit Go.Shelf
namespace Ar
def slid (S : St) (at_ to_ ahead : Nat) (p : Head) : St := { S with mem := putHd (put S.mem to_ ((S.mem.drop at_).take (costI p.size))) to_ ⟨false, p.marked, p.owner, p.size, ahead⟩, pl := S.pl.set (p.owner - 1) to_ }
inductive SlideOk : St → Nat → Nat → Nat → St → Nat → Nat → Prop
  | done (S : St) (a t h : Nat) : a = fin S → SlideOk S a t h S t h
  | free (S : St) (a t h : Nat) (p : Head) (R : St) (rt rh : Nat) : headAt S.mem a = p → p.free = true → 16 ≤ p.size → a + p.size ≤ fin S → SlideOk S (a + p.size) t h R rt rh → SlideOk S a t h R rt rh
  | block (S : St) (a t h : Nat) (p : Head) (R : St) (rt rh : Nat) : headAt S.mem a = p → p.free = false → p.size ≤ 4096 → 1 ≤ p.owner → p.owner ≤ S.pl.length → t ≤ a → h ≤ 1048576 → a + costI p.size ≤ fin S → SlideOk (slid S a t h p) (a + costI p.size) (t + costI p.size) (costI p.size) R rt rh → SlideOk S a t h R rt rh
theorem fin_le (S : St) : fin S ≤ S.mem.length := by unfold fin; omega
theorem costI_nat {n : Nat} (h : n ≤ 4096) : costI (n : Int) = cost n := by unfold costI; rw [if_pos ⟨by omega, by omega⟩, Int.toNat_natCast]
theorem slid_len (S : St) (a t h : Nat) (p : Head) (hs : p.size ≤ 4096) (h1 : t ≤ a) (h2 : a + costI p.size ≤ S.mem.length) : (slid S a t h p).mem.length = S.mem.length := by
  have hc := cost_ge p.size hs
  rw [costI_nat hs] at h2
  unfold slid
  simp only
  rw [costI_nat hs]
  have hl : ((S.mem.drop a).take (cost p.size)).length = cost p.size := by simp; omega
  rw [putHd_len _ _ _ (by rw [put_len _ _ _ (by rw [hl]; omega)]; omega), put_len _ _ _ (by rw [hl]; omega)]
/-- What sliding leaves as it was. -/
theorem SlideOk.kept {S R : St} {a t h rt rh : Nat} (H : SlideOk S a t h R rt rh) : R.mem.length = S.mem.length ∧ R.pl.length = S.pl.length ∧ R.nd = S.nd ∧ R.us = S.us ∧ R.spare = S.spare ∧ R.low = S.low ∧ R.used = S.used := by
  induction H with
  | done => exact ⟨rfl, rfl, rfl, rfl, rfl, rfl, rfl⟩
  | free S a t h p R rt rh _ _ _ _ _ ih => exact ih
  | block S a t h p R rt rh h1 h2 h3 h4 h5 h6 h7 h8 _ ih =>
    have := slid_len S a t h p h3 h6 (Nat.le_trans h8 (fin_le S))
    exact ⟨ih.1.trans this, ih.2.1.trans (by unfold slid; simp), ih.2.2.1, ih.2.2.2.1, ih.2.2.2.2.1, ih.2.2.2.2.2.1, ih.2.2.2.2.2.2⟩
end Ar
theorem encB_one (c : UInt8) : (encB c).oneCell' = true := rfl
theorem copy_run (ty : TypeId) (M t a n d1 d2 c : Nat) (mem : List UInt8) (W : World) (h : Blk W M (mem.map encB) 5) (hn : n ≤ d1) (ht : t + n ≤ mem.length) (ha : a + n ≤ mem.length) :
    (Builtin.copy_ #[34, 34] ty #[.slice (some ⟨M, t, none⟩) d1 d2, .slice (some ⟨M, a, none⟩) n c]).run Tryd.prog W = .ok (goInt n) (W.setRow M ((Ar.put mem t ((mem.drop a).take n)).map encB).toArray) := by
  have hl : (((mem.drop a).take n).map encB).length = n := by simp; omega
  have hr := run_copy_row (P := Tryd.prog) W 34 34 ty 5 M t d1 d2 ⟨M, a, none⟩ n c (mem.map encB).toArray 5 (((mem.drop a).take n).map encB) Tryd.underlying34 (by kernel_rfl) h (by rw [hl]; exact (Nat.min_eq_left hn).symm) (fun j v hj => by
    have e2 : (⟨M, a, none⟩ : Addr).add j = ⟨M, a + j, none⟩ := by unfold Addr.add; split <;> simp_all
    rw [e2]
    refine h.cell ?_
    obtain ⟨hj1, hj2⟩ := List.getElem?_eq_some_iff.1 hj
    rw [← hj2]
    have hlt : a + j < mem.length := by simp at hj1; omega
    simp [hlt]) (by simp; omega) (fun v hv => by obtain ⟨x, _, rfl⟩ := List.mem_map.1 hv; exact encB_one x)
  rw [hr, hl]
  congr 3
  unfold Ar.put
  have hl2 : ((mem.drop a).take n).length = n := by simp; omega
  simp [hl2]
theorem copy_blk (M : Nat) (m1 m2 : List UInt8) (W : World) (h : Blk W M (m1.map encB) 5) : Blk (W.setRow M (m2.map encB).toArray) M (m2.map encB) 5 ∧ Trn (fun k => k = M) W (W.setRow M (m2.map encB).toArray) := by
  have hs : (W.setRow M (m2.map encB).toArray).heap.size = W.heap.size := by simp [World.setRow]
  refine ⟨setRow_heap W M _ _ _ (0, 0) h, ⟨rfl, rfl, rfl, by omega, fun k _ hk => setRow_other W M k _ hk, fun k o ho hb => (setRow_other W M k _ (fun e => ?_)).trans ho⟩⟩
  subst e
  rw [show W.heap[k]? = _ from h] at ho
  cases ho
  cases hb
/-- One round. -/
structure SlR (A : Nat) (L : Loc) (S : Ar.St) (f : Nat → Prop) (R : Ar.St) (rt rh : Nat) (w : World) (S' : Ar.St) (a t h : Nat) (wr : World) : Prop where
  ok : Ar.SlideOk S' a t h R rt rh
  ar : Ars A L S' f w wr
  ml : S'.mem.length = S.mem.length
  pl : S'.pl.length = S.pl.length
  le : a ≤ Ar.fin S
theorem ArE.freshRing {A : Nat} {L : Loc} {S : Ar.St} {f : Nat → Prop} {w w6 : World} {N : Nat} (h : ArE A L S f w) (hb : Below w.heap.size w w6) (hN : Blk w6 N (encNs Ar.ring0) 142) (hN0 : w.heap.size ≤ N) :
    Trn f w ((w6.setCell ⟨A, 5, none⟩ (.slice (some ⟨N, 0, none⟩) 17 17)).setCell ⟨A, 6, none⟩ (.int .i64 0)) ∧ ArE A { L with N := N, cap := 17, rest := [] } { S with nd := Ar.ring0, spare := 0 } (grow f w ((w6.setCell ⟨A, 5, none⟩ (.slice (some ⟨N, 0, none⟩) 17 17)).setCell ⟨A, 6, none⟩ (.int .i64 0))) ((w6.setCell ⟨A, 5, none⟩ (.slice (some ⟨N, 0, none⟩) 17 17)).setCell ⟨A, 6, none⟩ (.int .i64 0)) := by
  have h6 := h.below hb
  have hA5 := h6.box.set 5 (.slice (some ⟨N, 0, none⟩) 17 17)
  have t1 : Trn (fun k => k = A) w6 (w6.setCell ⟨A, 5, none⟩ (.slice (some ⟨N, 0, none⟩) 17 17)) := Trn.set1 h6.box 5 _
  have hA6 := hA5.set 6 (.int .i64 0)
  have t2 := t1.trans (Trn.set hA5 (.inl rfl) 6 (.int .i64 0))
  have tt : Trn f w ((w6.setCell ⟨A, 5, none⟩ (.slice (some ⟨N, 0, none⟩) 17 17)).setCell ⟨A, 6, none⟩ (.int .i64 0)) := (Trn.of_below hb).trans (t2.to (.inl h.fA))
  have hNA : N ≠ A := by have := h.box.lt; omega
  refine ⟨tt, ⟨?_, h6.mem.trn t2 (fun e => h6.box.ne h6.mem (by decide) e.symm), h6.pl.trn t2 (fun e => h6.box.ne h6.pl (by decide) e.symm), h6.us.trn t2 (fun e => h6.box.ne h6.us (by decide) e.symm), ?_, ?_, ?_, .inl h.fA, .inl h.fM, .inl h.fP, .inl h.fU, ?_, ?_⟩⟩
  · exact hA6
  · show Blk _ N (encNs Ar.ring0 ++ []) _
    rw [List.append_nil]
    exact hN.trn t2 hNA
  · show 0 + 3 * (Ar.ring 17).length = 3 * 17
    rw [Ar.ring_len]
  · show 17 ≤ maxLen
    unfold maxLen; omega
  · exact .inr ⟨hN0, by have := hN.lt; simpa [World.setCell] using this⟩
  · intro k e
    exact e.elim (fun e => Nat.lt_of_lt_of_le (h.fb k e) tt.size) (fun e => e.2)
theorem Ar.ring_ok (c : Nat) (h : c < 17) : c < Ar.ring0.length ∧ (Ar.nodeAt Ar.ring0 c).n < Ar.ring0.length := by
  have : ∀ c : Fin 17, (Ar.nodeAt (Ar.ring 17) c.1).n < 17 := by decide +kernel
  unfold Ar.ring0
  rw [Ar.ring_len]
  exact ⟨h, this ⟨c, h⟩⟩
def SlideRet (A : Nat) (R : Ar.St) (rt rh : Nat) (f : Nat → Prop) (w : World) (e : Ending) (w' : World) : Prop :=
  e = .returned (.tuple #[]) ∧ ∃ L', Ars A L' (if rt < Ar.fin R then Ar.putFree { R with nd := Ar.ring0, spare := 0 } rt (Ar.fin R - rt) rh else { R with nd := Ar.ring0, spare := 0 }) f w w'
theorem end_at' (A : Nat) (L : Loc) (S : Ar.St) (f : Nat → Prop) (F m : Nat) (w : World) (h : ArE A L S f w) (hm : S.mem.length = m) (hm2 : m ≤ 1048576) (hF : F = m / 16 * 16) :
    Calls Tryd.prog 53 #[.pointer (some ⟨A, 0, none⟩)] w fun e w' => e = .returned (.int .i64 (F : Int)) ∧ w = w' := end_at A L S f F w h (by omega) (by unfold Ar.fin; rw [hm, hF])
set_option maxHeartbeats 8000000 in
theorem slide_any (A : Nat) (L : Loc) (S R : Ar.St) (rt rh : Nat) (f : Nat → Prop) (w : World) (hA : ArE A L S f w) (hm : S.mem.length ≤ 1048576) (hpl : S.pl.length ≤ 1000000) (hok : Ar.SlideOk S 0 0 0 R rt rh) (hrt : rt % 16 = 0 ∧ rt ≤ Ar.fin R ∧ rh ≤ 1048576) :
    Calls Tryd.prog 66 #[.pointer (some ⟨A, 0, none⟩)] w (SlideRet A R rt rh f w) := by
  obtain ⟨m, hmm⟩ : ∃ m, S.mem.length = m := ⟨_, rfl⟩
  obtain ⟨F, hF⟩ : ∃ F, F = m / 16 * 16 := ⟨_, rfl⟩
  have hFS : Ar.fin S = F := by unfold Ar.fin; rw [hmm, hF]
  have h0 : Hid (SlR A L S f R rt rh w S 0 0 0 w) := Lib.hid ⟨hok, Ars.start hA, rfl, rfl, by omega⟩
  have hm2 : m ≤ 1048576 := by omega
  have hFm : F ≤ m := by omega
  have HMM := Lib.hid hmm
  have HF := Lib.hid hF
  have HFS := Lib.hid hFS
  have HA := Lib.hid hA
  have hK := hok.kept
  have HK := Lib.hid hK
  clear hmm hF hFS hA hok hm hK
  go_enter Tryd.func66, Tryd.ntmps66
  go_wp2
  go_loopw [2, 3, 4] (fun to_ ah at_ wr => ∃ (S' : Ar.St) (a t h : Nat), to_ = .int .i64 (t : Int) ∧ ah = .int .i64 (h : Int) ∧ at_ = .int .i64 (a : Int) ∧ Hid (SlR A L S f R rt rh w S' a t h wr)) (fun _ _ at_ _ => F + 1 - (intOf at_).toNat)
  case atStart => exact ⟨S, 0, 0, 0, rfl, rfl, rfl, h0⟩
  case round =>
    obtain ⟨S', a, t, h, rfl, rfl, rfl, HR⟩ := hrel
    clear h0
    obtain ⟨ok, ar, ml, pl, le⟩ := HR.out
    have hml : S'.mem.length = m := ml.trans HMM.out
    have hF' : Ar.fin S' = F := by unfold Ar.fin; rw [hml, HF.out]
    rw [HFS.out] at le
    have HAR := Lib.hid ar
    have HML := Lib.hid hml
    have HPL := Lib.hid pl
    clear HR ar ml hml pl
    cases ok with
    | done _ _ _ _ he =>
      rw [hF'] at he
      have hge : ¬ (a < F) := by omega
      have hcA5 := HAR.out.ar.cells.2.2.2.2.2.1
      have hcA6 := HAR.out.ar.cells.2.2.2.2.2.2
      have HF' := Lib.hid hF'
      clear hF' he
      go_wp2_with (first
        | (go_at_call 53; (with_reducible refine (end_at' A L R _ F m _ HAR.out.ar HML.out hm2 HF.out).mono ?_); rintro e w' ⟨rfl, rfl⟩)
        | (go_at_call 51; refine (newChains_any _).mono ?_; rintro e w6 ⟨N, rfl, hN, hN0, hb6⟩; have hbx6 := HAR.out.ar.box.kept (hb6.block _ HAR.out.ar.box.lt); have x5 := hbx6.cell (i := 5) rfl; have x6 := hbx6.cell (i := 6) rfl; have xf := fun i => hbx6.frozen i; have FR := Lib.hid (HAR.out.more (HAR.out.ar.freshRing hb6 hN hN0).1 (HAR.out.ar.freshRing hb6 hN hN0).2); clear hN hb6 hbx6; refine Hid.out ?_))
      refine Lib.hid ?_
      unfold encI at x6
      by_cases hlt : rt < F
      · have h16 : (F - rt) % 16 = 0 ∧ 16 ≤ F - rt ∧ (rt + (F - rt)) % 16 = 0 := by have := HF.out; omega
        have hc := (Ar.cls_spec (s := F - rt) h16.2.1 (by omega)).2.2
        have HRG := Lib.hid (Ar.ring_ok (Ar.cls (F - rt)) (by omega))
        have HEq : Hid ((if rt < Ar.fin R then Ar.putFree { R with nd := Ar.ring0, spare := 0 } rt (Ar.fin R - rt) rh else { R with nd := Ar.ring0, spare := 0 }) = Ar.putFree { R with nd := Ar.ring0, spare := 0 } rt (F - rt) rh) := Lib.hid (by rw [HF'.out, if_pos hlt])
        go_wp2_with (first
          | (go_at_call 53; (with_reducible refine (end_at' A _ { R with nd := Ar.ring0, spare := 0 } _ F m _ FR.out.ar HML.out hm2 HF.out).mono ?_); rintro e w' ⟨rfl, rfl⟩)
          | (go_at_call 52; (refine (putFree_at A _ { R with nd := Ar.ring0, spare := 0 } _ (rt : Int) ((F : Int) - (rt : Int)) (rh : Int) rt (F - rt) rh _ FR.out.ar.tight rfl (by omega) rfl (by show R.mem.length ≤ _; rw [HML.out]; exact hm2) h16.2.1 (by show _ ≤ R.mem.length; rw [HML.out]; omega) h16.2.2 hrt.2.2 HRG.out.1 HRG.out.2 (by show 0 < Ar.ring0.length; have := HRG.out.1; omega) (by show Ar.ring0.length < 200000; unfold Ar.ring0; rw [Ar.ring_len]; omega)).mono ?_); rintro e w8 ⟨rfl, L8, hA8⟩))
        go_end0
        refine ⟨rfl, L8, ?_⟩
        rw [HEq.out]
        exact FR.out.callR hA8
      · have HEq : Hid ((if rt < Ar.fin R then Ar.putFree { R with nd := Ar.ring0, spare := 0 } rt (Ar.fin R - rt) rh else { R with nd := Ar.ring0, spare := 0 }) = { R with nd := Ar.ring0, spare := 0 }) := Lib.hid (by rw [HF'.out, if_neg hlt])
        go_wp2_with (first
          | (go_at_call 53; (with_reducible refine (end_at' A _ { R with nd := Ar.ring0, spare := 0 } _ F m _ FR.out.ar HML.out hm2 HF.out).mono ?_); rintro e w' ⟨rfl, rfl⟩))
        go_end0
        refine ⟨rfl, { L with N := N, cap := 17, rest := [] }, ?_⟩
        rw [HEq.out]
        exact FR.out
    | free _ _ _ _ p _ _ _ hp hfr h16 hle hnx =>
      rw [hF'] at hle
      have hlt : a < F := by omega
      obtain ⟨pf, mk, ow, sz, ah⟩ := p
      simp only at hfr h16 hle hnx
      subst hfr
      have HP := Lib.hid hp
      have HNX := Lib.hid hnx
      clear hp hnx hF'
      go_wp2_with (first
        | (go_at_call 53; (with_reducible refine (end_at' A L S' _ F m _ HAR.out.ar HML.out hm2 HF.out).mono ?_); rintro e w' ⟨rfl, rfl⟩)
        | (go_at_call 59; (with_reducible refine (head_agg A L S' _ _ a ⟨true, mk, ow, sz, ah⟩ _ rfl HAR.out.ar (by rw [HML.out]; omega) (by rw [HML.out]; omega) HP.out).mono ?_); rintro e w1 ⟨rfl, hb1⟩; have AR1 := Lib.hid (HAR.out.below hb1); clear hb1)
        | (go_at_call 60; (refine (takes_agg ⟨true, mk, ow, sz, ah⟩ sz _ rfl).mono ?_); rintro e w2 ⟨rfl, hb2⟩; have hbox := (Blk.new w1 [.bool true, .bool mk, .int .i64 (ow : Int), .int .i64 (sz : Int), .int .i64 (ah : Int)] 98).kept (hb2.block _ (by simp)); have y0 := hbox.cell (i := 0) rfl; have AR2 := Lib.hid (AR1.out.below (below_of_alloc hb2)); clear hb2 AR1 hbox))
      go_roundw
      case rel => exact ⟨S', a + sz, t, h, rfl, rfl, by go_num, Lib.hid ⟨HNX.out, AR2.out, by rw [HML.out, HMM.out], HPL.out, by rw [HFS.out]; exact hle⟩⟩
      case measure => simp [intOf]; omega
    | block _ _ _ _ p _ _ _ hp hfr hsz ho1 ho2 hta hh hle hnx =>
      rw [hF'] at hle
      obtain ⟨pf, mk, ow, sz, ah⟩ := p
      simp only at hfr hsz ho1 ho2 hle
      subst hfr
      have hci := Ar.costI_nat hsz
      have hcg := Ar.cost_ge sz hsz
      rw [hci] at hle
      generalize hcn : Ar.cost sz = cn at hle hci hcg
      have hlt : a < F := by omega
      have HP := Lib.hid hp
      have HNX := Lib.hid hnx
      have HCI := Lib.hid hci
      clear hp hnx hF' hcn hci
      go_wp2_with (first
        | (go_at_call 53; (with_reducible refine (end_at' A L S' _ F m _ HAR.out.ar HML.out hm2 HF.out).mono ?_); rintro e w' ⟨rfl, rfl⟩)
        | (go_at_call 59; (with_reducible refine (head_agg A L S' _ _ a ⟨false, mk, ow, sz, ah⟩ _ rfl HAR.out.ar (by rw [HML.out]; omega) (by rw [HML.out]; omega) HP.out).mono ?_); rintro e w1 ⟨rfl, hb1⟩; have AR1 := Lib.hid (HAR.out.below hb1); clear hb1)
        | (go_at_call 60; (refine (takes_agg ⟨false, mk, ow, sz, ah⟩ cn _ HCI.out).mono ?_); rintro e w2 ⟨rfl, hb2⟩; have hbox := (Blk.new w1 [.bool false, .bool mk, .int .i64 (ow : Int), .int .i64 (sz : Int), .int .i64 (ah : Int)] 98).kept (hb2.block _ (by simp)); have y0 := hbox.cell (i := 0) rfl; have AR2 := Lib.hid (AR1.out.below (below_of_alloc hb2)); have HBX := Lib.hid hbox; have hz2 : w1.heap.size < w2.heap.size := (by have h9 := hb2.size; simp at h9; omega); clear hb2 hbox))
      have hbM := AR2.out.ar.mem
      have hcA := AR2.out.ar.cells.1
      rw [HML.out] at hcA
      have hta2 : t + cn ≤ m := by omega
      have hcp := fun ty => copy_run ty L.M t a cn (m - t) (m - t) (m - a) S'.mem w2.drew hbM (by omega) (by rw [HML.out]; omega) (by rw [HML.out]; omega)
      have hw1 : IntKind.i64.wrap ((a : Int) + (cn : Int)) = (a : Int) + (cn : Int) := IntWalk.i64_in _ (by omega)
      have hw2 : (0 : Int) ≤ (a : Int) + (cn : Int) := by omega
      have hw3 : ((a : Int) + (cn : Int)).toNat = a + cn := by omega
      have hw4 : (a : Int) ≤ (a : Int) + (cn : Int) := by omega
      have hw5 : (a : Int) + (cn : Int) ≤ (m : Int) := by omega
      have hw6 : ¬ (m = t) := by omega
      have hw7 : ¬ (m = a) := by omega
      have hw8 : (t : Int) ≤ (m : Int) := by omega
      have hw9 : ¬ (a = m) := by omega
      have hw10 : ¬ (t = m) := by omega
      have CB := Lib.hid (copy_blk L.M S'.mem (Ar.put S'.mem t ((S'.mem.drop a).take cn)) w2.drew hbM)
      have nf := AR1.out.ar.notFive (Nat.le_refl _)
      have hz0 : w.heap.size ≤ w1.heap.size := AR1.out.trn.size
      have hpl3 : (Ar.put S'.mem t ((S'.mem.drop a).take cn)).length = m := by
        have hl : ((S'.mem.drop a).take cn).length = cn := by simp; rw [HML.out]; omega
        rw [Ar.put_len _ _ _ (by rw [hl, HML.out]; omega), HML.out]
      have HL3 := Lib.hid hpl3
      have how : ow < 1048576 := by have := HPL.out; omega
      have AR3 := Lib.hid (AR2.out.drw.call (CB.out.2.mono (fun k _ e => .inr (.inl e))) (AR2.out.drw.ar.tight.setMem CB.out.1 (by rw [hpl3, HML.out]) (fun k hk hs => CB.out.2.block k hs hk) CB.out.2.size))
      have HB3 := Lib.hid (HBX.out.drw.trn CB.out.2 (fun e => nf (.inr (.inl e))))
      clear hw1 hw2 hw3 hw4 hw5 hpl3
      go_region
      clear hcp hbM hcA y0
      generalize hW3 : World.setRow _ _ _ = W3 at AR3 HB3 ⊢
      have hz3 : w1.heap.size < W3.heap.size := HB3.out.lt
      have z3 := HB3.out.cell (i := 3) rfl
      have z4 := HB3.out.cell (i := 4) rfl
      have z0 := HB3.out.cell (i := 0) rfl
      have z1 := HB3.out.cell (i := 1) rfl
      have z2 := HB3.out.cell (i := 2) rfl
      have zf := HB3.out.frozen 4
      clear hW3 CB AR2 HBX
      have AR4 := Lib.hid (AR3.out.out HA.out (Trn.set1 HB3.out 4 (.int .i64 (h : Int))) hz0 hz3)
      have HB4 := Lib.hid (HB3.out.set 4 (.int .i64 (h : Int)))
      go_wp2_with (go_at_call 83; (with_reducible refine (putHead_agg A L { S' with mem := Ar.put S'.mem t ((S'.mem.drop a).take cn) } _ (t : Int) t false mk ow sz h _ rfl AR4.out.ar.tight (by show (Ar.put S'.mem t ((S'.mem.drop a).take cn)).length ≤ _; rw [HL3.out]; exact hm2) (by show t + 8 ≤ (Ar.put S'.mem t ((S'.mem.drop a).take cn)).length; rw [HL3.out]; omega) how (by omega) (by omega)).mono ?_); rintro e w5 ⟨rfl, ht5, hA5⟩; refine Hid.out ?_)
      refine Lib.hid ?_
      have AR5 := Lib.hid ((AR4.out.call ht5 hA5).drw)
      have HB5 := Lib.hid ((HB4.out.trn ht5 nf).drw)
      clear ht5 hA5 AR4 AR3 HB3 HB4 z0 z1 z2 z3 z4 zf
      have z2 := HB5.out.cell (i := 2) rfl
      go_wp2
      have hpl1 : ow - 1 < S'.pl.length := by omega
      have hpl2 : S'.pl.length ≤ 1000000 := by have := HPL.out; omega
      have how2 : (ow : Int) = ((ow - 1 : Nat) : Int) + 1 := by omega
      have HOW := Lib.hid how2
      clear how2
      go_region_with (go_at_call 89; refine (move_any A L _ _ (ow : Int) (ow - 1) t _ AR5.out.ar.tight HOW.out hpl1 hpl2 (by omega)).mono ?_; rintro e w6 ⟨rfl, ht6, hA6⟩; have AR6 := Lib.hid (AR5.out.call ht6 hA6); clear ht6 hA6)
      go_wp2
      go_roundw
      case rel => exact ⟨Ar.slid S' a t h ⟨false, mk, ow, sz, ah⟩, a + cn, t + cn, cn, by go_num, rfl, by go_num, Lib.hid ⟨by have := HNX.out; simp only [HCI.out] at this; exact this, by unfold Ar.slid; simp only [HCI.out]; exact AR6.out, by rw [Ar.slid_len S' a t h ⟨false, mk, ow, sz, ah⟩ hsz hta (by simp only [HCI.out]; rw [HML.out]; omega), HML.out, HMM.out], by unfold Ar.slid; simp only [List.length_set]; exact HPL.out, by rw [HFS.out]; exact hle⟩⟩
      case measure => simp [intOf]; omega
end Go.Proofs.YtdbaocphglijbaaDoor
