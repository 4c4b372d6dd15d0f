/- Name and Out of the document's own Writer, whole. -/
import Derived.Test.YtipabiiffaipdaaRwName2
namespace Go.Proofs.Ytipabiiffaipdaa
open Go.RowKit Go.Shelf Go.Maps
attribute [local go_sem] Oper.semAt_some

theorem rname_any (R : Nat) (M : MS) (f : Nat → Prop) (n : List UInt8) (sq : Bool) (w : World) (h : RwE R M f w) (hn : n.length ≤ 100000) (he : M.pl.length = M.b.length) (hl : M.b.length + n.length ≤ 800000) :
    Calls Try.prog 20 #[.pointer (some ⟨R, 0, none⟩), .string ⟨n.toArray⟩, .bool sq] w (RAct R (M.name n sq) f w) := by
  cases hv : Nm.valid n with
  | false =>
    have e : M.name n sq = { M with bad := true } := by unfold MS.name; rw [if_pos hv]
    rw [e]
    exact rname_no R M f n sq w h hn hv
  | true =>
    have e : M.name n sq = M.nm sq (Nm.labsD n) := by unfold MS.name; rw [if_neg (by simp [hv])]
    rw [e]
    refine (rname_yes R M (fun k => f k ∧ k < w.heap.size) n sq w (h.widen fun k hk hf => ⟨hf, hk⟩) (fun k hk => hk.2) hn hv he hl).mono fun e' w' ⟨h1, h2, h3⟩ => ?_
    exact ⟨h1, h2.mono fun k _ hk => hk.1, h3.widen fun k _ hk => hk.imp (fun h' => h'.1) id⟩

theorem own_empty (W : World) : OwnE encB 5 W.heap.size (.slice (some ⟨W.heap.size, 0, none⟩) 0 0) [] (W.alloc (.cells #[] 5 (0, 0))) := by
  refine ⟨rfl, .inr ⟨W.heap.size, 0, #[], rfl, Nat.le_refl _, World.alloc_heap_new W _, Nat.le_refl _, Nat.zero_le _, rfl, rfl⟩⟩
def ROutRet (M : MS) (w : World) (e : Ending) (w' : World) : Prop :=
  Below w.heap.size w w' ∧ ((M.bad = true ∨ M.most < (M.b.length : Int)) → e = .returned (.tuple #[.slice none 0 0, .bool false])) ∧ (¬ (M.bad = true ∨ M.most < (M.b.length : Int)) → ∃ v, e = .returned (.tuple #[v, .bool true]) ∧ OwnE encB 5 w.heap.size v M.b w')

set_option maxRecDepth 100000 in
set_option maxHeartbeats 2000000 in
theorem rout_any (R : Nat) (M : MS) (f : Nat → Prop) (w : World) (h : RwE R M f w) (hl : M.b.length ≤ 900000) :
    Calls Try.prog 22 #[.pointer (some ⟨R, 0, none⟩)] w (ROutRet M w) := by
  obtain ⟨vb, vp, h⟩ := h
  obtain ⟨aob, cpb, rfl⟩ := ownE_len h.ob
  have d0 := blk_cell h.heap 0 (v := .int .i64 M.most) rfl
  have d1 := blk_cell h.heap 1 (v := .slice aob M.b.length cpb) rfl
  have d3 := blk_cell h.heap 3 (v := .bool M.bad) rfl
  have HH := Lib.hid h
  clear h
  obtain ⟨bad, hbad⟩ : ∃ b, b = M.bad := ⟨_, rfl⟩
  obtain ⟨most, hmost⟩ : ∃ b, b = M.most := ⟨_, rfl⟩
  unfold ROutRet
  rw [← hbad, ← hmost]
  rw [← hbad] at d3
  rw [← hmost] at d0
  clear hbad hmost
  cases bad with
  | true =>
    go_enter Try.func22, Try.ntmps22
    go_wp2
    go_quiet (fail)
    go_wp2
    go_ret2
    exact ⟨below_drewN (Below.refl _ _) _, fun _ => rfl, fun h => absurd (by simp) h⟩
  | false =>
    by_cases hm : most < (M.b.length : Int)
    · go_enter Try.func22, Try.ntmps22
      go_wp2
      go_quiet (fail)
      go_wp2
      go_ret2
      exact ⟨below_drewN (Below.refl _ _) _, fun _ => rfl, fun h => absurd (.inr hm) h⟩
    · have hd : decide (most < (M.b.length : Int)) = false := decide_eq_false hm
      go_enter Try.func22, Try.ntmps22
      go_wp2
      go_quiet (fail)
      have d5 := (((below_drewN (Below.refl w.heap.size w) nq).alloc (Nat.le_refl _) (.cells #[] 5 (0, 0))).cell (cell_lt d1)).trans d1
      clear d1
      go_wp2_with (at_builtin; refine wpList_apdB _ rfl _ _ 22 rfl w.heap.size 5 Try.underlying22 infoByte _ [] rfl (own_empty (w.drewN nq)) _ M.b rfl (readB_below (ownB_read HH.out.ob).1 ((below_drewN (Below.refl _ _) nq).alloc (Nat.le_refl _) _)) (by simp; omega) (by simp) ?_; intro v1 w1 ho1 ha1 _ _; obtain ⟨ao1, n1, cp1, rfl⟩ := own_shape ho1; have HA1 := Lib.hid ha1; have HO1 := Lib.hid ho1; clear ho1 ha1)
      go_ret2
      exact ⟨((below_drewN (Below.refl w.heap.size w) nq).alloc (Nat.le_refl _) _).trans HA1.out.below, fun h => absurd h (by simpa using hm), fun _ => ⟨_, rfl, by simpa using HO1.out⟩⟩
end Go.Proofs.Ytipabiiffaipdaa
