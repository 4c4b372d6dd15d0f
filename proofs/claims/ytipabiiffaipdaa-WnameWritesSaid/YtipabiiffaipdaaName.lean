/- Name, Clone, Out. -/
import Derived.Test.YtipabiiffaipdaaSq
namespace Go.Proofs.Ytipabiiffaipdaa
open Go.RowKit Go.Shelf Go.Maps
attribute [local go_sem] Oper.semAt_some

def WS.name (S : WS) (n : List UInt8) (sq : Bool) : WS := if Nm.valid n = false then { S with bad := true } else if sq then S.sq (Nm.labsD n) else S.put n
theorem tabOk_name {S : WS} (h : TabOk S) (n : List UInt8) (sq : Bool) : TabOk (S.name n sq) := by
  unfold WS.name
  split
  · exact h
  · split
    · exact tabOk_sq h
    · exact h

set_option maxRecDepth 100000 in
set_option maxHeartbeats 2000000 in
theorem name_any (B : Nat) (S : WS) (f : Nat → Prop) (n : List UInt8) (sq : Bool) (w : World) (h : WrE B S f w) (hn : n.length ≤ 100000) (hl : S.size ≤ 800000) (ht : S.tab.length ≤ 800000) (hT : TabOk S) :
    Calls Try.prog 19 #[.pointer (some ⟨B, 0, none⟩), .string ⟨n.toArray⟩, .bool sq] w (ActRet B (S.name n sq) f w) := by
  cases hv : Nm.valid n
  · have HS : Hid (S.name n sq = { S with bad := true }) := Lib.hid (by unfold WS.name; rw [if_pos hv])
    have HV := Lib.hid hv
    obtain ⟨vo, vm, h⟩ := h
    have c3 := blk_cell h.heap 3 (v := .bool S.bad) rfl
    have f3 := blk_frozen h.heap 3
    have hb := blk_set h.heap 3 (.bool true)
    have HH := Lib.hid h
    have HB := Lib.hid hb
    clear h hb hv
    go_enter Try.func19, Try.ntmps19
    go_wp2_with (go_at_call 32; refine (valid_any n _ hn).mono ?_; rw [HV.out]; rintro e w' ⟨rfl, rfl⟩)
    go_end0
    have h := HH.out
    refine ⟨rfl, turn_setCell h.heap (by simp [wCells]) h.self 3 _, ?_⟩
    rw [HS.out]
    refine h.again (by rw [HB.out]; simp [wCells]) (ownE_other h.own (fun k _ hk => Below.heap_setCell _ ⟨B, 3, none⟩ _ k hk) h.out_ne) h.nil (fun g hg => .inl (h.mine g hg)) h.len rfl (fun k es ck hk => ?_)
    exact Below.heap_setCell _ ⟨B, 3, none⟩ _ k (by rintro rfl; rw [h.heap] at hk; cases hk)
  · have hlen := (Nm.labs_of_valid hv).2.2.2
    cases sq
    · have HS : Hid (S.name n false = S.put n) := Lib.hid (by unfold WS.name; rw [if_neg (by simp [hv]), if_neg (by simp)])
      have HV := Lib.hid hv
      have HW := Lib.hid h
      have HL := Lib.hid hlen
      obtain ⟨cp, w3, hcv, hrd, hb3⟩ := conv_bytes w n
      have HRD := Lib.hid hrd
      have HB3 := Lib.hid hb3
      clear h hv hlen hrd hb3
      go_enter Try.func19, Try.ntmps19
      go_wp2_with (first
        | (go_at_call 32; refine (valid_any n _ hn).mono ?_; rw [HV.out]; rintro e w' ⟨rfl, rfl⟩)
        | (go_at_call 14; refine (bytes_any B S f n _ w3 (HW.out.below HB3.out) HRD.out (by have := HL.out; omega)).mono ?_; rintro e w4 ⟨rfl, ht4, hw4⟩))
      go_end0
      rw [HS.out]
      refine ⟨rfl, (Turn.of_below HB3.out).then ht4, hw4.widen fun k _ h => ?_⟩
      have := HB3.out.size
      rcases h with h | h
      · exact .inl h
      · exact .inr ⟨by omega, h.2⟩
    · have HS : Hid (S.name n true = S.sq (Nm.labsD n)) := Lib.hid (by unfold WS.name; rw [if_neg (by simp [hv]), if_pos rfl])
      have HV := Lib.hid hv
      have HW := Lib.hid h
      clear h hv hlen
      go_enter Try.func19, Try.ntmps19
      go_wp2_with (first
        | (go_at_call 32; refine (valid_any n _ hn).mono ?_; rw [HV.out]; rintro e w' ⟨rfl, rfl⟩)
        | (go_at_call 33; refine (squeeze_any B S f n _ HW.out HV.out (by omega) (by omega) hT).mono ?_; rintro e w4 ⟨rfl, ht4, hw4⟩))
      go_end0
      rw [HS.out]
      exact ⟨rfl, ht4, hw4⟩

theorem ownB_read {base : Nat} {v : Value} {l : List UInt8} {W : World} (h : OwnE encB 5 base v l W) : ReadB v l W ∧ ∀ ao n c, v = .slice ao n c → n ≤ c := by
  rcases h.2 with ⟨rfl, hn⟩ | ⟨g, cap, cur, rfl, hbg, hh, hnc, hcm, hcs, htake⟩
  · have : l = [] := List.length_eq_zero_iff.1 hn
    subst this
    exact ⟨⟨none, 0, rfl, fun j hj => by simp at hj⟩, fun ao n c e => by cases e; omega⟩
  · exact ⟨⟨some ⟨g, 0, none⟩, cap, rfl, fun j hj => ⟨g, 0, rfl, ownE_cell h hj⟩⟩, fun ao n c e => by cases e; exact hnc⟩

theorem equalIn_slice {P : Program} (w : World) (d : Nat) (t : TypeId) {e : TypeId} (x : Option Addr) (n c : Nat) (h : P.underlying t = some (.slice e)) :
    (Op.equalIn (d + 1) t (.slice x n c) (.slice none 0 0)).run P w = .ok x.isNone w := by
  cases x <;> simp [Op.equalIn, run_underlying h]
theorem eql_slice (W : World) (x : Option Addr) (n c : Nat) : (binOp .eql 22 (.slice x n c) (.slice none 0 0)).run Try.prog W = .ok (.bool x.isNone) W := by
  simp only [binOp]
  simp [Op.equal, Op.maxDepth, equalIn_slice W 9999 22 x n c Try.underlying22]

set_option maxRecDepth 100000 in
set_option maxHeartbeats 2000000 in
theorem bclone_any (l : List UInt8) (bv : Value) (w : World) (hr : ReadB bv l w) (hl : l.length ≤ 1000000) :
    Calls Try.prog 36 #[bv] w fun e w' => ∃ v, e = .returned v ∧ OwnE encB 5 w.heap.size v l w' ∧ Below w.heap.size w w' := by
  have hr' := hr
  obtain ⟨ao, cap, rfl, hc⟩ := hr.form
  cases ao with
  | none =>
    have hn : l = [] := by
      cases l with
      | nil => rfl
      | cons a l2 => obtain ⟨_, _, e, _⟩ := hc 0 (by simp); cases e
    subst hn
    clear hc hr hr'
    have heq := eql_slice w none 0 cap
    go_enter Try.func36, Try.ntmps36
    go_wp2
    go_ret
    exact ⟨_, rfl, ownE_nil _ _ _ _, Below.refl _ _⟩
  | some ad =>
    have HR := Lib.hid hr'
    clear hc hr hr'
    have hown : OwnE encB 5 w.heap.size (.slice (some ⟨w.heap.size, 0, none⟩) 0 0) [] (w.alloc (.cells #[] 5)) :=
      ⟨rfl, .inr ⟨w.heap.size, 0, #[], rfl, Nat.le_refl _, World.alloc_heap_new w _, Nat.le_refl _, by unfold maxLen; omega, rfl, rfl⟩⟩
    have HO := Lib.hid hown
    clear hown
    have heq := eql_slice w (some ad) l.length cap
    go_enter Try.func36, Try.ntmps36
    go_wp2_with (at_builtin; refine wpList_apdB _ rfl _ _ 22 rfl w.heap.size 5 Try.underlying22 infoByte _ [] rfl HO.out _ l rfl (readB_below HR.out ((Below.refl _ _).alloc (Nat.le_refl _) _)) (by simp; omega) (by simp) ?_; intro v1 w1 ho1 ha1 hn1 hl1; have hb1 := ha1.below; obtain ⟨ao1, n1, cp1, rfl⟩ := own_shape ho1; have HO1 := Lib.hid ho1; clear ho1 ha1 hn1 hl1)
    go_ret
    exact ⟨_, rfl, HO1.out, ((Below.refl _ _).alloc (Nat.le_refl _) _).trans hb1⟩

/-- What Out gives. -/
def OutRet (S : WS) (w : World) (e : Ending) (w' : World) : Prop :=
  Below w.heap.size w w' ∧ ((S.bad = true ∨ S.most < (S.size : Int)) → e = .returned (.tuple #[.slice none 0 0, .int .i64 3])) ∧ (¬ (S.bad = true ∨ S.most < (S.size : Int)) → ∃ v, e = .returned (.tuple #[v, .int .i64 0]) ∧ OwnE encB 5 w.heap.size v S.out w')

set_option maxRecDepth 100000 in
set_option maxHeartbeats 2000000 in
theorem out_any (B : Nat) (S : WS) (f : Nat → Prop) (w : World) (h : WrE B S f w) (hl : S.size ≤ 1000000) :
    Calls Try.prog 21 #[.pointer (some ⟨B, 0, none⟩)] w (OutRet S w) := by
  obtain ⟨vo, vm, h⟩ := h
  have c0 := blk_cell h.heap 0 (v := .int .i64 S.most) rfl
  have c1 := blk_cell h.heap 1 (v := .int .i64 (S.size : Int)) rfl
  have c2 := blk_cell h.heap 2 (v := vo) rfl
  have c3 := blk_cell h.heap 3 (v := .bool S.bad) rfl
  have hrd := (ownB_read h.own).1
  have hlen := h.len
  have HRD := Lib.hid hrd
  clear h hrd
  cases hb : S.bad
  · rw [hb] at c3
    by_cases hm : S.most < (S.size : Int)
    · have HN : Hid (S.bad = true ∨ S.most < (S.size : Int)) := Lib.hid (.inr hm)
      clear hb
      go_enter Try.func21, Try.ntmps21
      go_wp2
      go_quiet (fail)
      go_wp2
      go_ret2
      exact ⟨below_drewN (Below.refl _ _) _, fun _ => rfl, fun h => absurd HN.out h⟩
    · have HN : Hid (¬ (S.bad = true ∨ S.most < (S.size : Int))) := Lib.hid (by rw [hb]; simp; omega)
      clear hb
      go_enter Try.func21, Try.ntmps21
      go_wp2
      go_quiet (fail)
      have HRQ : Hid (ReadB vo S.out (w.drewN nq)) := Lib.hid (readB_below HRD.out (below_drewN (Below.refl _ _) nq))
      go_wp2_with (go_at_call 36; refine (bclone_any S.out vo _ HRQ.out (by omega)).mono ?_; rintro e w1 ⟨v, rfl, ho, hb1⟩)
      obtain ⟨ao1, n1, cp1, rfl⟩ := own_shape ho
      go_ret2
      exact ⟨below_drewN (Below.refl _ _) nq |>.trans hb1, fun h => absurd h HN.out, fun _ => ⟨_, rfl, ho⟩⟩
  · rw [hb] at c3
    have HN : Hid (S.bad = true ∨ S.most < (S.size : Int)) := Lib.hid (.inl hb)
    clear hb
    go_enter Try.func21, Try.ntmps21
    go_wp2
    go_quiet (fail)
    go_wp2
    go_ret2
    exact ⟨below_drewN (Below.refl _ _) _, fun _ => rfl, fun h => absurd HN.out h⟩
theorem out_nil (w : World) :
    Calls Try.prog 21 #[.pointer none] w fun e w' => e = .returned (.tuple #[.slice none 0 0, .int .i64 3]) ∧ Below w.heap.size w w' := by
  go_enter Try.func21, Try.ntmps21
  go_wp2
  go_quiet (fail)
  go_wp2
  go_ret2
  exact ⟨rfl, below_drewN (Below.refl _ _) _⟩
theorem bytes_nil (bv : Value) (w : World) :
    Calls Try.prog 14 #[.pointer none, bv] w fun e w' => e = .returned (.tuple #[]) ∧ w = w' := by
  go_enter Try.func14, Try.ntmps14
  go_wp2
  exact bodyPost_ret (results_none rfl _ _ _) rfl ⟨rfl, rfl⟩
theorem two_nil (n : Int) (w : World) :
    Calls Try.prog 15 #[.pointer none, .int .i64 n] w fun e w' => e = .returned (.tuple #[]) ∧ Below w.heap.size w w' := by
  go_enter Try.func15, Try.ntmps15
  go_wp2_with (go_at_call 14; refine (bytes_nil _ _).mono ?_; rintro e w' ⟨rfl, rfl⟩)
  go_end0
  exact ⟨rfl, (Below.refl _ _).alloc (Nat.le_refl _) _⟩
end Go.Proofs.Ytipabiiffaipdaa
