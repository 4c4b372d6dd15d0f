/- 9 texts put together: Wup, Lord, SeqZ, Mds, Ml, Mlo, Mld, Mle, Mlt. -/
import Derived.BigQuiet
import Derived.Test.YtchlemajppnehaaJW8
import Derived.Test.YtchlemajppnehaaJW9
import Derived.Test.YtchlemajppnehaaJW18
import Derived.Test.YtchlemajppnehaaJW21
import Derived.Test.YtchlemajppnehaaJW24
/- Who is by then, told to a loop that may change the Due. (Made by tools/gen11_wup.py.) -/
set_option maxRecDepth 100000
namespace Go.Proofs.Ytchlemajppnehaa
open Go Go.RowKit Go.Shelf Go.Maps
section
variable {X : Nat} {E : List (Int × Int)} {most : Int} {N m l ob mo : Nat} {f : Nat → Prop} {w WW : World}
set_option maxHeartbeats 4000000 in
theorem duptoW_seq (hm : 1 ≤ m) (hN : N < 80000) (hmo : I64 most) (hVV : DV X E N f WW) (hB : Blk WW ob [.pointer (some ⟨X, 0, none⟩)] 33) (hMB : Blk WW mo [.int .i64 most] 3)
    (C Cx : List (Int × Int) → Ws → World → Prop) (hC : ∀ pre s s' W W', C pre s W → MvW s W s' W' → C pre s' W') (hCx : ∀ pre s s' W W', Cx pre s W → MvW s W s' W' → Cx pre s' W') (h0 : C [] (f, N) WW)
    (hY : ∀ xb vb pre x R s W1, pre ++ x :: R = Du.uptoE most E [] → UW X most xb WW.heap.size l vb R s W1 → s.2 < 80000 → C pre s W1 → YieldAt Fence.wide (m - 1) Try.prog l (encP x) W1 fun e W' =>
      (e = .returned (.bool true) ∧ ∃ s', (UW X most xb WW.heap.size l vb R s' W' ∧ s'.2 < 80000) ∧ C (pre ++ [x]) s' W') ∨ (e = .returned (.bool false) ∧ ∃ s', (UW X most xb WW.heap.size l vb R s' W' ∧ s'.2 < 80000) ∧ Cx (pre ++ [x]) s' W')) :
    CallsIn Fence.wide m Try.prog 51 #[.func (.yield l) #[] #[], .pointer (some ⟨ob, 0, none⟩), .pointer (some ⟨mo, 0, none⟩)] WW fun e W' => (∃ v, e = .returned v) ∧ ∃ s, (∃ E, DV X E s.2 s.1 W') ∧ (C (Du.uptoE most E []) s W' ∨ ∃ pre, pre <+: Du.uptoE most E [] ∧ Cx pre s W') := by
  obtain ⟨S, L, hv, wv, o, h1, h2, h3, h4, h5, h6, h7, h8, h9, h10⟩ := hVV.ex
  have q1 := qDueN
  refine callsIn_wide.2 ?_
  obtain ⟨ao, cap, hwv, _⟩ := ownK_form h5
  have hwv : wv = .slice ao 0 cap := hwv
  subst hwv
  have hb0 : Below WW.heap.size WW (WW.alloc (.cells #[.func (.yield l) #[] #[]] 27)) := (Below.refl _ _).alloc (Nat.le_refl _) _
  have y0 := Blk.new WW [.func (.yield l) #[] #[]] 27
  have k0 := (hB.kept (hb0.block _ hB.lt)).cell (i := 0) rfl
  have k2 := (hMB.kept (hb0.block _ hMB.lt)).cell (i := 0) rfl
  have h1a := h1.below hb0
  have h5a := ownK_below h5 hb0
  have hsz : (WW.alloc (.cells #[.func (.yield l) #[] #[]] 27)).heap.size = WW.heap.size + 1 := by simp
  go_enter Try.func51, Try.ntmps51
  go_wp2
  generalize WW.alloc (.cells #[.func (.yield l) #[] #[]] 27) = W0 at *
  have HY := Lib.hid hY
  have HC := Lib.hid hC
  have HCx := Lib.hid hCx
  have H0 := Lib.hid h0
  have HE := Lib.hid h3
  have HB0 := Lib.hid hb0
  have HYB : Hid (Blk W0.drew WW.heap.size [.func (.yield l) #[] #[]] 27) := Lib.hid (y0.drew 1)
  have HYL := Lib.hid (Nat.le_refl WW.heap.size)
  clear hY hC hCx h0 h3 hb0
  have H1 := Lib.hid (h1a.same (w' := W0.drew) rfl)
  have HO : Hid (OwnK encW 1 tWk 0 (.slice ao 0 cap) [] W0.drew) := Lib.hid h5a
  have K0 : Hid (W0.drew.cell? ⟨ob, 0, none⟩ = some (.pointer (some ⟨X, 0, none⟩))) := Lib.hid k0
  have K2 : Hid (W0.drew.cell? ⟨mo, 0, none⟩ = some (.int .i64 most)) := Lib.hid k2
  clear h1 h5 k0 k2 q1 h1a h5a y0
  generalize hyb : WW.heap.size = yb at *
  refine wp_region_slotsTL (by simp) slotLe (slotPhi ((fun v _ => v = ?o6) :: (fun v _ => v = ?o7) :: (fun v _ => v = ?o8) :: (fun v _ => v = ?o9) :: (fun v _ => v = ?o10) :: (fun v W' => ∃ B db mb fb u, v = nfD B fb db ∧ (∀ T, WalkE X B db mb fb S L most T (.slice ao 0 cap) hv u 0 W') ∧ W0.drew.heap.size ≤ B ∧ W0.drew.heap.size ≤ db ∧ W0.drew.heap.size ≤ mb ∧ W0.drew.heap.size ≤ fb ∧ (∀ b, u.ownBlock = some b → W0.drew.heap.size ≤ b)) :: (fun v _ => v = ?o12) :: [])) slotLe_refl slotLe_trans (slotPhi_stable ?stb) (by kernel_rfl) (by kernel_rfl) (by kernel_rfl) (by kernel_rfl) (by kernel_rfl) ?steps ?fin
  case stb =>
    refine ⟨by intro _ _ _ _ h; exact h, ?_⟩
    refine ⟨by intro _ _ _ _ h; exact h, ?_⟩
    refine ⟨by intro _ _ _ _ h; exact h, ?_⟩
    refine ⟨by intro _ _ _ _ h; exact h, ?_⟩
    refine ⟨by intro _ _ _ _ h; exact h, ?_⟩
    refine ⟨by rintro v x y h ⟨B, db, mb, fb, u, e, s, g⟩; exact ⟨B, db, mb, fb, u, e, fun T => (s T).below h, g⟩, ?_⟩
    refine ⟨by intro _ _ _ _ h; exact h, ?_⟩
    exact trivial
  case steps =>
    refine ⟨?_, ?_⟩
    · intro a W K N hK
      have e1 : a.tmps[1]?.getD undef = .pointer (some ⟨ob, 0, none⟩) := N.was' 1 _ (by kernel_rfl) rfl
      rw [if_pos (wanted_no rfl)]
      have z := keep_cell N.le K0.out
      go_simp
      refine hK _ _ (slotLe_refl _) ?_
      exact rfl
    refine ⟨?_, ?_⟩
    · intro a W K N hK
      have e6 : a.tmps[6]?.getD undef = _ := N.dep' 0 6 (by kernel_rfl)
      rw [if_pos (wanted_no rfl)]
      go_simp
      refine hK _ _ (slotLe_refl _) ?_
      exact rfl
    refine ⟨?_, ?_⟩
    · intro a W K N hK
      have e7 : a.tmps[7]?.getD undef = _ := N.dep' 1 7 (by kernel_rfl)
      rw [if_pos (wanted_no rfl)]
      go_simp
      refine hK _ _ (slotLe_refl _) ?_
      exact rfl
    refine ⟨?_, ?_⟩
    · intro a W K N hK
      have e1 : a.tmps[1]?.getD undef = .pointer (some ⟨ob, 0, none⟩) := N.was' 1 _ (by kernel_rfl) rfl
      rw [if_pos (wanted_no rfl)]
      have z := keep_cell N.le K0.out
      go_simp
      refine hK _ _ (slotLe_refl _) ?_
      exact rfl
    refine ⟨?_, ?_⟩
    · intro a W K N hK
      have e2 : a.tmps[2]?.getD undef = .pointer (some ⟨mo, 0, none⟩) := N.was' 2 _ (by kernel_rfl) rfl
      rw [if_pos (wanted_no rfl)]
      have z := keep_cell N.le K2.out
      go_simp
      refine hK _ _ (slotLe_refl _) ?_
      exact rfl
    refine ⟨?_, ?_⟩
    · intro a W K N hK
      have e9 : a.tmps[9]?.getD undef = _ := N.dep' 3 9 (by kernel_rfl)
      have e10 : a.tmps[10]?.getD undef = _ := N.dep' 4 10 (by kernel_rfl)
      rw [if_pos (wanted_no rfl)]
      have hl := H1.out.below N.le
      have hs := N.le.size
      go_simp
      go_at_call 53
      refine (dsteps_any hl h2 hN hmo).mono ?_
      rintro e w2 ⟨B, db, mb, fb, u, rfl, s2, b2, g1, g2, g3, g4, g5⟩
      go_simp
      refine hK _ _ b2 ?_
      exact ⟨B, db, mb, fb, u, rfl, s2, Nat.le_trans hs g1, Nat.le_trans hs g2, Nat.le_trans hs g3, Nat.le_trans hs g4, fun b e => Nat.le_trans hs (g5 b e)⟩
    refine ⟨?_, ?_⟩
    · intro a W K N hK
      have e3 : a.tmps[3]?.getD undef = .pointer (some ⟨yb, 0, none⟩) := N.was' 3 _ (by kernel_rfl) rfl
      rw [if_pos (wanted_no rfl)]
      go_simp
      refine hK _ _ (slotLe_refl _) ?_
      exact rfl
    exact trivial
  case fin =>
    intro V hV
    simp only [FinAll, slotPhi, List.dropLast, List.getLast_cons_cons, List.getLast_singleton, List.getD_cons_zero, List.getD_cons_succ, forall_eq, Act.put, List.setIfInBounds_toArray, List.set_cons_zero, List.set_cons_succ]
    intro v11 h11
    obtain ⟨B, db, mb, fb, u, rfl, s2, g1, g2, g3, g4, g5⟩ := h11
    have hb : Below W0.heap.size W0 V := (show Below W0.heap.size W0 W0.drew from ⟨rfl, rfl, rfl, Nat.le_refl _, fun _ _ => rfl⟩).trans hV
    have hB0' : Below WW.heap.size WW W0 := by rw [hyb]; exact HB0.out
    have hbw : Below WW.heap.size WW V := hB0'.trans (hb.mono hB0'.size)
    have hzz : WW.heap.size ≤ W0.heap.size := hB0'.size
    have tr : Trn f WW V := Trn.of_below hbw
    have gs : ∀ b, W0.heap.size ≤ b → b < V.heap.size → grow f WW V b := fun b h1 h2 => .inr ⟨by omega, h2⟩
    obtain ⟨T, hO, hT⟩ := h2.sorted most
    obtain ⟨s3, hw3, _⟩ := (s2 T).ex
    have hC3 := HC.out _ _ _ _ _ H0.out (mvW (s := (f, N)) tr)
    have yV := HYB.out.kept (hV.block _ HYB.out.lt)
    have hrun := drunW_in (m := m) (l := l) (yb := yb) (E := E) hm hN (f := grow f WW V) (s2 T) (ownK_below (enc := encW) HO.out hV) h2 hO HE.out h4 yV (.inr ⟨Nat.le_of_eq hyb, yV.lt⟩) (.inl hVV.fX) (.inl h6) (.inl h7) (fun b e => .inl (h8 b e)) (fun b e => .inl (h9 b e)) (fun b e => by obtain ⟨c, hc⟩ := own_blk' hw3.heap e; exact gs _ (g5 b e) hc.lt) (fun b e => .inl (h10 b e)) (gs _ g1 hw3.box.lt) (gs _ g2 hw3.dbx.lt) (gs _ g3 (s2 T).mbx.lt) (gs _ g4 (s2 T).fbx.lt) (fun k e => e.elim (fun e => Nat.lt_of_lt_of_le (hVV.fb k e) hbw.size) (fun e => e.2)) C Cx HC.out HCx.out hC3 (by rw [hT, ← HE.out]; exact HY.out)
    rw [hT, ← HE.out] at hrun
    unfold nfD at hrun ⊢
    go_wp2_with fail
    refine (callsIn_wide.1 hrun).mono ?_
    rintro e w' ⟨⟨v, rfl⟩, s, hV', hC'⟩
    go_wp2
    go_end0
    exact ⟨⟨_, rfl⟩, s, hV', hC'⟩
end
end Go.Proofs.Ytchlemajppnehaa

/- An LRU's Order, as an iterator. -/
set_option maxRecDepth 100000
namespace Go.Proofs.Ytchlemajppnehaa
open Go Go.RowKit Go.Shelf Go.Maps
theorem qLruN (w : World) (a : Addr) : (binOp .neq 44 (.pointer (some a)) (.pointer none)).run Try.prog w = .ok (.bool true) w := by kernel_rfl
section
variable {X : Nat} {most : Int} {P Q : List Int} {N m l ob : Nat} {f : Nat → Prop} {w WW : World}
theorem lorder_any (X : Nat) (w : World) :
    Calls Try.prog 65 #[.pointer (some ⟨X, 0, none⟩)] w fun e w' => e = .returned (.func (.func 80) #[] #[.pointer (some ⟨w.heap.size, 0, none⟩)]) ∧ w' = w.alloc (.cells #[.pointer (some ⟨X, 0, none⟩)] 44) := by
  go_enter Try.func65, Try.ntmps65
  go_wp2
  go_ret
  exact ⟨rfl, rfl⟩
set_option maxHeartbeats 4000000 in
theorem lorder_seq (hm : 1 ≤ m) (hN : N < 80000) (hVV : LV X most P Q N f WW) (hB : Blk WW ob [.pointer (some ⟨X, 0, none⟩)] 44)
    (C Cx : List Int → (Nat → Prop) → World → Prop) (hC : ∀ pre s s' W W', C pre s W → MvL s W s' W' → C pre s' W') (hCx : ∀ pre s s' W W', Cx pre s W → MvL s W s' W' → Cx pre s' W') (h0 : C [] f WW)
    (hY : ∀ t pre x R s W1, pre ++ x :: R = P ++ Q → UL X most P Q N t R s W1 → C pre s W1 → YieldAt Fence.wide (m - 1) Try.prog l (encK x) W1 fun e W' =>
      (e = .returned (.bool true) ∧ ∃ s', UL X most P Q N t R s' W' ∧ C (pre ++ [x]) s' W') ∨ (e = .returned (.bool false) ∧ ∃ s', UL X most P Q N t R s' W' ∧ Cx (pre ++ [x]) s' W')) :
    CallsIn Fence.wide m Try.prog 80 #[.func (.yield l) #[] #[], .pointer (some ⟨ob, 0, none⟩)] WW fun e W' => (∃ v, e = .returned v) ∧ ∃ s, LV X most P Q N s W' ∧ (C (P ++ Q) s W' ∨ ∃ pre, pre <+: P ++ Q ∧ Cx pre s W') := by
  obtain ⟨S, L, wv, p, q, h1, h2, h3, h4, h5, h6, h7, h8, h9', h10, h11, h12⟩ := hVV.ex
  have k0 := hB.cell (i := 0) rfl
  have hobl := hB.lt
  have q1 := qLruN
  refine callsIn_wide.2 ?_
  go_enter Try.func80, Try.ntmps80
  go_wp2
  obtain ⟨ao, cap, hwv, _⟩ := ownK_form h8
  have hwv : wv = .slice ao 0 cap := hwv
  subst hwv
  have HY := Lib.hid hY
  have HC := Lib.hid hC
  have HCx := Lib.hid hCx
  have H0 := Lib.hid h0
  have HP := Lib.hid h4
  have HQ := Lib.hid h5
  have HM := Lib.hid h3
  clear hY hC hCx h0 h4 h5 h3
  have H1 := Lib.hid (h1.same (w' := WW.drew) rfl)
  have HO : Hid (OwnK encW 1 tWp 0 (.slice ao 0 cap) [] WW.drew) := Lib.hid h8
  have K0 : Hid (WW.drew.cell? ⟨ob, 0, none⟩ = some (.pointer (some ⟨X, 0, none⟩))) := Lib.hid k0
  clear h1 h8 k0 q1
  refine wp_region_slotsTL (by simp) slotLe (slotPhi ((fun v _ => v = ?o5) :: (fun v _ => v = ?o6) :: (fun v _ => v = ?o7) :: (fun v _ => v = ?o8) :: (fun v W' => ∃ lb cb ab, v = nfL lb cb ab ∧ StepE X lb cb ab (p ++ q) 0 W' ∧ WW.drew.heap.size ≤ lb ∧ WW.drew.heap.size ≤ cb ∧ WW.drew.heap.size ≤ ab) :: (fun v _ => v = ?o10) :: [])) slotLe_refl slotLe_trans (slotPhi_stable ?stb) (by kernel_rfl) (by kernel_rfl) (by kernel_rfl) (by kernel_rfl) (by kernel_rfl) ?steps ?fin
  case stb =>
    refine ⟨by intro _ _ _ _ h; exact h, ?_⟩
    refine ⟨by intro _ _ _ _ h; exact h, ?_⟩
    refine ⟨by intro _ _ _ _ h; exact h, ?_⟩
    refine ⟨by intro _ _ _ _ h; exact h, ?_⟩
    refine ⟨by rintro v x y h ⟨lb, cb, ab, e, s, g⟩; exact ⟨lb, cb, ab, e, s.below h, g⟩, ?_⟩
    refine ⟨by intro _ _ _ _ h; exact h, ?_⟩
    exact trivial
  case steps =>
    refine ⟨?_, ?_⟩
    · intro a W K N hK
      have e1 : a.tmps[1]?.getD undef = .pointer (some ⟨ob, 0, none⟩) := N.was' 1 _ (by kernel_rfl) rfl
      rw [if_pos (wanted_no rfl)]
      have z := keep_cell N.le K0.out
      go_simp
      refine hK _ _ (slotLe_refl _) ?_
      exact rfl
    refine ⟨?_, ?_⟩
    · intro a W K N hK
      have e5 : a.tmps[5]?.getD undef = _ := N.dep' 0 5 (by kernel_rfl)
      rw [if_pos (wanted_no rfl)]
      go_simp
      refine hK _ _ (slotLe_refl _) ?_
      exact rfl
    refine ⟨?_, ?_⟩
    · intro a W K N hK
      have e6 : a.tmps[6]?.getD undef = _ := N.dep' 1 6 (by kernel_rfl)
      rw [if_pos (wanted_no rfl)]
      go_simp
      refine hK _ _ (slotLe_refl _) ?_
      exact rfl
    refine ⟨?_, ?_⟩
    · intro a W K N hK
      have e1 : a.tmps[1]?.getD undef = .pointer (some ⟨ob, 0, none⟩) := N.was' 1 _ (by kernel_rfl) rfl
      rw [if_pos (wanted_no rfl)]
      have z := keep_cell N.le K0.out
      go_simp
      refine hK _ _ (slotLe_refl _) ?_
      exact rfl
    refine ⟨?_, ?_⟩
    · intro a W K N hK
      have e8 : a.tmps[8]?.getD undef = _ := N.dep' 3 8 (by kernel_rfl)
      rw [if_pos (wanted_no rfl)]
      have hl := H1.out.below N.le
      have hs := N.le.size
      go_simp
      go_at_call 82
      refine (lsteps_any hl h2 (by omega)).mono ?_
      rintro e w2 ⟨lb, cb, ab, rfl, s2, b2, g1, g2, g3⟩
      go_simp
      refine hK _ _ b2 ?_
      exact ⟨lb, cb, ab, rfl, s2, Nat.le_trans hs g1, Nat.le_trans hs g2, Nat.le_trans hs g3⟩
    refine ⟨?_, ?_⟩
    · intro a W K N hK
      have e0 : a.tmps[0]?.getD undef = .func (.yield l) #[] #[] := N.was' 0 _ (by kernel_rfl) rfl
      rw [if_pos (wanted_no rfl)]
      go_simp
      refine hK _ _ (slotLe_refl _) ?_
      exact rfl
    exact trivial
  case fin =>
    intro V hV
    simp only [FinAll, slotPhi, List.dropLast, List.getLast_cons_cons, List.getLast_singleton, List.getD_cons_zero, List.getD_cons_succ, forall_eq, Act.put, List.setIfInBounds_toArray, List.set_cons_zero, List.set_cons_succ]
    intro v9 h9
    obtain ⟨lb, cb, ab, rfl, s2, g1, g2, g3⟩ := h9
    have hb : Below WW.heap.size WW V := (show Below WW.heap.size WW WW.drew from ⟨rfl, rfl, rfl, Nat.le_refl _, fun _ _ => rfl⟩).trans hV
    have tr : Trn f WW V := Trn.of_below hb
    have gs : ∀ b, WW.heap.size ≤ b → b < V.heap.size → grow f WW V b := fun b h1 h2 => .inr ⟨h1, h2⟩
    have b1 := s2.left.lt
    have b2 := s2.box.lt
    have b3 := s2.at_.lt
    have hC3 := HC.out _ _ _ _ _ H0.out (mvL tr)
    have hfs : ∀ b, L.sv.ownBlock = some b → grow f WW V b ∧ b ≠ lb ∧ b ≠ ab := fun b e => by
      have h1 := h11 b e
      have h2 := hVV.fb b h1
      have g1 : WW.heap.size ≤ lb := g1
      have g3 : WW.heap.size ≤ ab := g3
      exact ⟨.inl h1, by omega, by omega⟩
    have hrun := lrun_in (m := m) (l := l) hm hN (f := grow f WW V) (H1.out.below hV) (ownK_below (enc := encW) HO.out hV) h2 HM.out HP.out HQ.out h6 h7 s2 (.inl hVV.fX) (.inl h9') (.inl h10) hfs (fun b e => .inl (h12 b e)) (gs _ g1 b1) (gs _ g2 b2) (gs _ g3 b3) (fun k e => e.elim (fun e => Nat.lt_of_lt_of_le (hVV.fb k e) hb.size) (fun e => e.2)) C Cx HC.out HCx.out hC3 HY.out
    unfold nfL at hrun ⊢
    go_wp2_with fail
    refine (callsIn_wide.1 hrun).mono ?_
    rintro e w' ⟨⟨v, rfl⟩, s, hV', hC'⟩
    go_wp2
    go_end0
    exact ⟨⟨_, rfl⟩, s, hV', hC'⟩
end
end Go.Proofs.Ytchlemajppnehaa

/- As SeqW: the iterator may ask something of the world where it begins. -/
namespace Go.Proofs.Ytchlemajppnehaa
open Go Go.RowKit
variable {F : Fence} {n : Nat} {P : Program} {α σ τ : Type}
/-- The contract of an iterator that walks: V: the structure at rest; U t R: it is walked by t, and R is still to be told; Mv: what the iterator itself does between the rounds; T: what it tells. -/
def SeqZ (F : Fence) (n : Nat) (P : Program) (g : Nat) (lb : Array Value) (encs : α → Array Value) (Z : World → Prop) (V : σ → World → Prop) (U : τ → List α → σ → World → Prop) (Mv : σ → World → σ → World → Prop) (T : List α) (s0 : σ) : Prop :=
  ∀ (l : Nat) (C Cx : List α → σ → World → Prop) (W : World), Z W → V s0 W → (∀ pre s s' W W', C pre s W → Mv s W s' W' → C pre s' W') → (∀ pre s s' W W', Cx pre s W → Mv s W s' W' → Cx pre s' W') → C [] s0 W →
    (∀ t pre x R s W1, pre ++ x :: R = T → U t R s W1 → C pre s W1 → YieldAt F (n - 1) P l (encs x) W1 fun e W' =>
      (e = .returned (.bool true) ∧ ∃ s', U t R s' W' ∧ C (pre ++ [x]) s' W') ∨ (e = .returned (.bool false) ∧ ∃ s', U t R s' W' ∧ Cx (pre ++ [x]) s' W')) →
    CallsIn F n P g (#[.func (.yield l) #[] #[]] ++ lb) W fun e W' => (∃ v, e = .returned v) ∧ ∃ s, V s W' ∧ (C T s W' ∨ ∃ pre, pre <+: T ∧ Cx pre s W')
theorem wpIn_rangeFunc_Z {g : Operand} {ps : Array Tmp} {assign body : Code} {Q : Exit → Act → World → Prop} {a : Act} {w : World}
    (hro : F.round = none) (h1 : 1 ≤ n) {gf : Nat} {lb : Array Value} (hg : a.eval g = .func (.func gf) #[] lb) (hFg : F.fn gf) (eg : ∀ args w, (callFunc gf args).run P w = .ok (.enter gf args) w)
    {encs : α → Array Value} {Z : World → Prop} {V : σ → World → Prop} {U : τ → List α → σ → World → Prop} {Mv : σ → World → σ → World → Prop} {T : List α} {s0 : σ} (hseq : SeqZ F (n - 1) P gf lb encs Z V U Mv T s0)
    (hZa : ∀ W o, Z W → Z (W.alloc o)) (hZ0 : Z w) (hVa : ∀ s W o, V s W → V s (W.alloc o)) (hVb : BookOk V) (hUb : ∀ t R, BookOk (U t R)) (hMb : ∀ s W s' W', Mv s W s' W' → ∀ (k : Nat) (o : Obj), W.heap[k]? = some o → isBook o = true → W'.heap[k]? = some o) (hps : ∀ x, (encs x).size = ps.size)
    (I : List α → σ → World → Prop) (Ix : Code → List α → σ → World → Prop) (hI : ∀ s, OwnBk w.heap.size (fun pre W => I pre s W)) (hIx : ∀ c s, OwnBk w.heap.size (fun pre W => Ix c pre s W))
    (hIm : ∀ pre s s' W W', I pre s W → Mv s W s' W' → I pre s' W') (hIxm : ∀ c pre s s' W W', Ix c pre s W → Mv s W s' W' → Ix c pre s' W') (hV0 : V s0 w) (h0 : I [] s0 w) (a₁ : α → Act)
    (hassign : ∀ (l : Nat) (x : α) (W : World) (K : Act → World → Prop), K (a₁ x) W →
      assign.wpIn (F.inRound l) (n - 1 - 1) P (Exit.then K (fun _ _ _ => False)) { tmps := (ps.zip (encs x)).foldl (fun t (p, v) => t.setIfInBounds p v) a.tmps, defers := [] } W)
    (hbody : ∀ (l : Nat) (t : τ) (pre : List α) (x : α) (R : List α) (s : σ) (W : World), pre ++ x :: R = T → U t R s W → I pre s W → body.wpIn (F.inRound l) (n - 1 - 1) P (postW w.heap.size (U t) I Ix (pre ++ [x]) R W) (a₁ x) W)
    (hdone : ∀ (D : Nat) (s : σ) (W : World), w.heap.size ≤ D → V s W → I T s W → W.heap[D]? = some (.deferred (some [])) → Q .normal { a with defers := { target := .collected D, args := #[] } :: a.defers } W)
    (hstop : ∀ (D : Nat) (c : Code) (pre : List α) (s : σ) (W : World), w.heap.size ≤ D → pre <+: T → V s W → Ix c pre s W → W.heap[D]? = some (.deferred (some [])) → c.wpIn F n P Q { a with defers := { target := .collected D, args := #[] } :: a.defers } W) :
    (Code.rangeFunc g ps assign body).wpIn F n P Q a w := by
  refine wpIn_rangeFunc ?_
  intro fn hfn
  rw [hro]
  obtain ⟨rec, hrec⟩ : ∃ rec : LoopState → Option Code → Loop, rec = fun st pe => { state := st, pending := pe, fn, tmps := a.tmps, params := ps, assign, body, defers := w.heap.size } := ⟨_, rfl⟩
  obtain ⟨W1, hW1⟩ : ∃ W1, (w.alloc (.deferred (some []))).alloc (.loop (rec .ready none)) = W1 := ⟨_, rfl⟩
  have hsz1 : W1.heap.size = w.heap.size + 2 := by rw [← hW1]; simp
  have hL1 : W1.heap[w.heap.size + 1]? = some (.loop (rec .ready none)) := by
    rw [← hW1]; have := World.alloc_heap_new (w.alloc (.deferred (some []))) (.loop (rec .ready none)); rwa [World.size_alloc] at this
  have hK1 : W1.heap[w.heap.size]? = some (.deferred (some [])) := by
    rw [← hW1]; exact (Below.heap_alloc _ _ _ (by simp)).trans (World.alloc_heap_new w _)
  have hI1 : I [] s0 W1 := by rw [← hW1]; exact (hI s0).alloc (I := fun pre W => I pre s0 W) _ ((hI s0).alloc (I := fun pre W => I pre s0 W) _ h0)
  have hZ1 : Z W1 := by rw [← hW1]; exact hZa _ _ (hZa _ _ hZ0)
  have hV1 : V s0 W1 := by rw [← hW1]; exact hVa _ _ _ (hVa _ _ _ hV0)
  refine ⟨w.heap.size + 1, [{ target := .collected w.heap.size, args := #[] }], W1, { target := .fn (.func gf) lb, args := #[.func (.yield (w.heap.size + 1)) #[] #[]] }, W1, gf,
    #[.func (.yield (w.heap.size + 1)) #[] #[]] ++ lb, W1, ?_, ?_, ?_, ?_, fun _ => h1, ?_⟩
  · rw [← hW1, hrec]; exact run_enterLoop_outer _ _ _ _ _
  · simp only [resolve, hg]
    simp [go_sem]
  · intro f' hf'; simp [Target.leads] at hf'; subst hf'; exact hFg
  · simp [invoke, go_sem, eg]
  · refine (hseq (w.heap.size + 1)
      (fun pre s W => I pre s W ∧ W.heap[w.heap.size + 1]? = some (.loop (rec .ready none)) ∧ W.heap[w.heap.size]? = some (.deferred (some [])))
      (fun pre s W => ∃ c, Ix c pre s W ∧ W.heap[w.heap.size + 1]? = some (.loop (rec .done (some c))) ∧ W.heap[w.heap.size]? = some (.deferred (some [])))
      W1 hZ1 hV1
      (fun pre s s' A B hs hm => ⟨hIm pre s s' A B hs.1 hm, hMb _ _ _ _ hm _ _ hs.2.1 rfl, hMb _ _ _ _ hm _ _ hs.2.2 rfl⟩)
      (fun pre s s' A B hs hm => by
        obtain ⟨c, hc, hl, hk⟩ := hs
        exact ⟨c, hIxm c pre s s' A B hc hm, hMb _ _ _ _ hm _ _ hl rfl, hMb _ _ _ _ hm _ _ hk rfl⟩)
      ⟨hI1, hL1, hK1⟩ ?_).mono ?_
    · rintro tk pre x R s W hT hU ⟨hi, hl, hk⟩
      have hlt : w.heap.size + 1 < W.heap.size := (Array.getElem?_eq_some_iff.1 hl).1
      have hy := run_yield (P := P) (args := encs x) hl (by rw [hrec]; exact hps x)
      rw [hrec] at hy
      refine ⟨fn, _, assign, body, hy, roundIn_of_wpIn hfn (hassign _ x W _ ?_)⟩
      clear hy
      refine ⟨_, run_beginRound hl (by rw [hrec]), ?_⟩
      have hl2 : (W.putObj (w.heap.size + 1) (.loop { rec .ready none with state := .busy })).heap[w.heap.size + 1]? = some (.loop { rec .ready none with state := .busy }) := World.putObj_heap_same hlt
      have hk2 : (W.putObj (w.heap.size + 1) (.loop { rec .ready none with state := .busy })).heap[w.heap.size]? = some (.deferred (some [])) := (World.putObj_heap_other (by omega)).trans hk
      refine wpIn_mono (hbody _ tk pre x R s _ hT (hUb tk R s _ _ _ _ hU hl rfl) ((hI s).putObj (I := fun pre W => I pre s W) _ hi (by omega) hl rfl)) ?_
      have fin : ∀ (jump : Option Code) (W3 : World), KeepsBk w.heap.size (W.putObj (w.heap.size + 1) (.loop { rec .ready none with state := .busy })) W3 →
          (Instr.endRound (w.heap.size + 1) jump).run P W3 = .ok (.bool jump.isNone) (W3.putObj (w.heap.size + 1) (.loop (rec (if jump.isNone then .ready else .done) jump))) ∧
          W3.heap[w.heap.size + 1]? = some (.loop { rec .ready none with state := .busy }) ∧
          (W3.putObj (w.heap.size + 1) (.loop (rec (if jump.isNone then .ready else .done) jump))).heap[w.heap.size + 1]? = some (.loop (rec (if jump.isNone then .ready else .done) jump)) ∧
          (W3.putObj (w.heap.size + 1) (.loop (rec (if jump.isNone then .ready else .done) jump))).heap[w.heap.size]? = some (.deferred (some [])) := fun jump W3 hk3 => by
        have hl3 := hk3.same _ _ (by omega) hl2 rfl
        have := run_endRound (P := P) jump hl3
        rw [hrec] at this ⊢
        exact ⟨this, by rw [hrec] at hl3; exact hl3, World.putObj_heap_same (Array.getElem?_eq_some_iff.1 hl3).1, (World.putObj_heap_other (by omega)).trans (hk3.same _ _ (Nat.le_refl _) hk2 rfl)⟩
      rintro e a3 W3 hp
      cases e with
      | normal =>
        obtain ⟨hk3, s3, hU3, hi3⟩ := hp
        obtain ⟨hr, hl3, hl4, hk4⟩ := fin none W3 hk3
        exact ⟨_, _, hr, .inl ⟨rfl, s3, hUb tk R s3 _ _ _ _ hU3 hl3 rfl, (hI s3).putObj (I := fun pre W => I pre s3 W) _ hi3 (by omega) hl3 rfl, hl4, hk4⟩⟩
      | ret =>
        obtain ⟨hk3, s3, hU3, hi3⟩ := hp
        obtain ⟨hr, hl3, hl4, hk4⟩ := fin (some .ret) W3 hk3
        exact ⟨_, _, hr, .inr ⟨rfl, s3, hUb tk R s3 _ _ _ _ hU3 hl3 rfl, .ret, (hIx _ s3).putObj (I := fun pre W => Ix _ pre s3 W) _ hi3 (by omega) hl3 rfl, hl4, hk4⟩⟩
      | exit id =>
        obtain ⟨hk3, s3, hU3, hi3⟩ := hp
        obtain ⟨hr, hl3, hl4, hk4⟩ := fin (some (.exit id)) W3 hk3
        exact ⟨_, _, hr, .inr ⟨rfl, s3, hUb tk R s3 _ _ _ _ hU3 hl3 rfl, .exit id, (hIx _ s3).putObj (I := fun pre W => Ix _ pre s3 W) _ hi3 (by omega) hl3 rfl, hl4, hk4⟩⟩
      | goto t =>
        obtain ⟨hk3, s3, hU3, hi3⟩ := hp
        obtain ⟨hr, hl3, hl4, hk4⟩ := fin (some (.goto t)) W3 hk3
        exact ⟨_, _, hr, .inr ⟨rfl, s3, hUb tk R s3 _ _ _ _ hU3 hl3 rfl, .goto t, (hIx _ s3).putObj (I := fun pre W => Ix _ pre s3 W) _ hi3 (by omega) hl3 rfl, hl4, hk4⟩⟩
      | panic ch => exact hp.elim
      | outgrown => exact hp.elim
    · rintro e W2 ⟨⟨v, rfl⟩, s2, hV2, (⟨hi, hl, hk⟩ | ⟨pre, hpre, c, hi, hl, hk⟩)⟩
      · exact ⟨none, _, by have := run_endLoop (P := P) hl (by rw [hrec]; simp); rw [hrec] at this; exact this, hdone _ s2 _ (Nat.le_refl _) (hVb s2 _ _ _ _ hV2 hl rfl) ((hI s2).putObj (I := fun pre W => I pre s2 W) _ hi (by omega) hl rfl) ((World.putObj_heap_other (by omega)).trans hk)⟩
      · exact ⟨some c, _, by have := run_endLoop (P := P) hl (by rw [hrec]; simp); rw [hrec] at this; exact this, hstop _ c pre s2 _ (Nat.le_refl _) hpre (hVb s2 _ _ _ _ hV2 hl rfl) ((hIx c s2).putObj (I := fun pre W => Ix c pre s2 W) _ hi (by omega) hl rfl) ((World.putObj_heap_other (by omega)).trans hk)⟩
end Go.Proofs.Ytchlemajppnehaa

/- The document's own Due: Set. -/
set_option maxRecDepth 100000
namespace Go.Proofs.Ytchlemajppnehaa
open Go Go.RowKit Go.Shelf
/-- append(v, y...) at the operation, in plain mode, whatever is appended. -/
theorem wpList_apR {α : Type} {enc : α → List Value} {P : Program} {k : Nat} (hk : ∀ a, (enc a).length = k) (h0 : 0 < k) (henc : ∀ a, ∀ u ∈ enc a, u.oneCell' = true) {x : Nat → Prop} {w : World} {t e : TypeId} {z : Value} {bytes : Nat} (h1 : P.underlying t = some (.slice e))
    (h2 : (P.info? e).map (fun i => (i.zero, i.size, i.bytes)) = some (some z, k, bytes)) (hz : z.cells.size = k) (b2 : bytes ≤ 1000) {ops : Array Oper} {rest : List Oper} {o : Oper} {a : Act} {Q : Exit → Act → World → Prop} (hg : o.guard = none)
    (s y : Operand) (hop : o.op = Op.call { callee := Callee.builtin Builtin.append, args := #[s, y], argTypes := #[t, t] })
    (base : Nat) (v : Value) (l : List α) (hs : a.eval s = v) (hown : OwnK enc k e base v l w) (yv : Value) (news : List α) (hy : a.eval y = yv) (hr : RK enc x yv news w) (b1 : l.length + news.length ≤ 1000000) (hb : base ≤ w.heap.size)
    (hK : ∀ v' w', OwnK enc k e base v' (l ++ news) w' → w.grownBy w' v.ownBlock → (v'.ownBlock = v.ownBlock ∨ v'.ownBlock = some w.heap.size) → wpList P ops Q rest (a.put o.dst v') w') :
    wpList P ops Q (o :: rest) a w := by
  refine wpList_plain hg fun K' hK' => ?_
  obtain ⟨v', w', hrun, r1, r2, r3⟩ := run_apRK (P := P) hk h0 henc w base t o.type e z bytes h1 h2 hz v l hown yv news hr b1 b2 hb
  unfold Oper.wp
  simp [execOp, hop, resolve, invoke, builtin, hs, hy, hrun, Result.andThen]
  exact hK' _ _ (hK v' w' r1 r2 r3)
theorem below_ownQ {α : Type} {enc : α → List Value} {k : Nat} {e : TypeId} {base : Nat} {v : Value} {l : List α} {w w' : World} (h : OwnK enc k e base v l w) (hg : w.grownBy w' v.ownBlock) (hb : base ≤ w.heap.size) : Below base w w' := below_ownK h hg hb
end Go.Proofs.Ytchlemajppnehaa

/- The document's own LRU: what lies in memory; Add. -/
set_option maxRecDepth 100000
namespace Go.Proofs.Ytchlemajppnehaa
open Go Go.RowKit Go.Shelf
section
variable {x : Nat → Prop} {m : Nat} {most : Int} {P Q : List Int} {w w' : World}
theorem plc_neg {k : Int} {l : List Int} (h : k ∉ l) : decide (plc k l 0 < 0) = true := by rw [plc_none h]; rfl
theorem plc_pos {k : Int} {l : List Int} (h : k ∈ l) : decide (plc k l 0 < 0) = false := by
  obtain ⟨j, _, h2, _⟩ := plc_some (i := 0) h
  rw [h2]
  simp
end
end Go.Proofs.Ytchlemajppnehaa

/- The document's own LRU: Order. -/
set_option maxRecDepth 100000
namespace Go.Proofs.Ytchlemajppnehaa
open Go Go.RowKit Go.Shelf
attribute [local go_sem] Oper.semAt_some
end Go.Proofs.Ytchlemajppnehaa

/- The document's own LRU: where one is, in any order drawn. -/
set_option maxRecDepth 100000
namespace Go.Proofs.Ytchlemajppnehaa
open Go Go.RowKit Go.Shelf
theorem erase_first {k : Int} : ∀ {l : List Int} {j : Nat}, l[j]? = some k → (∀ z, z < j → l[z]? ≠ some k) → l.erase k = l.take j ++ l.drop (j + 1)
  | [], j, h, _ => by simp at h
  | y :: l, 0, h, _ => by
    have : y = k := by simpa using h
    subst this
    simp
  | y :: l, j + 1, h, hz => by
    have hne : y ≠ k := fun e => hz 0 (by omega) (by simp [e])
    rw [List.erase_cons_tail (by simpa using hne), erase_first (j := j) (by simpa using h) (fun z hj => by have := hz (z + 1) (by omega); simpa using this)]
    rfl
section
variable {x : Nat → Prop} {m : Nat} {most : Int} {P Q : List Int} {w w' : World}
theorem plc_ge {k : Int} {l : List Int} (h : k ∈ l) : ∃ j, j < l.length ∧ plc k l 0 = (j : Int) ∧ l.erase k = l.take j ++ l.drop (j + 1) := by
  obtain ⟨j, h1, h2, h3, h4⟩ := plc_some (i := 0) h
  exact ⟨j, h1, by rw [h2, Nat.zero_add], erase_first h3 h4⟩
end
end Go.Proofs.Ytchlemajppnehaa

/- The document's own LRU: Drop. -/
set_option maxRecDepth 100000
namespace Go.Proofs.Ytchlemajppnehaa
open Go Go.RowKit Go.Shelf
attribute [local go_sem] Oper.semAt_some
section
variable {x : Nat → Prop} {m : Nat} {most : Int} {P Q : List Int} {w w' : World}
end
end Go.Proofs.Ytchlemajppnehaa

/- The document's own LRU: Touch of one who is nowhere, and of one who is protected. -/
set_option maxRecDepth 100000
namespace Go.Proofs.Ytchlemajppnehaa
open Go Go.RowKit Go.Shelf
section
variable {x : Nat → Prop} {m : Nat} {most : Int} {P Q : List Int} {w w' : World}
end
end Go.Proofs.Ytchlemajppnehaa
