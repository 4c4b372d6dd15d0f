/- 6 texts put together: Dupto, Mdt, Upb, Lnil, Ints, Same9. -/
import Derived.LoopTactic
import Derived.BigQuiet
import Derived.Laws.StructEq
import Derived.Test.YtjaejdenboggpaaJB6
import Derived.Test.YtjaejdenboggpaaJB7
import Derived.Test.YtjaejdenboggpaaJB13
import Derived.Test.YtjaejdenboggpaaJB14
import Derived.Test.YtjaejdenboggpaaJB17
import Derived.Test.YtjaejdenboggpaaJB18
import Derived.Test.YtjaejdenboggpaaJB20
import Derived.Test.YtjaejdenboggpaaJB22
import Derived.Test.YtjaejdenboggpaaJB24
/- Who is by then, told to a loop. -/
set_option maxRecDepth 100000
namespace Go.Proofs.Ytjaejdenboggpaa
open Go Go.RowKit Go.Shelf Go.Maps
theorem qDueN (w : World) (a : Addr) : (binOp .neq 41 (.pointer (some a)) (.pointer none)).run Try.prog w = .ok (.bool true) w := by kernel_rfl
section
variable {X : Nat} {E : List (Int × Int)} {most : Int} {N m l ob mo : Nat} {f : Nat → Prop} {w WW : World}
theorem dupto_any (X : Nat) (most : Int) (w : World) :
    Calls Try.prog 34 #[.pointer (some ⟨X, 0, none⟩), .int .i64 most] w fun e w' => e = .returned (.func (.func 60) #[] #[.pointer (some ⟨w.heap.size, 0, none⟩), .pointer (some ⟨w.heap.size + 1, 0, none⟩)]) ∧ w' = (w.alloc (.cells #[.pointer (some ⟨X, 0, none⟩)] 41)).alloc (.cells #[.int .i64 most] 3) := by
  go_enter Try.func34, Try.ntmps34
  go_wp2
  go_ret
  exact ⟨rfl, rfl⟩
set_option maxHeartbeats 4000000 in
theorem dupto_seq (hm : 1 ≤ m) (hN : N < 80000) (hmo : I64 most) (hVV : DV X E N f WW) (hB : Blk WW ob [.pointer (some ⟨X, 0, none⟩)] 41) (hMB : Blk WW mo [.int .i64 most] 3)
    (C Cx : List (Int × Int) → (Nat → Prop) → World → Prop) (hC : ∀ pre s s' W W', C pre s W → MvL s W s' W' → C pre s' W') (hCx : ∀ pre s s' W W', Cx pre s W → MvL s W s' W' → Cx pre s' W') (h0 : C [] f WW)
    (hY : ∀ xb vb pre x R s W1, pre ++ x :: R = Du.uptoE most E [] → UDx X E most N xb WW.heap.size l vb R s W1 → C pre s W1 → YieldAt Fence.wide (m - 1) Try.prog l (encP x) W1 fun e W' =>
      (e = .returned (.bool true) ∧ ∃ s', UDx X E most N xb WW.heap.size l vb R s' W' ∧ C (pre ++ [x]) s' W') ∨ (e = .returned (.bool false) ∧ ∃ s', UDx X E most N xb WW.heap.size l vb R s' W' ∧ Cx (pre ++ [x]) s' W')) :
    CallsIn Fence.wide m Try.prog 60 #[.func (.yield l) #[] #[], .pointer (some ⟨ob, 0, none⟩), .pointer (some ⟨mo, 0, none⟩)] WW fun e W' => (∃ v, e = .returned v) ∧ ∃ s, DV X E N s W' ∧ (C (Du.uptoE most E []) s W' ∨ ∃ pre, pre <+: Du.uptoE most E [] ∧ Cx pre s W') := by
  obtain ⟨S, L, hv, wv, o, h1, h2, h3, h4, h5, h6, h7, h8, h9, h10⟩ := hVV.ex
  have q1 := qDueN
  refine callsIn_wide.2 ?_
  obtain ⟨ao, cap, hwv, _⟩ := ownK_form h5
  have hwv : wv = .slice ao 0 cap := hwv
  subst hwv
  have hb0 : Below WW.heap.size WW (WW.alloc (.cells #[.func (.yield l) #[] #[]] 61)) := (Below.refl _ _).alloc (Nat.le_refl _) _
  have y0 := Blk.new WW [.func (.yield l) #[] #[]] 61
  have k0 := (hB.kept (hb0.block _ hB.lt)).cell (i := 0) rfl
  have k2 := (hMB.kept (hb0.block _ hMB.lt)).cell (i := 0) rfl
  have h1a := h1.below hb0
  have h5a := ownK_below h5 hb0
  have hsz : (WW.alloc (.cells #[.func (.yield l) #[] #[]] 61)).heap.size = WW.heap.size + 1 := by simp
  go_enter Try.func60, Try.ntmps60
  go_wp2
  generalize WW.alloc (.cells #[.func (.yield l) #[] #[]] 61) = W0 at *
  have HY := Lib.hid hY
  have HC := Lib.hid hC
  have HCx := Lib.hid hCx
  have H0 := Lib.hid h0
  have HE := Lib.hid h3
  have HB0 := Lib.hid hb0
  have HYB : Hid (Blk W0.drew WW.heap.size [.func (.yield l) #[] #[]] 61) := Lib.hid (y0.drew 1)
  have HYL := Lib.hid (Nat.le_refl WW.heap.size)
  clear hY hC hCx h0 h3 hb0
  have H1 := Lib.hid (h1a.same (w' := W0.drew) rfl)
  have HO : Hid (OwnK encW 1 tWk 0 (.slice ao 0 cap) [] W0.drew) := Lib.hid h5a
  have K0 : Hid (W0.drew.cell? ⟨ob, 0, none⟩ = some (.pointer (some ⟨X, 0, none⟩))) := Lib.hid k0
  have K2 : Hid (W0.drew.cell? ⟨mo, 0, none⟩ = some (.int .i64 most)) := Lib.hid k2
  clear h1 h5 k0 k2 q1 h1a h5a y0
  generalize hyb : WW.heap.size = yb at *
  refine wp_region_slotsTL (by simp) slotLe (slotPhi ((fun v _ => v = ?o6) :: (fun v _ => v = ?o7) :: (fun v _ => v = ?o8) :: (fun v _ => v = ?o9) :: (fun v _ => v = ?o10) :: (fun v W' => ∃ B db mb fb u, v = nfD B fb db ∧ (∀ T, WalkE X B db mb fb S L most T (.slice ao 0 cap) hv u 0 W') ∧ W0.drew.heap.size ≤ B ∧ W0.drew.heap.size ≤ db ∧ W0.drew.heap.size ≤ mb ∧ W0.drew.heap.size ≤ fb ∧ (∀ b, u.ownBlock = some b → W0.drew.heap.size ≤ b)) :: (fun v _ => v = ?o12) :: [])) slotLe_refl slotLe_trans (slotPhi_stable ?stb) (by kernel_rfl) (by kernel_rfl) (by kernel_rfl) (by kernel_rfl) (by kernel_rfl) ?steps ?fin
  case stb =>
    refine ⟨by intro _ _ _ _ h; exact h, ?_⟩
    refine ⟨by intro _ _ _ _ h; exact h, ?_⟩
    refine ⟨by intro _ _ _ _ h; exact h, ?_⟩
    refine ⟨by intro _ _ _ _ h; exact h, ?_⟩
    refine ⟨by intro _ _ _ _ h; exact h, ?_⟩
    refine ⟨by rintro v x y h ⟨B, db, mb, fb, u, e, s, g⟩; exact ⟨B, db, mb, fb, u, e, fun T => (s T).below h, g⟩, ?_⟩
    refine ⟨by intro _ _ _ _ h; exact h, ?_⟩
    exact trivial
  case steps =>
    refine ⟨?_, ?_⟩
    · intro a W K N hK
      have e1 : a.tmps[1]?.getD undef = .pointer (some ⟨ob, 0, none⟩) := N.was' 1 _ (by kernel_rfl) rfl
      rw [if_pos (wanted_no rfl)]
      have z := keep_cell N.le K0.out
      go_simp
      refine hK _ _ (slotLe_refl _) ?_
      exact rfl
    refine ⟨?_, ?_⟩
    · intro a W K N hK
      have e6 : a.tmps[6]?.getD undef = _ := N.dep' 0 6 (by kernel_rfl)
      rw [if_pos (wanted_no rfl)]
      go_simp
      refine hK _ _ (slotLe_refl _) ?_
      exact rfl
    refine ⟨?_, ?_⟩
    · intro a W K N hK
      have e7 : a.tmps[7]?.getD undef = _ := N.dep' 1 7 (by kernel_rfl)
      rw [if_pos (wanted_no rfl)]
      go_simp
      refine hK _ _ (slotLe_refl _) ?_
      exact rfl
    refine ⟨?_, ?_⟩
    · intro a W K N hK
      have e1 : a.tmps[1]?.getD undef = .pointer (some ⟨ob, 0, none⟩) := N.was' 1 _ (by kernel_rfl) rfl
      rw [if_pos (wanted_no rfl)]
      have z := keep_cell N.le K0.out
      go_simp
      refine hK _ _ (slotLe_refl _) ?_
      exact rfl
    refine ⟨?_, ?_⟩
    · intro a W K N hK
      have e2 : a.tmps[2]?.getD undef = .pointer (some ⟨mo, 0, none⟩) := N.was' 2 _ (by kernel_rfl) rfl
      rw [if_pos (wanted_no rfl)]
      have z := keep_cell N.le K2.out
      go_simp
      refine hK _ _ (slotLe_refl _) ?_
      exact rfl
    refine ⟨?_, ?_⟩
    · intro a W K N hK
      have e9 : a.tmps[9]?.getD undef = _ := N.dep' 3 9 (by kernel_rfl)
      have e10 : a.tmps[10]?.getD undef = _ := N.dep' 4 10 (by kernel_rfl)
      rw [if_pos (wanted_no rfl)]
      have hl := H1.out.below N.le
      have hs := N.le.size
      go_simp
      go_at_call 62
      refine (dsteps_any hl h2 hN hmo).mono ?_
      rintro e w2 ⟨B, db, mb, fb, u, rfl, s2, b2, g1, g2, g3, g4, g5⟩
      go_simp
      refine hK _ _ b2 ?_
      exact ⟨B, db, mb, fb, u, rfl, s2, Nat.le_trans hs g1, Nat.le_trans hs g2, Nat.le_trans hs g3, Nat.le_trans hs g4, fun b e => Nat.le_trans hs (g5 b e)⟩
    refine ⟨?_, ?_⟩
    · intro a W K N hK
      have e3 : a.tmps[3]?.getD undef = .pointer (some ⟨yb, 0, none⟩) := N.was' 3 _ (by kernel_rfl) rfl
      rw [if_pos (wanted_no rfl)]
      go_simp
      refine hK _ _ (slotLe_refl _) ?_
      exact rfl
    exact trivial
  case fin =>
    intro V hV
    simp only [FinAll, slotPhi, List.dropLast, List.getLast_cons_cons, List.getLast_singleton, List.getD_cons_zero, List.getD_cons_succ, forall_eq, Act.put, List.setIfInBounds_toArray, List.set_cons_zero, List.set_cons_succ]
    intro v11 h11
    obtain ⟨B, db, mb, fb, u, rfl, s2, g1, g2, g3, g4, g5⟩ := h11
    have hb : Below W0.heap.size W0 V := (show Below W0.heap.size W0 W0.drew from ⟨rfl, rfl, rfl, Nat.le_refl _, fun _ _ => rfl⟩).trans hV
    have hB0' : Below WW.heap.size WW W0 := by rw [hyb]; exact HB0.out
    have hbw : Below WW.heap.size WW V := hB0'.trans (hb.mono hB0'.size)
    have hzz : WW.heap.size ≤ W0.heap.size := hB0'.size
    have tr : Trn f WW V := Trn.of_below hbw
    have gs : ∀ b, W0.heap.size ≤ b → b < V.heap.size → grow f WW V b := fun b h1 h2 => .inr ⟨by omega, h2⟩
    obtain ⟨T, hO, hT⟩ := h2.sorted most
    obtain ⟨s3, hw3, _⟩ := (s2 T).ex
    have hC3 := HC.out _ _ _ _ _ H0.out (mvL tr)
    have yV := HYB.out.kept (hV.block _ HYB.out.lt)
    have hrun := drun_in (m := m) (l := l) (yb := yb) (E := E) hm hN (f := grow f WW V) (s2 T) (ownK_below (enc := encW) HO.out hV) h2 hO HE.out h4 yV (.inr ⟨Nat.le_of_eq hyb, yV.lt⟩) (.inl hVV.fX) (.inl h6) (.inl h7) (fun b e => .inl (h8 b e)) (fun b e => .inl (h9 b e)) (fun b e => by obtain ⟨c, hc⟩ := own_blk' hw3.heap e; exact gs _ (g5 b e) hc.lt) (fun b e => .inl (h10 b e)) (gs _ g1 hw3.box.lt) (gs _ g2 hw3.dbx.lt) (gs _ g3 (s2 T).mbx.lt) (gs _ g4 (s2 T).fbx.lt) (fun k e => e.elim (fun e => Nat.lt_of_lt_of_le (hVV.fb k e) hbw.size) (fun e => e.2)) C Cx HC.out HCx.out hC3 (by rw [hT, ← HE.out]; exact HY.out)
    rw [hT, ← HE.out] at hrun
    unfold nfD at hrun ⊢
    go_wp2_with fail
    refine (callsIn_wide.1 hrun).mono ?_
    rintro e w' ⟨⟨v, rfl⟩, s, hV', hC'⟩
    go_wp2
    go_end0
    exact ⟨⟨_, rfl⟩, s, hV', hC'⟩
end
end Go.Proofs.Ytjaejdenboggpaa

/- The document's own Due: At, and its calls by what is in the list. -/
set_option maxRecDepth 100000
namespace Go.Proofs.Ytjaejdenboggpaa
open Go Go.RowKit Go.Shelf
theorem atOf_at {E : List (Int × Int)} {k : Int} : ∀ {j : Nat} (hj : j < E.length), E[j].1 = k → (∀ z, z < j → (E.map (·.1))[z]? ≠ some k) → atOf E k = some E[j].2 := by
  induction E with
  | nil => intro j hj; exact absurd hj (Nat.not_lt_zero j)
  | cons y E ih =>
    intro j hj e hz
    cases j with
    | zero =>
      unfold atOf
      rw [List.find?_cons_of_pos (p := fun e : Int × Int => e.1 == k) (by simpa using e)]
      rfl
    | succ j =>
      have hne : ¬ (y.1 == k) = true := fun e2 => hz 0 (by omega) (by simpa using e2)
      have := ih (j := j) (by simpa using hj) (by simpa using e) (fun z hzj => by have := hz (z + 1) (by omega); simpa using this)
      unfold atOf at this ⊢
      rw [List.find?_cons_of_neg (p := fun e : Int × Int => e.1 == k) hne]
      exact this
/-- Who is there once stands at one place: without it, the list is the list without the key. -/
theorem filter_at {E : List (Int × Int)} {k : Int} (hn : (E.map (·.1)).Nodup) : ∀ {j : Nat} (hj : j < E.length), E[j].1 = k → E.filter (fun e => e.1 != k) = E.take j ++ E.drop (j + 1) := by
  induction E with
  | nil => intro j hj; exact absurd hj (Nat.not_lt_zero j)
  | cons y E ih =>
    intro j hj e
    rw [List.map_cons, List.nodup_cons] at hn
    cases j with
    | zero =>
      have e1 : y.1 = k := e
      rw [List.filter_cons_of_neg (by simp [e1])]
      simp only [List.take_zero, List.nil_append, List.drop_succ_cons, List.drop_zero]
      refine List.filter_eq_self.2 fun z hz => ?_
      rw [bne_iff_ne]
      exact fun e2 => hn.1 (by rw [e1, ← e2]; exact List.mem_map_of_mem hz)
    | succ j =>
      have hj2 : j < E.length := by simpa using hj
      have e1 : E[j].1 = k := e
      have hne : y.1 ≠ k := fun e2 => hn.1 (by rw [e2, ← e1]; exact List.mem_map_of_mem (List.getElem_mem hj2))
      rw [List.filter_cons_of_pos (by simpa using hne), ih hn.2 hj2 e1]
      rfl
theorem place_of {E : List (Int × Int)} {k : Int} (hk : k ∈ E.map (·.1)) : ∃ j, ∃ hj : j < E.length, plc k (E.map (·.1)) 0 = (j : Int) ∧ E[j].1 = k ∧ ∀ z, z < j → (E.map (·.1))[z]? ≠ some k := by
  obtain ⟨j, h1, h2, h3, h4⟩ := plc_some (i := 0) hk
  rw [List.length_map] at h1
  refine ⟨j, h1, by rw [h2, Nat.zero_add], ?_, h4⟩
  rw [List.getElem?_map, List.getElem?_eq_getElem h1] at h3
  exact Option.some.inj h3
section
variable {x : Nat → Prop} {m : Nat} {E : List (Int × Int)} {w : World}
set_option maxHeartbeats 2000000 in
theorem mdat_any (h : MD x m E w) (k : Int) (hl : E.length < 100000) :
    Calls Try.prog 29 #[.pointer (some ⟨m, 0, none⟩), .int .i64 k] w fun e w' => e = .returned (.tuple #[.int .i64 ((atOf E k).getD 0), .bool (atOf E k).isSome]) ∧ w = w' := by
  have hw := where_any h k hl
  by_cases hk : k ∈ E.map (·.1)
  · obtain ⟨j, hj, hp, e1, hz⟩ := place_of hk
    rw [hp] at hw
    rw [atOf_at hj e1 hz]
    obtain ⟨v, hBk, hr⟩ := h.ex
    obtain ⟨ao, cap, rfl, _, _⟩ := hr.form
    have c0 := hBk.cell (i := 0) rfl
    obtain ⟨b, off, rfl, _, c2⟩ := rkq_cell hr hj
    generalize E[j].2 = y at *
    have d0 : decide ((j : Int) < 0) = false := by simp
    go_enter Try.func29, Try.ntmps29
    go_wp2_with fail
    refine hw.mono ?_
    rintro e w1 ⟨rfl, rfl⟩
    go_wp2
    go_ret2
    exact ⟨rfl, rfl⟩
  · rw [plc_none hk] at hw
    rw [atOf_none hk]
    go_enter Try.func29, Try.ntmps29
    go_wp2_with fail
    refine hw.mono ?_
    rintro e w1 ⟨rfl, rfl⟩
    go_wp2
    go_ret2
    exact ⟨rfl, rfl⟩
/-- Drop, by the keys. -/
theorem mdrop_any (h : MD x m E w) (k : Int) (hl : E.length < 100000) (hn : (E.map (·.1)).Nodup) :
    Calls Try.prog 27 #[.pointer (some ⟨m, 0, none⟩), .int .i64 k] w fun e w' => e = .returned (.bool (decide (k ∈ E.map (·.1)))) ∧ MD (fun b => x b ∨ w.heap.size ≤ b) m (E.filter (fun e => e.1 != k)) w' ∧ Trn (fun b => b = m) w w' := by
  by_cases hk : k ∈ E.map (·.1)
  · obtain ⟨j, hj, hp, e1, _⟩ := place_of hk
    refine (mdrop_at h hl hj hp).mono ?_
    rintro e w' ⟨rfl, h2, t⟩
    obtain ⟨v, a, b⟩ := h2.ex
    refine ⟨by simp only [hk, decide_true], ⟨v, a, ?_⟩, t⟩
    rw [filter_at hn hj e1]
    exact b.mono fun _ e => .inr e
  · refine (mdrop_no h hl hk).mono ?_
    rintro e w' ⟨rfl, rfl⟩
    obtain ⟨v, a, b⟩ := h.ex
    refine ⟨by simp only [hk, decide_false], ⟨v, a, ?_⟩, Trn.refl _ _⟩
    rw [List.filter_eq_self.2 (fun e he => by rw [bne_iff_ne]; exact fun e2 => hk (e2 ▸ List.mem_map_of_mem he))]
    exact b.mono fun _ e => .inl e
/-- Set, by the keys. -/
theorem mdset_any (h : MD x m E w) (k a : Int) (hl : E.length < 100000) (hn : (E.map (·.1)).Nodup) :
    Calls Try.prog 25 #[.pointer (some ⟨m, 0, none⟩), .int .i64 k, .int .i64 a] w fun e w' => e = .returned (.tuple #[]) ∧ MD (fun b => w.heap.size ≤ b) m (E.filter (fun e => e.1 != k) ++ [(k, a)]) w' ∧ Trn (fun b => b = m) w w' := by
  have hd := (mdrop_any h k hl hn).mono (R := fun e w' => e = .returned (.bool (decide (k ∈ E.map (·.1)))) ∧ MD (fun b => x b ∨ w.heap.size ≤ b) m (E.filter (fun e => e.1 != k)) w' ∧ Trn (fun b => b = m) w w') (fun e w' h => h)
  refine (mset_tail (a := a) hd (Nat.lt_of_le_of_lt (List.length_filter_le _ _) hl)).mono ?_
  rintro e w2 ⟨rfl, w1, t1, h2, t2⟩
  obtain ⟨v, a, b⟩ := h2.ex
  exact ⟨rfl, ⟨v, a, b.mono fun k e => Nat.le_trans t1.size e⟩, t1.trans (t2.mono fun _ _ e => .inl e)⟩
end
end Go.Proofs.Ytjaejdenboggpaa

/- upto of the law's own: who is by then, as far as asked. -/
set_option maxRecDepth 100000
namespace Go.Proofs.Ytjaejdenboggpaa
open Go Go.RowKit Go.Shelf Go.Maps
attribute [local go_sem] Oper.semAt_some
theorem eql_nilU (W : World) (f B C : Nat) : (binOp .eql 57 (.func (.func f) #[] #[.pointer (some ⟨B, 0, none⟩), .pointer (some ⟨C, 0, none⟩)]) .nilFunc).run Try.prog W = .ok (.bool false) W := by
  kernel_rfl
theorem insE_len (x : Int × Int) : ∀ l, (Du.insE x l).length = l.length + 1
  | [] => rfl
  | y :: l => by
    unfold Du.insE
    split
    · rfl
    · rw [List.length_cons, insE_len x l, List.length_cons]
theorem uptoE_len (most : Int) : ∀ l acc, (Du.uptoE most l acc).length ≤ l.length + acc.length
  | [], acc => by unfold Du.uptoE; simp
  | x :: l, acc => by
    unfold Du.uptoE
    refine Nat.le_trans (uptoE_len most l _) ?_
    split
    · rw [insE_len, List.length_cons]; omega
    · rw [List.length_cons]; omega
section
variable {X : Nat} {E : List (Int × Int)} {N : Nat} {f : Nat → Prop} {w : World}
/-- What upto makes. -/
def UptoRet (X : Nat) (E : List (Int × Int)) (at_ : Int) (N : Nat) (f : Nat → Prop) (w : World) (mo : Int) (e : Ending) (w' : World) : Prop :=
  ∃ v s, e = .returned v ∧ OwnK encQ 2 56 w.heap.size v (cutAt mo (Du.uptoE at_ E [])) w' ∧ DV X E N s w' ∧ Trn f w w' ∧ (∀ k, s k → grow f w w' k) ∧ ∀ g, v.ownBlock = some g → ¬ s g
abbrev tSq : TypeId := 44
set_option maxHeartbeats 16000000 in
theorem upto_any (h : DV X E N f w) (hN : N < 80000) (at_ mo : Int) (hat : I64 at_) :
    Calls Try.prog 33 #[.pointer (some ⟨X, 0, none⟩), .int .i64 at_, .int .i64 mo] w (UptoRet X E at_ N f w mo) := by
  refine (callsIn_wide (n := 20)).1 ?_
  refine callsIn_of_wp_marks Try.func33 rfl trivial ?_ rfl
  simp only [Try.ntmps33, List.size_toArray, List.length_cons, List.length_nil, Nat.reduceAdd, Nat.reduceSub, Array.replicate_succ, Array.replicate_zero, List.push_toArray, List.append_toArray, List.nil_append, List.cons_append]
  refine wpIn_wide.2 ?_
  have hnil := eql_nilU
  have HLEN := Lib.hid (show (Du.uptoE at_ E []).length < 100000 by have := h.len_le; have := uptoE_len at_ E []; simp at this; omega)
  go_wp2_with (go_at_call 34; refine (dupto_any _ _ _).mono ?_; rintro e w' ⟨rfl, rfl⟩)
  have hfb := h.fb
  obtain ⟨n0, hn0⟩ : ∃ n0, w.heap.size = n0 := ⟨_, rfl⟩
  obtain ⟨W1, hW1⟩ : ∃ W1, (w.alloc (.cells #[.int .i64 mo] 3)).alloc (.cells #[.slice none 0 0] tSq) = W1 := ⟨_, rfl⟩
  obtain ⟨W2, hW2⟩ : ∃ W2, (W1.alloc (.cells #[.pointer (some ⟨X, 0, none⟩)] 41)).alloc (.cells #[.int .i64 at_] 3) = W2 := ⟨_, rfl⟩
  have s1 : W1.heap.size = w.heap.size + 2 := by rw [← hW1, World.size_alloc, World.size_alloc]
  have s2 : W2.heap.size = w.heap.size + 4 := by rw [← hW2, World.size_alloc, World.size_alloc, s1]
  have B2 : Below w.heap.size w W2 := by rw [← hW2, ← hW1]; exact ((((Below.refl _ _).alloc (Nat.le_refl _) _).alloc (by simp) _).alloc (by rw [World.size_alloc, World.size_alloc]; omega) _).alloc (by rw [World.size_alloc, World.size_alloc, World.size_alloc]; omega) _
  have k0 : Blk W2 w.heap.size [.int .i64 mo] 3 := by rw [← hW2, ← hW1]; exact (((Blk.new w _ _).alloc _).alloc _).alloc _
  have k1 : Blk W2 (w.heap.size + 1) [.slice none 0 0] tSq := by
    rw [← hW2, ← hW1]
    have := Blk.new (w.alloc (.cells #[.int .i64 mo] 3)) [.slice none 0 0] tSq
    rw [World.size_alloc] at this
    exact (this.alloc _).alloc _
  have k2 : Blk W2 (w.heap.size + 1 + 1) [.pointer (some ⟨X, 0, none⟩)] 41 ∧ Blk W2 (w.heap.size + 1 + 1 + 1) [.int .i64 at_] 3 := by
    rw [← hW2, show w.heap.size + 1 + 1 = W1.heap.size by rw [s1]]
    have := Blk.new (W1.alloc (.cells #[.pointer (some ⟨X, 0, none⟩)] 41)) [.int .i64 at_] 3
    rw [World.size_alloc] at this
    exact ⟨(Blk.new _ _ _).alloc _, this⟩
  rw [hW1, hW2]
  have hV2 : DV X E N f W2 := h.below B2
  have G0 : Gath encQ 2 56 tSq f w (w.heap.size + 2) (w.heap.size + 1) [] f W2 := ⟨⟨_, k1, ownK_nil _ _ _ _ _, fun g e => by cases e⟩, ⟨fun e => by have := hfb _ e; omega, by omega, by omega⟩, Trn.of_below B2, fun b e => .inl e⟩
  have A0 : Aside w.heap.size [.int .i64 mo] 3 f W2 := ⟨k0, fun e => by have := hfb _ e; omega⟩
  clear hW1 hW2 s1 k0 k1 h hfb hnil
  have HN0 := Lib.hid hn0
  rw [hn0] at s2 B2 k2 G0 A0 ⊢
  have HS2 := Lib.hid s2
  clear hn0 s2
  have hseq : SeqZ Fence.wide (20 - 1) Try.prog 60 #[.pointer (some ⟨n0 + 1 + 1, 0, none⟩), .pointer (some ⟨n0 + 1 + 1 + 1, 0, none⟩)] encP (fun W => Blk W (n0 + 1 + 1) [.pointer (some ⟨X, 0, none⟩)] 41 ∧ Blk W (n0 + 1 + 1 + 1) [.int .i64 at_] 3) (DV X E N) (fun (t : Nat × Nat × Nat × Option Nat) R => UDx X E at_ N t.1 t.2.1 t.2.2.1 t.2.2.2 R) MvL (Du.uptoE at_ E []) f :=
    fun l C Cx W hz hV hC hCx h0 hY => dupto_seq (by omega) hN hat hV hz.1 hz.2 C Cx hC hCx h0 (fun xb vb pre x R s W1 hT hU hc => hY (xb, W.heap.size, l, vb) pre x R s W1 hT hU hc)
  refine (wpIn_wide (n := 20)).1 ?_
  refine wpIn_rangeFunc_Z ?h1 ?h2 (gf := 60) (lb := #[.pointer (some ⟨n0 + 1 + 1, 0, none⟩), .pointer (some ⟨n0 + 1 + 1 + 1, 0, none⟩)]) ?h3 ?h4 ?h5
    hseq ?h6 ?h7 ?h8 ?h9 ?h10 ?h11 ?h12
    (fun pre s W => Gath encQ 2 56 tSq f w (n0 + 2) (n0 + 1) pre s W ∧ Aside n0 [.int .i64 mo] 3 s W ∧ (mo < 1 ∨ (pre.length : Int) < mo))
    (fun c pre s W => c = .exit 0 ∧ Gath encQ 2 56 tSq f w (n0 + 2) (n0 + 1) pre s W ∧ (pre.length : Int) = mo ∧ 1 ≤ pre.length)
    ?h13 ?h14 ?h15 ?h16 hV2 ?h17 (fun x => { tmps := #[.pointer (some ⟨X, 0, none⟩), .int .i64 at_, .int .i64 mo, undef, undef, .pointer (some ⟨n0, 0, none⟩), .slice none 0 0, .pointer (some ⟨n0 + 1, 0, none⟩), .func (.func 60) #[] #[.pointer (some ⟨n0 + 1 + 1, 0, none⟩), .pointer (some ⟨n0 + 1 + 1 + 1, 0, none⟩)], .int .i64 x.1, .int .i64 x.2, .pointer (some ⟨X, 0, none⟩), .int .i64 at_, .func (.func 60) #[] #[.pointer (some ⟨n0 + 1 + 1, 0, none⟩), .pointer (some ⟨n0 + 1 + 1 + 1, 0, none⟩)], .func (.func 60) #[] #[.pointer (some ⟨n0 + 1 + 1, 0, none⟩), .pointer (some ⟨n0 + 1 + 1 + 1, 0, none⟩)], .bool false, .func (.func 60) #[] #[.pointer (some ⟨n0 + 1 + 1, 0, none⟩), .pointer (some ⟨n0 + 1 + 1 + 1, 0, none⟩)], .int .i64 x.1, .int .i64 x.2, undef, undef, undef, undef, undef, undef, undef, undef, undef, undef, undef], defers := [] }) ?assign ?body ?done ?stop
  case h1 => rfl
  case h2 => omega
  case h3 => rfl
  case h4 => trivial
  case h5 => exact enters_of Try.func60 (by kernel_rfl) rfl
  case h6 => exact fun W o h => ⟨h.1.alloc o, h.2.alloc o⟩
  case h7 => exact k2
  case h8 => exact fun s W o h => h.below ((Below.refl _ _).alloc (Nat.le_refl _) _)
  case h9 => exact DV.book
  case h10 => exact fun t R => UDx.book
  case h11 => exact fun s W s' W' hm k o ho hk => hm.1.book k o ho hk
  case h12 => exact fun _ => rfl
  case h13 => exact fun s pre X Y row h hg hr => ⟨Gath.own (by have := B2.size; omega) pre X Y row h.1 hg hr, Aside.own pre X Y row h.2.1 hg hr, h.2.2⟩
  case h14 => exact fun c s pre X Y row h hg hr => ⟨h.1, Gath.own (by have := B2.size; omega) pre X Y row h.2.1 hg hr, h.2.2⟩
  case h15 => exact fun pre s s' X Y h hm => ⟨h.1.move hm, h.2.1.move hm, h.2.2⟩
  case h16 => exact fun c pre s s' X Y h hm => ⟨h.1, h.2.1.move hm, h.2.2⟩
  case h17 => exact ⟨G0, A0, by simp; omega⟩
  case assign =>
    intro l x W K hK
    unfold encP
    clear hseq hV2 G0 A0 B2 k2
    gi_wp2
    exact hK

  case body =>
    rintro l t pre x R s W hT hU ⟨hG, hA, hc⟩
    obtain ⟨v, hv, ho, hvs⟩ := hG.ex
    obtain ⟨ao, cap, rfl, _⟩ := ownK_form ho
    have hPl : pre.length < (Du.uptoE at_ E []).length := by rw [← hT]; simp
    have hPn : (Du.uptoE at_ E []).length < 100000 := HLEN.out
    have hUf := hU.ud.fb
    obtain ⟨k, hk⟩ : ∃ k, pre.length = k := ⟨_, rfl⟩
    have c5 := hv.cell (i := 0) rfl
    have c3 := hA.1.cell (i := 0) rfl
    have f5 := hv.frozen 0
    rw [hk] at c5 hv ho hvs hc
    have HU := Lib.hid hU
    have HG := Lib.hid hG
    have HA := Lib.hid hA
    have HV := Lib.hid hv
    have HO := Lib.hid ho
    have HVS := Lib.hid hvs
    have HUF := Lib.hid hUf
    have hM2 : ∀ o, n0 + 2 ≤ (W.alloc o).heap.size := fun o => by have := hv.lt; rw [World.size_alloc]; omega
    have hk9 : k < 100000 := by omega
    have HKL := Lib.hid hk
    clear hU hG hA hv ho hvs hUf hk hseq hV2 G0 A0 B2 k2 hPl hPn hT
    by_cases hm : (k : Int) + 1 = mo
    all_goals gi_wp2_with (gi_at_builtin; (
     refine wpListIn_apK encQ_len (by decide) encQ_one (x := fun _ => True) Try.underlying44 infoQ rfl (by decide) rfl _ _ rfl rfl (n0 + 2) (.slice ao k cap) pre rfl (ownK_alloc HO.out _) (.slice (some ⟨W.heap.size, 0, none⟩) 1 1) [x] (by simp) rfl (RK.oneN (enc := encQ) x 56 _ _ (by simp) _ rfl) (by rw [HKL.out]; simp; omega) (hM2 _) ?_
     intro g cp w1 ho1 hg1 hl1
     rw [List.length_append, List.length_singleton, HKL.out] at ho1
     rw [List.length_append, List.length_singleton, HKL.out]
     have P := Gath.push (M2 := W2.heap.size) HG.out HV.out HO.out HVS.out (by decide) HUF.out ho1 hg1 hl1 rfl
     obtain ⟨G3, P⟩ := P
     obtain ⟨K3, P⟩ := P
     obtain ⟨S3, Z3, L3, b1, b3⟩ := P
     have d5 := b1.cell (i := 0) rfl
     have d6 := b1.frozen 0
     have d7 := b3.cell (i := 0) rfl
     have d8 := HA.out.1.kept (L3 n0 (by omega) HA.out.1.lt (by omega))
     have d9 := d8.cell (i := 0) rfl
     have HA3 := Lib.hid (show Aside n0 [.int .i64 mo] 3 s _ from ⟨d8, HA.out.2⟩)
     have HG3 := Lib.hid G3
     have HK3 := Lib.hid K3
     have HS3 := Lib.hid S3
     have HZ3 := Lib.hid Z3
     clear G3 K3 S3 Z3 L3 b1 b3 d8
     clear c5 c3 f5
     clear ho1 hg1 hl1
     ))
    · refine ⟨HK3.out, s, HU.out.away HS3.out HZ3.out, rfl, HG3.out, ?_, ?_⟩
      · rw [List.length_append, List.length_singleton, HKL.out]
        omega
      · rw [List.length_append, List.length_singleton]
        omega
    · refine ⟨HK3.out, s, HU.out.away HS3.out HZ3.out, HG3.out, HA3.out, ?_⟩
      rw [List.length_append, List.length_singleton, HKL.out]
      omega
  case done =>
    rintro D s W hD hV ⟨hG, _, hc⟩ hK
    obtain ⟨v, hv, ho, hvs⟩ := hG.ex
    have c5 := hv.cell (i := 0) rfl
    have HG := Lib.hid hG
    have HV := Lib.hid hV
    have HO := Lib.hid ho
    have HVS := Lib.hid hvs
    have HK := Lib.hid hK
    have HD := Lib.hid hD
    have HC := Lib.hid hc
    have hbk : isBook (.deferred (some [])) = true := rfl
    clear hG hV hv ho hvs hK hD hc hseq hV2 G0 A0 B2 k2
    go_wp2
    refine ⟨by simp, .inl ⟨_, _, rfl, run_takeDeferred HK.out, ?_⟩⟩
    refine ⟨v, by simp [results, Try.results33, go_sem], ?_⟩
    have hd := HD.out
    rw [HS2.out] at hd
    have hcut : cutAt mo (Du.uptoE at_ E []) = Du.uptoE at_ E [] := by
      unfold cutAt
      split
      · exact List.take_of_length_le (by have := HC.out; omega)
      · rfl
    have hG2 := HG.out.book D _ (.deferred none) HK.out hbk (by rw [HN0.out]; omega)
    exact ⟨_, s, rfl, by rw [hcut]; exact ownK_lower (own_book HO.out HK.out hbk _) (by rw [HN0.out]; omega), DV.book _ _ _ _ _ HV.out HK.out hbk, hG2.tr, hG2.sub, HVS.out⟩
  case stop =>
    rintro D c pre s W hD hpre hV ⟨rfl, hG, hc⟩ hK
    obtain ⟨v, hv, ho, hvs⟩ := hG.ex
    have c5 := hv.cell (i := 0) rfl
    have HG := Lib.hid hG
    have HV := Lib.hid hV
    have HO := Lib.hid ho
    have HVS := Lib.hid hvs
    have HK := Lib.hid hK
    have HD := Lib.hid hD
    have HC := Lib.hid hc
    have HPR := Lib.hid hpre
    have hbk : isBook (.deferred (some [])) = true := rfl
    clear hG hV hv ho hvs hK hD hc hseq hV2 G0 A0 B2 k2 hpre
    refine wpIn_wide.2 ?_
    go_wp2
    refine ⟨by simp, .inl ⟨_, _, rfl, run_takeDeferred HK.out, ?_⟩⟩
    refine ⟨v, by simp [results, Try.results33, go_sem], ?_⟩
    have hd := HD.out
    rw [HS2.out] at hd
    have hcut : cutAt mo (Du.uptoE at_ E []) = pre := by
      obtain ⟨h1, h2⟩ := HC.out
      unfold cutAt
      rw [if_pos (by omega), ← h1, Int.toNat_natCast]
      exact (List.prefix_iff_eq_take.1 HPR.out).symm
    have hG2 := HG.out.book D _ (.deferred none) HK.out hbk (by rw [HN0.out]; omega)
    exact ⟨_, s, rfl, by rw [hcut]; exact ownK_lower (own_book HO.out HK.out hbk _) (by rw [HN0.out]; omega), DV.book _ _ _ _ _ HV.out HK.out hbk, hG2.tr, hG2.sub, HVS.out⟩
end
end Go.Proofs.Ytjaejdenboggpaa

/- Nobody's lists. -/
set_option maxRecDepth 100000
namespace Go.Proofs.Ytjaejdenboggpaa
open Go Go.RowKit Go.Shelf Go.Maps
theorem qDue0 (w : World) : (binOp .eql 41 (.pointer none) (.pointer none)).run Try.prog w = .ok (.bool true) w := by kernel_rfl
set_option maxHeartbeats 1000000 in
theorem ladd_nil (k : Int) (w : World) :
    Calls Try.prog 12 #[.pointer none, .int .i64 k] w fun e w' => e = .returned (.tuple #[]) ∧ w = w' := by
  have q := qLru0
  go_enter Try.func12, Try.ntmps12
  go_wp2
  refine bodyPost_ret (results_none rfl _ _ _) rfl ?_
  exact ⟨rfl, rfl⟩
set_option maxHeartbeats 1000000 in
theorem ltouch_nil (k : Int) (w : World) :
    Calls Try.prog 14 #[.pointer none, .int .i64 k] w fun e w' => e = .returned (.bool false) ∧ w = w' := by
  go_enter Try.func14, Try.ntmps14
  go_wp2_with fail
  refine (lfind_nil k w).mono ?_
  rintro e w1 ⟨rfl, rfl⟩
  go_wp2
  go_ret
  exact ⟨rfl, rfl⟩
set_option maxHeartbeats 1000000 in
theorem dset_nil (k a : Int) (w : World) :
    Calls Try.prog 24 #[.pointer none, .int .i64 k, .int .i64 a] w fun e w' => e = .returned (.tuple #[]) ∧ w = w' := by
  have q := qDue0
  go_enter Try.func24, Try.ntmps24
  go_wp2
  refine bodyPost_ret (results_none rfl _ _ _) rfl ?_
  exact ⟨rfl, rfl⟩
theorem dlen_nil (w : World) :
    Calls Try.prog 30 #[.pointer none] w fun e w' => e = .returned (.int .i64 0) ∧ w = w' := by
  have q := qDue0
  go_enter Try.func30, Try.ntmps30
  go_wp2
  go_ret
  exact ⟨rfl, rfl⟩
end Go.Proofs.Ytjaejdenboggpaa

/- Two lists of numbers, held against each other. -/
set_option maxRecDepth 100000
namespace Go.Proofs.Ytjaejdenboggpaa
open Go Go.RowKit Go.Shelf
set_option maxHeartbeats 4000000 in
/-- The same numbers: it says so. -/
theorem ints_same {x y : Nat → Prop} {v u : Value} {l : List Int} {w : World} (h : RK encZ x v l w) (g : RK encZ y u l w) (hl : l.length < 100000) :
    Calls Try.prog 19 #[v, u] w fun e w' => e = .returned (.bool true) ∧ ∃ n, w' = w.drewN n := by
  obtain ⟨ao, cap, rfl, _, _⟩ := h.form
  obtain ⟨bo, dap, rfl, _, _⟩ := g.form
  have HR := Lib.hid (fun n => h.same (W' := w.drewN n) (fun _ _ => rfl))
  have HG := Lib.hid (fun n => g.same (W' := w.drewN n) (fun _ _ => rfl))
  clear h g
  go_enter Try.func19, Try.ntmps19
  have d0 : ((l.length : Int) != (l.length : Int)) = false := by simp
  go_wp2
  go_loopw [5] (fun i wr => ∃ j : Nat, j ≤ l.length ∧ i = .int .i64 (j : Int) ∧ ∃ n, wr = w.drewN n) (fun i _ => l.length + 1 - (intOf i).toNat)
  case atStart => exact ⟨0, by omega, rfl, 0, rfl⟩
  case round =>
    obtain ⟨j, hj, rfl, n, rfl⟩ := hrel
    by_cases hlt : j < l.length
    · obtain ⟨b, off, rfl, c1⟩ := rk_cell (HR.out n) hlt
      obtain ⟨b2, off2, rfl, c2⟩ := rk_cell (HG.out n) hlt
      have d1 : decide ((j : Int) < (l.length : Int)) = true := by simpa using hlt
      generalize l[j] = z at *
      have d2 : (z != z) = false := by simp
      generalize hW : w.drewN n = W1 at *
      go_wp2_with fail
      go_quiet (fail)
      go_wp2
      go_roundw
      case rel => exact ⟨j + 1, by omega, by go_num, ⟨_, by rw [← hW]; exact World.drewN_drewN _ _ _⟩⟩
      case measure => simp [intOf]; omega
    · have d1 : decide ((j : Int) < (l.length : Int)) = false := by simp; omega
      go_wp2
      go_ret
      exact ⟨rfl, n, rfl⟩
end Go.Proofs.Ytjaejdenboggpaa

/- Two lists of pairs, held against each other. -/
set_option maxRecDepth 100000
namespace Go.Proofs.Ytjaejdenboggpaa
open Go Go.RowKit Go.Shelf
theorem fieldsPair : Try.prog.fieldsOf 56 = #[{ name := "K", type := 3, offset := 0, embedded := false, tag := "", pkgPath := "", byteOffset := 0 }, { name := "At", type := 3, offset := 1, embedded := false, tag := "", pkgPath := "", byteOffset := 8 }] := by
  unfold Program.fieldsOf
  rw [Try.underlying56]
theorem heldPair : Try.prog.stoodInHeld 56 = false := by kernel_rfl
theorem qPair (a b : Int) (W : World) : (binOp .neq 56 (.agg #[.int .i64 a, .int .i64 b]) (.agg #[.int .i64 a, .int .i64 b])).run Try.prog W = .ok (.bool false) W := by
  rw [run_neq_struct, run_equalIn_struct W 9999 56 _ _ (by rw [fieldsPair]; exact Try.underlying56) heldPair, fieldsPair]
  simp [Op.eqFields, go_sem]
set_option maxHeartbeats 4000000 in
/-- The same numbers: it says so. -/
theorem pairs_same {x y : Nat → Prop} {v u : Value} {l : List (Int × Int)} {w : World} (h : RK encQ x v l w) (g : RK encQ y u l w) (hl : l.length < 100000) :
    Calls Try.prog 32 #[v, u] w fun e w' => e = .returned (.bool true) ∧ ∃ n, w' = w.drewN n := by
  obtain ⟨ao, cap, rfl, _, _⟩ := h.form
  obtain ⟨bo, dap, rfl, _, _⟩ := g.form
  have HR := Lib.hid (fun n => h.same (W' := w.drewN n) (fun _ _ => rfl))
  have HG := Lib.hid (fun n => g.same (W' := w.drewN n) (fun _ _ => rfl))
  clear h g
  go_enter Try.func32, Try.ntmps32
  have d0 : ((l.length : Int) != (l.length : Int)) = false := by simp
  go_wp2
  go_loopw [5] (fun i wr => ∃ j : Nat, j ≤ l.length ∧ i = .int .i64 (j : Int) ∧ ∃ n, wr = w.drewN n) (fun i _ => l.length + 1 - (intOf i).toNat)
  case atStart => exact ⟨0, by omega, rfl, 0, rfl⟩
  case round =>
    obtain ⟨j, hj, rfl, n, rfl⟩ := hrel
    by_cases hlt : j < l.length
    · obtain ⟨b, off, rfl, c1, c1b⟩ := rkq_cell (HR.out n) hlt
      obtain ⟨b2, off2, rfl, c2, c2b⟩ := rkq_cell (HG.out n) hlt
      have d1 : decide ((j : Int) < (l.length : Int)) = true := by simpa using hlt
      generalize l[j].1 = z1 at *
      generalize l[j].2 = z2 at *
      have q := qPair z1 z2
      generalize hW : w.drewN n = W1 at *
      go_wp2_with fail
      go_quiet (fail)
      go_wp2
      go_roundw
      case rel => exact ⟨j + 1, by omega, by go_num, ⟨_, by rw [← hW]; exact World.drewN_drewN _ _ _⟩⟩
      case measure => simp [intOf]; omega
    · have d1 : decide ((j : Int) < (l.length : Int)) = false := by simp; omega
      go_wp2
      go_ret
      exact ⟨rfl, n, rfl⟩
end Go.Proofs.Ytjaejdenboggpaa
