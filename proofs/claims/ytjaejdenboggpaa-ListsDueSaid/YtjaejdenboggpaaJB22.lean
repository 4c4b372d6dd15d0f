/- 5 texts put together: Mdr, Mds, Ml, Mlo, Mld. -/
import Derived.BigQuiet
import Derived.Test.YtjaejdenboggpaaJB3
import Derived.Test.YtjaejdenboggpaaJB20
import Derived.Test.YtjaejdenboggpaaJB21
/- The document's own Due: Drop. -/
set_option maxRecDepth 100000
namespace Go.Proofs.Ytjaejdenboggpaa
open Go Go.RowKit Go.Shelf
attribute [local go_sem] Oper.semAt_some
theorem q_under : Try.prog.underlying 44 = some (.slice 56) := by kernel_rfl
theorem infoQ : (Try.prog.info? 56).map (fun i => (i.zero, i.size, i.bytes)) = some (some (.agg #[.int .i64 0, .int .i64 0]), 2, 16) := by kernel_rfl
theorem own_lit0q {n : Nat} (W : World) (h : n ≤ W.heap.size) : OwnK encQ 2 56 n (.slice (some ⟨W.heap.size, 0, none⟩) 0 0) [] (W.alloc (.cells #[] 56)) :=
  World.ownsRow_lit (base := n) (e := 56) (size := 2) W #[] 0 h (by simp) rfl
theorem below_undrQ {n : Nat} {w W : World} (h : Below n w.drew W) : Below n w W := ((Below.refl n w).drew).trans h
theorem own_low {α : Type} {enc : α → List Value} {k : Nat} {e : TypeId} {base g : Nat} {v : Value} {l : List α} {W : World} (h : OwnK enc k e base v l W) (hv : v.ownBlock = some g) : base ≤ g := by
  rcases h.2 with ⟨rfl, _⟩ | ⟨g', cap, cur, rfl, hb, _⟩
  · cases hv
  · cases hv; exact hb
set_option maxHeartbeats 1000000 in
theorem mdrop_no {x : Nat → Prop} {m : Nat} {l : List (Int × Int)} {w : World} (h : MD x m l w) {k : Int} (hl : l.length < 100000) (hk : k ∉ l.map (·.1)) :
    Calls Try.prog 27 #[.pointer (some ⟨m, 0, none⟩), .int .i64 k] w fun e w' => e = .returned (.bool false) ∧ w = w' := by
  have hw := where_any h k hl
  rw [plc_none hk] at hw
  go_enter Try.func27, Try.ntmps27
  go_wp2_with fail
  refine hw.mono ?_
  rintro e w1 ⟨rfl, rfl⟩
  go_wp2
  go_ret
  exact ⟨rfl, rfl⟩
set_option maxHeartbeats 8000000 in
theorem mdrop_at {x : Nat → Prop} {m : Nat} {l : List (Int × Int)} {w : World} (h : MD x m l w) {k : Int} (hl : l.length < 100000) {i : Nat} (hi : i < l.length) (hp : plc k (l.map (·.1)) 0 = (i : Int)) :
    Calls Try.prog 27 #[.pointer (some ⟨m, 0, none⟩), .int .i64 k] w fun e w' => e = .returned (.bool true) ∧ MD (fun b => w.heap.size ≤ b) m (l.take i ++ l.drop (i + 1)) w' ∧ Trn (fun b => b = m) w w' := by
  have hw := where_any h k hl
  rw [hp] at hw
  obtain ⟨v, hBk, hr⟩ := h.ex
  have hml := hBk.lt
  have c0 := hBk.cell (i := 0) rfl
  obtain ⟨ao, cap, rfl, _, _⟩ := hr.form
  obtain ⟨vt, ht1, ht2⟩ := run_takeK (P := Try.prog) encQ_len q_under infoQ hr (m := i) (by omega)
  obtain ⟨vd, hd1, hd2⟩ := run_dropK (P := Try.prog) encQ_len q_under infoQ hr (m := i + 1) (by omega)
  rw [show ((i + 1 : Nat) : Int) = (i : Int) + 1 by norm_cast] at hd1
  have HRT := Lib.hid (fun W' (hb : Below w.heap.size w W') => ht2.below hb)
  have HRD := Lib.hid (fun W' (hb : Below w.heap.size w W') => hd2.below hb)
  have hl1 : (l.take i).length ≤ 900000 := by rw [List.length_take]; omega
  have hl2 : (l.drop (i + 1)).length + (l.take i).length ≤ 900000 := by rw [List.length_drop, List.length_take]; omega
  obtain ⟨TT, hTT⟩ : ∃ T, l.take i = T := ⟨_, rfl⟩
  obtain ⟨DD, hDD⟩ : ∃ D, l.drop (i + 1) = D := ⟨_, rfl⟩
  rw [hTT] at HRT hl1 hl2
  rw [hDD] at HRD hl2
  obtain ⟨LL, hLL⟩ : ∃ LL, TT ++ DD = LL := ⟨_, rfl⟩
  obtain ⟨n1, hn1⟩ : ∃ n, TT.length = n := ⟨_, rfl⟩
  obtain ⟨n2, hn2⟩ : ∃ n, (TT ++ DD).length = n := ⟨_, rfl⟩
  have HN1 : Hid (LL.take n1 = TT) := Lib.hid (by rw [← hLL, ← hn1, List.take_left' rfl])
  have HN2 : Hid (LL.take n2 = TT ++ DD) := Lib.hid (by rw [← hLL, ← hn2, List.take_length])
  have HP1 : Hid (([] : List (Int × Int)) ++ TT <+: LL) := Lib.hid ⟨DD, by rw [← hLL]; rfl⟩
  have HP2 : Hid (TT ++ DD <+: LL) := Lib.hid ⟨[], by rw [← hLL, List.append_nil]⟩
  have HSPL : Hid (l.take i ++ l.drop (i + 1) = TT ++ DD) := Lib.hid (by rw [hTT, hDD])
  clear hTT hDD hLL hn1 hn2 ht2 hd2 h hr
  have d0 : decide ((i : Int) < 0) = false := by simp
  go_enter Try.func27, Try.ntmps27
  go_wp2_with fail
  refine hw.mono ?_
  rintro e w1 ⟨rfl, rfl⟩
  go_wp2
  refine wp_region_slotsTL (by simp) (leRow encQ 2 56 w.heap.size LL) (slotPhi ((fun v _ => v = ?f11) :: (fun v W' => OwnK encQ 2 56 w.heap.size v (LL.take 0) W') :: (fun v _ => v = ?f13) :: (fun v _ => v = ?f14) :: (fun v _ => v = ?f15) :: (fun v _ => v = ?f16) :: (fun v _ => v = ?f17) :: (fun v _ => v = ?f18) :: (fun v W' => OwnK encQ 2 56 w.heap.size v (LL.take n1) W') :: (fun v _ => v = ?f20) :: (fun v _ => v = ?f21) :: (fun v _ => v = ?f22) :: (fun v _ => v = ?f23) :: (fun v _ => v = ?f24) :: (fun v _ => v = Value.int .i64 ((i : Int) + 1)) :: (fun v _ => v = ?f26) :: (fun v W' => OwnK encQ 2 56 w.heap.size v (LL.take n2) W') :: (fun v _ => v = ?f28) :: (fun v _ => v = ?f29) :: [])) leRow_refl (fun h g => leRow_trans h g) (slotPhi_by ?stb) (by kernel_rfl) (by kernel_rfl) (by kernel_rfl) (by kernel_rfl) (by kernel_rfl) ?steps ?fin
  case stb =>
    refine ⟨by intro _ _ _ _ h; exact h, ?_⟩
    refine ⟨by intro v x y hle h; exact hle.2 v _ h, ?_⟩
    refine ⟨by intro _ _ _ _ h; exact h, ?_⟩
    refine ⟨by intro _ _ _ _ h; exact h, ?_⟩
    refine ⟨by intro _ _ _ _ h; exact h, ?_⟩
    refine ⟨by intro _ _ _ _ h; exact h, ?_⟩
    refine ⟨by intro _ _ _ _ h; exact h, ?_⟩
    refine ⟨by intro _ _ _ _ h; exact h, ?_⟩
    refine ⟨by intro v x y hle h; exact hle.2 v _ h, ?_⟩
    refine ⟨by intro _ _ _ _ h; exact h, ?_⟩
    refine ⟨by intro _ _ _ _ h; exact h, ?_⟩
    refine ⟨by intro _ _ _ _ h; exact h, ?_⟩
    refine ⟨by intro _ _ _ _ h; exact h, ?_⟩
    refine ⟨by intro _ _ _ _ h; exact h, ?_⟩
    refine ⟨by intro _ _ _ _ h; exact h, ?_⟩
    refine ⟨by intro _ _ _ _ h; exact h, ?_⟩
    refine ⟨by intro v x y hle h; exact hle.2 v _ h, ?_⟩
    refine ⟨by intro _ _ _ _ h; exact h, ?_⟩
    refine ⟨by intro _ _ _ _ h; exact h, ?_⟩
    exact trivial
  case steps =>
    refine ⟨?_, ?_⟩
    · intro a W K N hK
      have e0 : a.tmps[0]?.getD undef = .pointer (some ⟨m, 0, none⟩) := N.was' 0 _ (by kernel_rfl) rfl
      rw [if_pos (wanted_no rfl)]
      go_simp
      refine hK _ _ (leRow_refl _) ?_
      exact rfl
    refine ⟨?_, ?_⟩
    · intro a W K N hK
      rw [if_pos (wanted_no rfl)]
      go_simp
      refine hK _ _ (leRow_of ((Below.refl _ _).alloc (Nat.le_refl _) _) N.le.1.size) ?_
      exact own_lit0q W N.le.1.size
    refine ⟨?_, ?_⟩
    · intro a W K N hK
      have e0 : a.tmps[0]?.getD undef = .pointer (some ⟨m, 0, none⟩) := N.was' 0 _ (by kernel_rfl) rfl
      rw [if_pos (wanted_no rfl)]
      go_simp
      refine hK _ _ (leRow_refl _) ?_
      exact rfl
    refine ⟨?_, ?_⟩
    · intro a W K N hK
      have e13 : a.tmps[13]?.getD undef = _ := N.dep' 2 13 (by kernel_rfl)
      rw [if_pos (wanted_no rfl)]
      go_simp
      refine hK _ _ (leRow_refl _) ?_
      exact rfl
    refine ⟨?_, ?_⟩
    · intro a W K N hK
      have e14 : a.tmps[14]?.getD undef = _ := N.dep' 3 14 (by kernel_rfl)
      rw [if_pos (wanted_no rfl)]
      go_simp
      refine hK _ _ (leRow_refl _) ?_
      exact rfl
    refine ⟨?_, ?_⟩
    · intro a W K N hK
      have e15 : a.tmps[15]?.getD undef = _ := N.dep' 4 15 (by kernel_rfl)
      rw [if_pos (wanted_no rfl)]
      have z := (N.le.1.cell (p := ⟨m, 0, none⟩) hml).trans c0
      go_simp
      refine hK _ _ (leRow_refl _) ?_
      exact rfl
    refine ⟨?_, ?_⟩
    · intro a W K N hK
      have e5 : a.tmps[5]?.getD undef = .int .i64 (i : Int) := N.was' 5 _ (by kernel_rfl) rfl
      rw [if_pos (wanted_no rfl)]
      go_simp
      refine hK _ _ (leRow_refl _) ?_
      exact rfl
    refine ⟨?_, ?_⟩
    · intro a W K N hK
      have e16 : a.tmps[16]?.getD undef = _ := N.dep' 5 16 (by kernel_rfl)
      have e17 : a.tmps[17]?.getD undef = _ := N.dep' 6 17 (by kernel_rfl)
      rw [if_pos (wanted_no rfl)]
      go_simp
      refine hK _ _ (leRow_refl _) ?_
      exact rfl
    refine ⟨?_, ?_⟩
    · intro a W K N hK
      have e12 := Lib.hid (show (fun v W' => OwnK encQ 2 56 w.heap.size v (LL.take 0) W') (a.tmps[12]?.getD undef) W from N.dep' 1 12 (by kernel_rfl))
      have e18 : a.tmps[18]?.getD undef = _ := N.dep' 7 18 (by kernel_rfl)
      rw [if_pos (wanted_no rfl)]
      refine wp_apKeep (L := LL) (base := w.heap.size) encQ_len (by omega) encQ_one q_under infoQ rfl (by omega) (.tmp 12) (.tmp 18) rfl _ ([]) (eval_tmp9 a 12) (by exact e12.out) _ (TT) ((eval_tmp9 a 18).trans e18) (HRT.out _ (below_undrQ N.le.1)) (by first | omega | (simp only [List.length_append]; omega) | (simp; omega)) N.le.1.size HP1.out ?_
      intro v5 w5 ho5 hle5 _
      refine hK _ _ hle5 ?_
      exact HN1.out ▸ ho5
    refine ⟨?_, ?_⟩
    · intro a W K N hK
      have e0 : a.tmps[0]?.getD undef = .pointer (some ⟨m, 0, none⟩) := N.was' 0 _ (by kernel_rfl) rfl
      rw [if_pos (wanted_no rfl)]
      go_simp
      refine hK _ _ (leRow_refl _) ?_
      exact rfl
    refine ⟨?_, ?_⟩
    · intro a W K N hK
      have e20 : a.tmps[20]?.getD undef = _ := N.dep' 9 20 (by kernel_rfl)
      rw [if_pos (wanted_no rfl)]
      go_simp
      refine hK _ _ (leRow_refl _) ?_
      exact rfl
    refine ⟨?_, ?_⟩
    · intro a W K N hK
      have e21 : a.tmps[21]?.getD undef = _ := N.dep' 10 21 (by kernel_rfl)
      rw [if_pos (wanted_no rfl)]
      go_simp
      refine hK _ _ (leRow_refl _) ?_
      exact rfl
    refine ⟨?_, ?_⟩
    · intro a W K N hK
      have e22 : a.tmps[22]?.getD undef = _ := N.dep' 11 22 (by kernel_rfl)
      rw [if_pos (wanted_no rfl)]
      have z := (N.le.1.cell (p := ⟨m, 0, none⟩) hml).trans c0
      go_simp
      refine hK _ _ (leRow_refl _) ?_
      exact rfl
    refine ⟨?_, ?_⟩
    · intro a W K N hK
      have e5 : a.tmps[5]?.getD undef = .int .i64 (i : Int) := N.was' 5 _ (by kernel_rfl) rfl
      rw [if_pos (wanted_no rfl)]
      go_simp
      refine hK _ _ (leRow_refl _) ?_
      exact rfl
    refine ⟨?_, ?_⟩
    · intro a W K N hK
      have e24 : a.tmps[24]?.getD undef = _ := N.dep' 13 24 (by kernel_rfl)
      rw [if_pos (wanted_no rfl)]
      go_simp
      refine hK _ _ (leRow_refl _) ?_
      exact congrArg (Value.int .i64) (IntWalk.i64_in _ (by omega))
    refine ⟨?_, ?_⟩
    · intro a W K N hK
      have e23 : a.tmps[23]?.getD undef = _ := N.dep' 12 23 (by kernel_rfl)
      have e25 := Lib.hid (show (fun v _ => v = Value.int .i64 ((i : Int) + 1)) (a.tmps[25]?.getD undef) W from N.dep' 14 25 (by kernel_rfl))
      rw [if_pos (wanted_no rfl)]
      have e25 : a.tmps[25]?.getD undef = Value.int .i64 ((i : Int) + 1) := e25.out
      go_simp
      refine hK _ _ (leRow_refl _) ?_
      exact rfl
    refine ⟨?_, ?_⟩
    · intro a W K N hK
      have e19 := Lib.hid (show (fun v W' => OwnK encQ 2 56 w.heap.size v (LL.take n1) W') (a.tmps[19]?.getD undef) W from N.dep' 8 19 (by kernel_rfl))
      have e26 : a.tmps[26]?.getD undef = _ := N.dep' 15 26 (by kernel_rfl)
      rw [if_pos (wanted_no rfl)]
      refine wp_apKeep (L := LL) (base := w.heap.size) encQ_len (by omega) encQ_one q_under infoQ rfl (by omega) (.tmp 19) (.tmp 26) rfl _ (TT) (eval_tmp9 a 19) (by exact (HN1.out ▸ e19.out)) _ (DD) ((eval_tmp9 a 26).trans e26) (HRD.out _ (below_undrQ N.le.1)) (by first | omega | (simp only [List.length_append]; omega) | (simp; omega)) N.le.1.size HP2.out ?_
      intro v5 w5 ho5 hle5 _
      refine hK _ _ hle5 ?_
      exact HN2.out ▸ ho5
    refine ⟨?_, ?_⟩
    · intro a W K N hK
      have e11 : a.tmps[11]?.getD undef = _ := N.dep' 0 11 (by kernel_rfl)
      rw [if_pos (wanted_no rfl)]
      go_simp
      refine hK _ _ (leRow_refl _) ?_
      exact rfl
    refine ⟨?_, ?_⟩
    · intro a W K N hK
      have e28 : a.tmps[28]?.getD undef = _ := N.dep' 17 28 (by kernel_rfl)
      rw [if_pos (wanted_no rfl)]
      go_simp
      refine hK _ _ (leRow_refl _) ?_
      exact rfl
    exact trivial
  case fin =>
    intro V hV
    simp only [FinAll, slotPhi, List.dropLast, List.getLast_cons_cons, List.getLast_singleton, List.getD_cons_zero, List.getD_cons_succ, forall_eq, Act.put, List.setIfInBounds_toArray, List.set_cons_zero, List.set_cons_succ]
    intro v12 h12
    intro v19 h19
    intro v27 h27
    have hVb := below_undrQ hV.1
    have cl := hBk.kept (hVb.block _ hml)
    rw [HN2.out] at h27
    have H27 := Lib.hid h27
    obtain ⟨a5, c5, e5, _⟩ := ownK_form h27
    subst e5
    have k1 := cl.cell (i := 0) rfl
    have kf := cl.frozen
    clear hV h12 h19 h27
    go_wp2
    go_ret
    have H28 : OwnK encQ 2 56 w.heap.size (.slice a5 (TT.length + DD.length) c5) (TT ++ DD) V := by rw [← List.length_append]; exact H27.out
    have o28 : OwnK encQ 2 56 w.heap.size (.slice a5 (TT.length + DD.length) c5) (TT ++ DD) (V.setCell ⟨m, 0, none⟩ (.slice a5 (TT.length + DD.length) c5)) := own_kept H28 fun g e => Below.heap_setCell _ ⟨m, 0, none⟩ _ g (fun e2 => by have h9 := own_low H28 e; have e3 : g = m := e2; omega)
    exact ⟨rfl, ⟨_, cl.set 0 _, by rw [HSPL.out]; exact RK.own o28 (fun b e => own_low H28 e)⟩, (Trn.of_below hVb).trans (Trn.set (f := grow (fun b => b = m) w V) cl (.inl rfl) 0 _)⟩
end Go.Proofs.Ytjaejdenboggpaa

/- The document's own Due: Set. -/
set_option maxRecDepth 100000
namespace Go.Proofs.Ytjaejdenboggpaa
open Go Go.RowKit Go.Shelf
/-- append(v, y...) at the operation, in plain mode, whatever is appended. -/
theorem wpList_apR {α : Type} {enc : α → List Value} {P : Program} {k : Nat} (hk : ∀ a, (enc a).length = k) (h0 : 0 < k) (henc : ∀ a, ∀ u ∈ enc a, u.oneCell' = true) {x : Nat → Prop} {w : World} {t e : TypeId} {z : Value} {bytes : Nat} (h1 : P.underlying t = some (.slice e))
    (h2 : (P.info? e).map (fun i => (i.zero, i.size, i.bytes)) = some (some z, k, bytes)) (hz : z.cells.size = k) (b2 : bytes ≤ 1000) {ops : Array Oper} {rest : List Oper} {o : Oper} {a : Act} {Q : Exit → Act → World → Prop} (hg : o.guard = none)
    (s y : Operand) (hop : o.op = Op.call { callee := Callee.builtin Builtin.append, args := #[s, y], argTypes := #[t, t] })
    (base : Nat) (v : Value) (l : List α) (hs : a.eval s = v) (hown : OwnK enc k e base v l w) (yv : Value) (news : List α) (hy : a.eval y = yv) (hr : RK enc x yv news w) (b1 : l.length + news.length ≤ 1000000) (hb : base ≤ w.heap.size)
    (hK : ∀ v' w', OwnK enc k e base v' (l ++ news) w' → w.grownBy w' v.ownBlock → (v'.ownBlock = v.ownBlock ∨ v'.ownBlock = some w.heap.size) → wpList P ops Q rest (a.put o.dst v') w') :
    wpList P ops Q (o :: rest) a w := by
  refine wpList_plain hg fun K' hK' => ?_
  obtain ⟨v', w', hrun, r1, r2, r3⟩ := run_apRK (P := P) hk h0 henc w base t o.type e z bytes h1 h2 hz v l hown yv news hr b1 b2 hb
  unfold Oper.wp
  simp [execOp, hop, resolve, invoke, builtin, hs, hy, hrun, Result.andThen]
  exact hK' _ _ (hK v' w' r1 r2 r3)
theorem below_ownQ {α : Type} {enc : α → List Value} {k : Nat} {e : TypeId} {base : Nat} {v : Value} {l : List α} {w w' : World} (h : OwnK enc k e base v l w) (hg : w.grownBy w' v.ownBlock) (hb : base ≤ w.heap.size) : Below base w w' := below_ownK h hg hb
set_option maxHeartbeats 4000000 in
/-- What Set puts behind the list, Drop having been. -/
theorem mset_tail {x : Nat → Prop} {m : Nat} {l : List (Int × Int)} {w0 : World} {k a : Int} {b : Bool} {R : World → Prop} (hd : Calls Try.prog 27 #[.pointer (some ⟨m, 0, none⟩), .int .i64 k] w0 fun e w' => e = .returned (.bool b) ∧ MD x m l w' ∧ R w') (hl : l.length < 100000) :
    Calls Try.prog 25 #[.pointer (some ⟨m, 0, none⟩), .int .i64 k, .int .i64 a] w0 fun e w' => e = .returned (.tuple #[]) ∧ ∃ w, R w ∧ MD (fun b => w.heap.size ≤ b) m (l ++ [(k, a)]) w' ∧ Trn (fun b => b = m) w w' := by
  go_enter Try.func25, Try.ntmps25
  go_wp2_with fail
  refine hd.mono ?_
  rintro e w ⟨rfl, h, hR⟩
  obtain ⟨v, hBk, hr⟩ := h.ex
  have hml := hBk.lt
  have hb0 : Below w.heap.size w (w.alloc (.cells #[] 56)) := (Below.refl _ _).alloc (Nat.le_refl _) _
  have o0 := own_lit0q (n := w.heap.size) w (Nat.le_refl _)
  have c0 := (hBk.kept (hb0.block _ hml)).cell (i := 0) rfl
  have r0 := hr.below hb0
  go_wp2_with (first
    | (at_builtin; go_loud (
       refine wpList_apR encQ_len (by omega) encQ_one q_under infoQ rfl (by omega) rfl _ _ rfl w.heap.size _ [] rfl o0 v l rfl r0 (by simp; omega) hb0.size ?_
       intro v1 w1 ho1 hg1 _
       rw [List.nil_append] at ho1
       have hb1 := hb0.trans (below_ownK o0 hg1 hb0.size)
       clear o0 r0 hg1))
    | (at_builtin; go_loud (
       refine wpList_apR encQ_len (by omega) encQ_one q_under infoQ rfl (by omega) rfl _ _ rfl w.heap.size v1 l rfl (ownK_alloc ho1 _) (.slice (some ⟨w1.heap.size, 0, none⟩) 1 1) [(k, a)] rfl (RK.oneN (enc := encQ) (k, a) 56 _ _ (by simp) _ rfl) (by simp; omega) (Nat.le_trans hb1.size (by simp)) ?_
       intro v2 w2 ho2 hg2 _
       have hb2 := (hb1.alloc hb1.size _).trans (below_ownK (ownK_alloc ho1 _) hg2 (Nat.le_trans hb1.size (by simp)))
       have cl := hBk.kept (hb2.block _ hml)
       have k1 := cl.cell (i := 0) rfl
       have kf := cl.frozen
       obtain ⟨a5, c5, e5, _⟩ := ownK_form ho2
       subst e5)))
  go_end0
  have H28 : OwnK encQ 2 56 w.heap.size (.slice a5 (l.length + 1) c5) (l ++ [(k, a)]) w2 := by
    have := ho2
    rw [List.length_append] at this
    exact this
  have o28 : OwnK encQ 2 56 w.heap.size (.slice a5 (l.length + 1) c5) (l ++ [(k, a)]) (w2.setCell ⟨m, 0, none⟩ (.slice a5 (l.length + 1) c5)) := own_kept H28 fun g e => Below.heap_setCell _ ⟨m, 0, none⟩ _ g (fun e2 => by have h9 := own_low H28 e; have e3 : g = m := e2; omega)
  exact ⟨rfl, w, hR, ⟨_, cl.set 0 _, RK.own o28 (fun b e => own_low H28 e)⟩, (Trn.of_below hb2).trans (Trn.set (f := grow (fun b => b = m) w w2) cl (.inl rfl) 0 _)⟩
end Go.Proofs.Ytjaejdenboggpaa

/- The document's own LRU: what lies in memory; Add. -/
set_option maxRecDepth 100000
namespace Go.Proofs.Ytjaejdenboggpaa
open Go Go.RowKit Go.Shelf
/-- The document's own LRU in the box m: its lists P and Q are read within x. -/
structure ML (x : Nat → Prop) (m : Nat) (most : Int) (P Q : List Int) (w : World) : Prop where
  ex : ∃ v u, Blk w m [.int .i64 most, v, u] 29 ∧ RK encZ x v P w ∧ RK encZ x u Q w
section
variable {x : Nat → Prop} {m : Nat} {most : Int} {P Q : List Int} {w w' : World}
theorem ML.below (h : ML x m most P Q w) (hb : Below w.heap.size w w') : ML x m most P Q w' := by
  obtain ⟨v, u, h1, h2, h3⟩ := h.ex
  exact ⟨v, u, h1.kept (hb.block _ h1.lt), h2.below hb, h3.below hb⟩
theorem plc_neg {k : Int} {l : List Int} (h : k ∉ l) : decide (plc k l 0 < 0) = true := by rw [plc_none h]; rfl
theorem plc_pos {k : Int} {l : List Int} (h : k ∈ l) : decide (plc k l 0 < 0) = false := by
  obtain ⟨j, _, h2, _⟩ := plc_some (i := 0) h
  rw [h2]
  simp
set_option maxHeartbeats 4000000 in
theorem mladd_has (h : ML x m most P Q w) (k : Int) (hl : P.length + Q.length < 90000) (hk : k ∈ P ++ Q) :
    Calls Try.prog 13 #[.pointer (some ⟨m, 0, none⟩), .int .i64 k] w fun e w' => e = .returned (.tuple #[]) ∧ w = w' := by
  obtain ⟨v, u, hb, hp, hq⟩ := h.ex
  have c1 := hb.cell (i := 1) rfl
  have c2 := hb.cell (i := 2) rfl
  have p1 := place_any hp k (by omega)
  have p2 := place_any hq k (by omega)
  by_cases k1 : k ∈ P
  · have d1 := plc_pos k1
    generalize plc k P 0 = z at *
    go_enter Try.func13, Try.ntmps13
    go_wp2_with (go_at_call 42; refine p1.mono ?_; rintro e w1 ⟨rfl, rfl⟩)
    go_end0
    exact ⟨rfl, rfl⟩
  · have k2 : k ∈ Q := (List.mem_append.1 hk).resolve_left k1
    have d1 := plc_neg k1
    have d2 := plc_pos k2
    generalize plc k P 0 = z at *
    generalize plc k Q 0 = z2 at *
    go_enter Try.func13, Try.ntmps13
    go_wp2_with fail
    refine p1.mono ?_
    rintro e w1 ⟨rfl, rfl⟩
    go_wp2_with fail
    refine p2.mono ?_
    rintro e w1 ⟨rfl, rfl⟩
    go_wp2
    go_end0
    exact ⟨rfl, rfl⟩
set_option maxHeartbeats 4000000 in
theorem mladd_new (h : ML x m most P Q w) (k : Int) (hl : P.length + Q.length < 90000) (hk : k ∉ P ++ Q) (hm : ¬ x m) :
    Calls Try.prog 13 #[.pointer (some ⟨m, 0, none⟩), .int .i64 k] w fun e w' => e = .returned (.tuple #[]) ∧ ML (fun b => x b ∨ w.heap.size ≤ b) m most (P ++ [k]) Q w' ∧ Trn (fun b => b = m) w w' := by
  obtain ⟨v, u, hBk, hp, hq⟩ := h.ex
  have hml := hBk.lt
  have c1 := hBk.cell (i := 1) rfl
  have c2 := hBk.cell (i := 2) rfl
  have p1 := place_any hp k (by omega)
  have p2 := place_any hq k (by omega)
  have d1 := plc_neg (k := k) (l := P) (fun e => hk (List.mem_append_left _ e))
  have d2 := plc_neg (k := k) (l := Q) (fun e => hk (List.mem_append_right _ e))
  generalize plc k P 0 = z at *
  generalize plc k Q 0 = z2 at *
  have hb0 : Below w.heap.size w (w.alloc (.cells #[] 3)) := (Below.refl _ _).alloc (Nat.le_refl _) _
  have o0 := own_lit0z (n := w.heap.size) w (Nat.le_refl _)
  have c0 := (hBk.kept (hb0.block _ hml)).cell (i := 1) rfl
  have r0 := hp.below hb0
  go_enter Try.func13, Try.ntmps13
  go_wp2_with fail
  refine p1.mono ?_
  rintro e w1 ⟨rfl, rfl⟩
  go_wp2_with fail
  refine p2.mono ?_
  rintro e w1 ⟨rfl, rfl⟩
  go_wp2_with (first
    | (at_builtin; go_loud (
       refine wpList_apR encZ_len (by omega) encZ_one z_under infoInt rfl (by omega) rfl _ _ rfl w.heap.size _ [] rfl o0 v P rfl r0 (by simp; omega) hb0.size ?_
       intro v1 w1 ho1 hg1 _
       rw [List.nil_append] at ho1
       have hb1 := hb0.trans (below_ownK o0 hg1 hb0.size)
       clear o0 r0 hg1))
    | (at_builtin; go_loud (
       refine wpList_apR encZ_len (by omega) encZ_one z_under infoInt rfl (by omega) rfl _ _ rfl w.heap.size v1 P rfl (ownK_alloc ho1 _) (.slice (some ⟨w1.heap.size, 0, none⟩) 1 1) [k] rfl (RK.oneN (enc := encZ) k 3 _ _ (by simp) _ rfl) (by simp; omega) (Nat.le_trans hb1.size (by simp)) ?_
       intro v2 w2 ho2 hg2 _
       have hb2 := (hb1.alloc hb1.size _).trans (below_ownK (ownK_alloc ho1 _) hg2 (Nat.le_trans hb1.size (by simp)))
       have cl := hBk.kept (hb2.block _ hml)
       have k1 := cl.cell (i := 1) rfl
       have kf := cl.frozen
       obtain ⟨a5, c5, e5, _⟩ := ownK_form ho2
       subst e5)))
  go_end0
  have H28 : OwnK encZ 1 3 w.heap.size (.slice a5 (P.length + 1) c5) (P ++ [k]) w2 := by
    have := ho2
    rw [List.length_append] at this
    exact this
  have hq2 := hq.below hb2
  have o28 : OwnK encZ 1 3 w.heap.size (.slice a5 (P.length + 1) c5) (P ++ [k]) (w2.setCell ⟨m, 1, none⟩ (.slice a5 (P.length + 1) c5)) := own_kept H28 fun g e => Below.heap_setCell _ ⟨m, 1, none⟩ _ g (fun e2 => by have h9 := own_low H28 e; have e3 : g = m := e2; omega)
  have hq3 : RK encZ x u Q (w2.setCell ⟨m, 1, none⟩ (.slice a5 (P.length + 1) c5)) := hq2.same fun b hb => Below.heap_setCell _ ⟨m, 1, none⟩ _ b (fun e2 => hm (show x m from (show b = m from e2) ▸ hb))
  exact ⟨rfl, ⟨_, _, cl.set 1 _, RK.own o28 (fun b e => .inr (own_low H28 e)), hq3.mono fun b e => .inl e⟩, (Trn.of_below hb2).trans (Trn.set (f := grow (fun b => b = m) w w2) cl (.inl rfl) 1 _)⟩
end
end Go.Proofs.Ytjaejdenboggpaa

/- The document's own LRU: Order. -/
set_option maxRecDepth 100000
namespace Go.Proofs.Ytjaejdenboggpaa
open Go Go.RowKit Go.Shelf
attribute [local go_sem] Oper.semAt_some
set_option maxHeartbeats 8000000 in
theorem mlorder_any {x : Nat → Prop} {m : Nat} {most : Int} {P Q : List Int} {w : World} (h : ML x m most P Q w) (hl : P.length + Q.length < 90000) :
    Calls Try.prog 21 #[.pointer (some ⟨m, 0, none⟩)] w fun e w' => ∃ v', e = .returned v' ∧ OwnK encZ 1 3 w.heap.size v' (P ++ Q) w' ∧ Below w.heap.size w w' := by
  obtain ⟨v, u, hBk, hp, hq⟩ := h.ex
  have hml := hBk.lt
  have c1 := hBk.cell (i := 1) rfl
  have c2 := hBk.cell (i := 2) rfl
  have HRT := Lib.hid (fun W' (hb : Below w.heap.size w W') => hp.below hb)
  have HRD := Lib.hid (fun W' (hb : Below w.heap.size w W') => hq.below hb)
  obtain ⟨LL, hLL⟩ : ∃ LL, P ++ Q = LL := ⟨_, rfl⟩
  obtain ⟨n1, hn1⟩ : ∃ n, P.length = n := ⟨_, rfl⟩
  obtain ⟨n2, hn2⟩ : ∃ n, (P ++ Q).length = n := ⟨_, rfl⟩
  have HN1 : Hid (LL.take n1 = P) := Lib.hid (by rw [← hLL, ← hn1, List.take_left' rfl])
  have HN2 : Hid (LL.take n2 = P ++ Q) := Lib.hid (by rw [← hLL, ← hn2, List.take_length])
  have HP1 : Hid (([] : List Int) ++ P <+: LL) := Lib.hid ⟨Q, by rw [← hLL]; rfl⟩
  have HP2 : Hid (P ++ Q <+: LL) := Lib.hid ⟨[], by rw [← hLL, List.append_nil]⟩
  clear hLL hn1 hn2 h hp hq hBk
  go_enter Try.func21, Try.ntmps21
  go_wp2
  refine wp_region_slotsTL (by simp) (leRow encZ 1 3 w.heap.size LL) (slotPhi ((fun v W' => OwnK encZ 1 3 w.heap.size v (LL.take 0) W') :: (fun v _ => v = ?f4) :: (fun v _ => v = ?f5) :: (fun v _ => v = ?f6) :: (fun v _ => v = ?f7) :: (fun v W' => OwnK encZ 1 3 w.heap.size v (LL.take n1) W') :: (fun v _ => v = ?f9) :: (fun v _ => v = ?f10) :: (fun v _ => v = ?f11) :: (fun v _ => v = ?f12) :: (fun v W' => OwnK encZ 1 3 w.heap.size v (LL.take n2) W') :: [])) leRow_refl (fun h g => leRow_trans h g) (slotPhi_by ?stb) (by kernel_rfl) (by kernel_rfl) (by kernel_rfl) (by kernel_rfl) (by kernel_rfl) ?steps ?fin
  case stb =>
    refine ⟨by intro v x y hle h; exact hle.2 v _ h, ?_⟩
    refine ⟨by intro _ _ _ _ h; exact h, ?_⟩
    refine ⟨by intro _ _ _ _ h; exact h, ?_⟩
    refine ⟨by intro _ _ _ _ h; exact h, ?_⟩
    refine ⟨by intro _ _ _ _ h; exact h, ?_⟩
    refine ⟨by intro v x y hle h; exact hle.2 v _ h, ?_⟩
    refine ⟨by intro _ _ _ _ h; exact h, ?_⟩
    refine ⟨by intro _ _ _ _ h; exact h, ?_⟩
    refine ⟨by intro _ _ _ _ h; exact h, ?_⟩
    refine ⟨by intro _ _ _ _ h; exact h, ?_⟩
    refine ⟨by intro v x y hle h; exact hle.2 v _ h, ?_⟩
    exact trivial
  case steps =>
    refine ⟨?_, ?_⟩
    · intro a W K N hK
      rw [if_pos (wanted_no rfl)]
      go_simp
      refine hK _ _ (leRow_of ((Below.refl _ _).alloc (Nat.le_refl _) _) N.le.1.size) ?_
      exact own_lit0z W N.le.1.size
    refine ⟨?_, ?_⟩
    · intro a W K N hK
      have e0 : a.tmps[0]?.getD undef = .pointer (some ⟨m, 0, none⟩) := N.was' 0 _ (by kernel_rfl) rfl
      rw [if_pos (wanted_no rfl)]
      go_simp
      refine hK _ _ (leRow_refl _) ?_
      exact rfl
    refine ⟨?_, ?_⟩
    · intro a W K N hK
      have e4 : a.tmps[4]?.getD undef = _ := N.dep' 1 4 (by kernel_rfl)
      rw [if_pos (wanted_no rfl)]
      go_simp
      refine hK _ _ (leRow_refl _) ?_
      exact rfl
    refine ⟨?_, ?_⟩
    · intro a W K N hK
      have e5 : a.tmps[5]?.getD undef = _ := N.dep' 2 5 (by kernel_rfl)
      rw [if_pos (wanted_no rfl)]
      go_simp
      refine hK _ _ (leRow_refl _) ?_
      exact rfl
    refine ⟨?_, ?_⟩
    · intro a W K N hK
      have e6 : a.tmps[6]?.getD undef = _ := N.dep' 3 6 (by kernel_rfl)
      rw [if_pos (wanted_no rfl)]
      have z := (N.le.1.cell (p := ⟨m, 1, none⟩) hml).trans c1
      go_simp
      refine hK _ _ (leRow_refl _) ?_
      exact rfl
    refine ⟨?_, ?_⟩
    · intro a W K N hK
      have e3 := Lib.hid (show (fun v W' => OwnK encZ 1 3 w.heap.size v (LL.take 0) W') (a.tmps[3]?.getD undef) W from N.dep' 0 3 (by kernel_rfl))
      have e7 : a.tmps[7]?.getD undef = _ := N.dep' 4 7 (by kernel_rfl)
      rw [if_pos (wanted_no rfl)]
      refine wp_apKeep (L := LL) (base := w.heap.size) encZ_len (by omega) encZ_one z_under infoInt rfl (by omega) (.tmp 3) (.tmp 7) rfl _ ([]) (eval_tmp9 a 3) (by exact e3.out) _ (P) ((eval_tmp9 a 7).trans e7) (HRT.out _ (below_undrZ N.le.1)) (by first | omega | (simp only [List.length_append]; omega) | (simp; omega)) N.le.1.size HP1.out ?_
      intro v5 w5 ho5 hle5 _
      refine hK _ _ hle5 ?_
      exact HN1.out ▸ ho5
    refine ⟨?_, ?_⟩
    · intro a W K N hK
      have e0 : a.tmps[0]?.getD undef = .pointer (some ⟨m, 0, none⟩) := N.was' 0 _ (by kernel_rfl) rfl
      rw [if_pos (wanted_no rfl)]
      go_simp
      refine hK _ _ (leRow_refl _) ?_
      exact rfl
    refine ⟨?_, ?_⟩
    · intro a W K N hK
      have e9 : a.tmps[9]?.getD undef = _ := N.dep' 6 9 (by kernel_rfl)
      rw [if_pos (wanted_no rfl)]
      go_simp
      refine hK _ _ (leRow_refl _) ?_
      exact rfl
    refine ⟨?_, ?_⟩
    · intro a W K N hK
      have e10 : a.tmps[10]?.getD undef = _ := N.dep' 7 10 (by kernel_rfl)
      rw [if_pos (wanted_no rfl)]
      go_simp
      refine hK _ _ (leRow_refl _) ?_
      exact rfl
    refine ⟨?_, ?_⟩
    · intro a W K N hK
      have e11 : a.tmps[11]?.getD undef = _ := N.dep' 8 11 (by kernel_rfl)
      rw [if_pos (wanted_no rfl)]
      have z := (N.le.1.cell (p := ⟨m, 2, none⟩) hml).trans c2
      go_simp
      refine hK _ _ (leRow_refl _) ?_
      exact rfl
    refine ⟨?_, ?_⟩
    · intro a W K N hK
      have e8 := Lib.hid (show (fun v W' => OwnK encZ 1 3 w.heap.size v (LL.take n1) W') (a.tmps[8]?.getD undef) W from N.dep' 5 8 (by kernel_rfl))
      have e12 : a.tmps[12]?.getD undef = _ := N.dep' 9 12 (by kernel_rfl)
      rw [if_pos (wanted_no rfl)]
      refine wp_apKeep (L := LL) (base := w.heap.size) encZ_len (by omega) encZ_one z_under infoInt rfl (by omega) (.tmp 8) (.tmp 12) rfl _ (P) (eval_tmp9 a 8) (by exact (HN1.out ▸ e8.out)) _ (Q) ((eval_tmp9 a 12).trans e12) (HRD.out _ (below_undrZ N.le.1)) (by first | omega | (simp only [List.length_append]; omega) | (simp; omega)) N.le.1.size HP2.out ?_
      intro v5 w5 ho5 hle5 _
      refine hK _ _ hle5 ?_
      exact HN2.out ▸ ho5
    exact trivial
  case fin =>
    intro V hV
    simp only [FinAll, slotPhi, List.dropLast, List.getLast_cons_cons, List.getLast_singleton, List.getD_cons_zero, List.getD_cons_succ, forall_eq, Act.put, List.setIfInBounds_toArray, List.set_cons_zero, List.set_cons_succ]
    intro v3 h3
    intro v8 h8
    intro v13 h13
    have hVb := below_undrZ hV.1
    rw [HN2.out] at h13
    have H14 := Lib.hid h13
    clear hV h3 h8 h13
    go_wp2
    go_ret
    exact ⟨_, rfl, H14.out, hVb⟩
end Go.Proofs.Ytjaejdenboggpaa

/- The document's own LRU: where one is, in any order drawn. -/
set_option maxRecDepth 100000
namespace Go.Proofs.Ytjaejdenboggpaa
open Go Go.RowKit Go.Shelf
theorem erase_first {k : Int} : ∀ {l : List Int} {j : Nat}, l[j]? = some k → (∀ z, z < j → l[z]? ≠ some k) → l.erase k = l.take j ++ l.drop (j + 1)
  | [], j, h, _ => by simp at h
  | y :: l, 0, h, _ => by
    have : y = k := by simpa using h
    subst this
    simp
  | y :: l, j + 1, h, hz => by
    have hne : y ≠ k := fun e => hz 0 (by omega) (by simp [e])
    rw [List.erase_cons_tail (by simpa using hne), erase_first (j := j) (by simpa using h) (fun z hj => by have := hz (z + 1) (by omega); simpa using this)]
    rfl
section
variable {x : Nat → Prop} {m : Nat} {most : Int} {P Q : List Int} {w w' : World}
theorem place_q {v : Value} {l : List Int} (h : RK encZ x v l w) (k : Int) (hl : l.length < 100000) (n : Nat) : Calls Try.prog 42 #[v, .int .i64 k] (w.drewN n) fun e w' => e = .returned (.int .i64 (plc k l 0)) ∧ ∃ n', w' = (w.drewN n).drewN n' := by
  refine (place_any (h.same (W' := w.drewN n) (fun _ _ => rfl)) k hl).mono ?_
  rintro e w' ⟨rfl, rfl⟩
  exact ⟨rfl, 0, rfl⟩
theorem plc_ge {k : Int} {l : List Int} (h : k ∈ l) : ∃ j, j < l.length ∧ plc k l 0 = (j : Int) ∧ l.erase k = l.take j ++ l.drop (j + 1) := by
  obtain ⟨j, h1, h2, h3, h4⟩ := plc_some (i := 0) h
  exact ⟨j, h1, by rw [h2, Nat.zero_add], erase_first h3 h4⟩
end
end Go.Proofs.Ytjaejdenboggpaa
