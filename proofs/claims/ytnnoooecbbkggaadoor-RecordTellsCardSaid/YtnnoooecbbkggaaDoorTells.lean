/- RecordTells: its walk. -/
import Derived.Test.YtnnoooecbbkggaaDoorSames
import Derived.Test.YtnnoooecbbkggaaDoorRIn
import Derived.Test.YtnnoooecbbkggaaDoorSlots
namespace Go.Proofs.YtnnoooecbbkggaaDoor
open Go.RowKit Go.Shelf
attribute [local go_sem] Oper.semAt_some

theorem readP_at {ao : Option Addr} {len cap : Nat} {ps : List (Nat × Nat)} {W : World} (h : ReadP (.slice ao len cap) ps W) {j : Nat} (hj : j < ps.length) :
    ∃ g off, ao = some ⟨g, off, none⟩ ∧ W.cell? ⟨g, off + j * 2, none⟩ = some (.int .i64 (ps[j].1 : Int)) ∧ W.cell? ⟨g, off + j * 2 + 1, none⟩ = some (.int .i64 (ps[j].2 : Int)) := by
  obtain ⟨ao', cap', e, hc⟩ := h.form
  cases e
  exact hc j hj
theorem fieldsPart : Tryd.prog.fieldsOf 34 = #[{ name := "At", type := 3, offset := 0, embedded := false, tag := "", pkgPath := "", byteOffset := 0 }, { name := "N", type := 3, offset := 1, embedded := false, tag := "", pkgPath := "", byteOffset := 8 }] := by
  unfold Program.fieldsOf
  rw [Tryd.underlying34]
theorem heldPart : Tryd.prog.stoodInHeld 34 = false := by kernel_rfl
theorem neq_part (W : World) (p q : Int) : (binOp .neq 34 (.agg #[.int .i64 p, .int .i64 q]) (.agg #[.int .i64 p, .int .i64 q])).run Tryd.prog W = .ok (.bool false) W := by
  rw [run_neq_struct, run_equalIn_struct W 9999 34 _ _ (by rw [fieldsPart]; exact Tryd.underlying34) heldPart, fieldsPart]
  simp [Op.eqFields, go_sem]
theorem below_two {V w : World} {o1 o2 : Obj} (h : V = (w.alloc o1).alloc o2) : Below w.heap.size w V := by
  subst h; exact ((Below.refl _ w).alloc (Nat.le_refl _) _).alloc (by simp) _
theorem two_first {V W : World} {c1 : Array Value} {t1 : TypeId} {o2 : Obj} (h : V = (W.alloc (.cells c1 t1)).alloc o2) : Block V W.heap.size c1 t1 := by
  subst h
  exact ((Block.new W c1 t1).alloc o2 : Block ((W.alloc (.cells c1 t1)).alloc o2) _ _ _)
theorem two_second {V W : World} {c2 : Array Value} {t2 : TypeId} {o1 : Obj} (h : V = (W.alloc o1).alloc (.cells c2 t2)) : Block V (W.heap.size + 1) c2 t2 := by
  subst h
  have := Block.new (W.alloc o1) c2 t2
  rw [World.size_alloc] at this
  exact this

theorem Rd.partsD_le (t : Int) (d : List UInt8) : (Rd.partsD t d).length ≤ 2 := by
  unfold Rd.partsD Rd.parts
  split
  · simp
  · split
    · split <;> simp
    · cases h : Rd.lay t with
      | none => simp
      | some x =>
        obtain ⟨a, n, b⟩ := x
        simp only
        cases hr : Rd.run d n a with
        | none => simp
        | some y =>
          obtain ⟨ps, e⟩ := y
          simp only
          have h1 := (Rd.run_bound d n a hr).2.2.2.1
          have h2 := (Rd.lay_bounds h).2.1
          split
          · simp only [Option.getD_some]; omega
          · simp
set_option maxRecDepth 100000 in
set_option maxHeartbeats 16000000 in
theorem tells_any (r o : Rd.RR) (t : Int) (w : World) (hn : r.name.length ≤ 9223372036854775807) (hd : r.data.length ≤ 9223372036854775807) (hn2 : o.name.length ≤ 9223372036854775807) (hd2 : o.data.length ≤ 9223372036854775807)
    (ht0 : -9223372036854775808 ≤ t) (ht1 : t ≤ 9223372036854775807) (hrt : -9223372036854775808 ≤ r.typ ∧ r.typ ≤ 9223372036854775807) (hrc : -9223372036854775808 ≤ r.cls ∧ r.cls ≤ 9223372036854775807) (hrl : -9223372036854775808 ≤ r.ttl ∧ r.ttl ≤ 9223372036854775807)
    (hot : -9223372036854775808 ≤ o.typ ∧ o.typ ≤ 9223372036854775807) (hoc : -9223372036854775808 ≤ o.cls ∧ o.cls ≤ 9223372036854775807) (hol : -9223372036854775808 ≤ o.ttl ∧ o.ttl ≤ 9223372036854775807) (hv : VarsOk w) :
    Calls Tryd.prog 3 #[rrV r, rrV o, .int .i64 t] w fun e w' => e = .returned (.bool true) ∧ Below w.heap.size w w' := by
  by_cases hg : 400 < r.name.length ∨ 1200 < r.data.length ∨ 400 < o.name.length ∨ 1200 < o.data.length
  · have hcase : 400 < r.name.length ∨ (r.name.length ≤ 400 ∧ 1200 < r.data.length) ∨ (r.name.length ≤ 400 ∧ r.data.length ≤ 1200 ∧ 400 < o.name.length) ∨ (r.name.length ≤ 400 ∧ r.data.length ≤ 1200 ∧ o.name.length ≤ 400 ∧ 1200 < o.data.length) := by omega
    clear hg
    obtain ⟨n, ty, cl, tt, d⟩ := r
    obtain ⟨n2, ty2, cl2, tt2, d2⟩ := o
    unfold rrV
    simp only at hcase hn hd hn2 hd2 ⊢
    rcases hcase with g1 | ⟨g1, g2⟩ | ⟨g1, g2, g3⟩ | ⟨g1, g2, g3, g4⟩
    all_goals
      go_enter Tryd.func3, Tryd.ntmps3
      go_wp2_with (go_at_call 9; refine calls_with ?_; intro V hV; have bV := below_two hV; clear hV; refine (awake_any _ (hv.below bV)).mono ?_; rintro e w1 ⟨rfl, b1⟩; replace b1 := below_trans bV b1)
      go_ret
      exact ⟨rfl, b1⟩
  have g1 : r.name.length ≤ 400 := by omega
  have g2 : r.data.length ≤ 1200 := by omega
  have g3 : o.name.length ≤ 400 := by omega
  have g4 : o.data.length ≤ 1200 := by omega
  clear hg
  have fr : Fine r := ⟨by omega, by omega, hrt, hrc, hrl⟩
  have fo : Fine o := ⟨by omega, by omega, hot, hoc, hol⟩
  have c1 := fun W => rparts_any r.typ r.data W (by omega)
  have c2 := fun W => parts_any r.typ r.data W (by omega)
  have c3 := fun W => data_any r.typ r.data W (by omega)
  have c4 := fun W => check_any r W (by omega) (by omega)
  have c5 := fun W => rcheck_any r W (by omega) (by omega)
  have c6 := fun W => known_any t W
  have c7 := fun W => rknown_any t W
  have c8 := fun W (h : VarsOk W) => type_any t W ht0 ht1 h
  have c9 := fun W => rtype_any t W ht0 ht1
  have t1 := fun W => target_any r W (by omega)
  have t2 := fun W => rtarget_any r W (by omega)
  have t3 := fun W => addr_any r W (by omega)
  have t4 := fun W => raddr_any r W (by omega)
  have t5 := fun W => minimum_any r W (by omega)
  have t6 := fun W => rminimum_any r W (by omega)
  have s1 := fun W => same_any r o W (by omega) (by omega) (by omega) (by omega)
  have s2 := fun W => rsame_any r o W (by omega) (by omega) (by omega) (by omega)
  have s3 := fun W sa sb ha hb => sameSet_any [r, o] [o] sa sb W ha hb (by intro x hx; simp only [List.mem_cons, List.not_mem_nil, or_false] at hx; rcases hx with hx | hx <;> rw [hx]; exact fr; exact fo) (by intro x hx; simp only [List.mem_cons, List.not_mem_nil, or_false] at hx; rw [hx]; exact fo) (by simp) (by simp)
  have s4 := fun W sa sb ha hb => rsameSet_any [r, o] [o] sa sb W ha hb (by intro x hx; simp only [List.mem_cons, List.not_mem_nil, or_false] at hx; rcases hx with hx | hx <;> rw [hx]; exact fr; exact fo) (by intro x hx; simp only [List.mem_cons, List.not_mem_nil, or_false] at hx; rw [hx]; exact fo) (by simp) (by simp)
  obtain ⟨ok, hok⟩ : ∃ b, Rd.dataOk r.typ r.data = b := ⟨_, rfl⟩
  obtain ⟨ps, hps⟩ : ∃ b, Rd.partsD r.typ r.data = b := ⟨_, rfl⟩
  have hpn : ok = false → ps = [] := fun h => by rw [← hps]; exact Rd.partsD_no (by rw [hok]; exact h)
  have hpl : ps.length ≤ 2 := by rw [← hps]; exact Rd.partsD_le _ _
  obtain ⟨ck, hck⟩ : ∃ b, Rd.check r = b := ⟨_, rfl⟩
  obtain ⟨kn, hkn⟩ : ∃ b, Rd.known t = b := ⟨_, rfl⟩
  obtain ⟨tn, htn⟩ : ∃ b, Rd.tname t = b := ⟨_, rfl⟩
  obtain ⟨S, B, hS⟩ : ∃ (S : List UInt8) (B : Bool), strBool (Rd.target r) = .tuple #[.string ⟨S.toArray⟩, .bool B] := by cases Rd.target r <;> exact ⟨_, _, rfl⟩
  obtain ⟨A1, B1, hA1⟩ : ∃ (A : Nat) (B : Bool), intBool (Rd.lastFour 1 r) = .tuple #[.int .i64 (A : Int), .bool B] := by
    cases Rd.lastFour 1 r
    · exact ⟨0, _, rfl⟩
    · exact ⟨_, _, rfl⟩
  obtain ⟨A6, B6, hA6⟩ : ∃ (A : Nat) (B : Bool), intBool (Rd.lastFour 6 r) = .tuple #[.int .i64 (A : Int), .bool B] := by
    cases Rd.lastFour 6 r
    · exact ⟨0, _, rfl⟩
    · exact ⟨_, _, rfl⟩
  obtain ⟨sm, hsm⟩ : ∃ b, Rd.sameR r o = b := ⟨_, rfl⟩
  obtain ⟨ss, hss⟩ : ∃ b, Rd.sameSet [r, o] [o] = b := ⟨_, rfl⟩
  have HR := Lib.hid (fun W => readTwo W r o 23 rfl)
  have HO := Lib.hid (fun W => readOne W o 23 rfl)
  unfold PartsRet at c1
  simp only [hps, hok] at c1 c2 c3
  simp only [hck] at c4 c5
  simp only [hkn] at c6 c7
  simp only [htn] at c8 c9
  simp only [hS] at t1 t2
  simp only [hA1] at t3 t4
  simp only [hA6] at t5 t6
  simp only [hsm] at s1 s2
  simp only [hss] at s3 s4
  clear hps hok hck hkn htn hS hA1 hA6 hsm hss fr fo hrt hrc hrl hot hoc hol
  obtain ⟨n, ty, cl, tt, d⟩ := r
  obtain ⟨n2, ty2, cl2, tt2, d2⟩ := o
  unfold rrV at c4 c5 t1 t2 t3 t4 t5 t6 s1 s2 ⊢
  simp only at c1 c2 c3 c4 c5 t1 t2 t3 t4 t5 t6 s1 s2 g1 g2 g3 g4 hn hd hn2 hd2 ⊢
  have C1 := Lib.hid c1
  have C2 := Lib.hid c2
  have C3 := Lib.hid c3
  have C4 := Lib.hid c4
  have C5 := Lib.hid c5
  have C6 := Lib.hid c6
  have C7 := Lib.hid c7
  have C8 := Lib.hid c8
  have C9 := Lib.hid c9
  have T1 := Lib.hid t1
  have T2 := Lib.hid t2
  have T3 := Lib.hid t3
  have T4 := Lib.hid t4
  have T5 := Lib.hid t5
  have T6 := Lib.hid t6
  have S1 := Lib.hid s1
  have S2 := Lib.hid s2
  have S3 := Lib.hid s3
  have S4 := Lib.hid s4
  clear c1 c2 c3 c4 c5 c6 c7 c8 c9 t1 t2 t3 t4 t5 t6 s1 s2 s3 s4
  go_enter Tryd.func3, Tryd.ntmps3
  go_wp2_with fail
  refine calls_with ?_
  intro V hV
  have bV := below_two hV
  have k1 := two_first hV
  have k2 := two_second hV
  clear hV
  generalize w.heap.size + 1 = Bo at k2 ⊢
  generalize w.heap.size = Br at k1 ⊢
  refine (C1.out _).mono ?_
  rintro e w1 ⟨v1, rfl, r1, b1⟩
  obtain ⟨ao1, cap1, rfl, _⟩ := r1.form
  replace k1 := k1.below b1
  replace k2 := k2.below b1
  replace b1 := below_trans bV b1
  clear bV
  have p0 := k1.cell (i := 0) rfl
  have p1 := k1.cell (i := 1) rfl
  have p4 := k1.cell (i := 4) rfl
  go_wp2_with fail
  refine (C2.out _).mono ?_
  rintro e w2 ⟨v2, rfl, r2, b2⟩
  obtain ⟨ao2, cap2, rfl, _⟩ := r2.form
  clear p0 p1 p4
  replace r1 := readP_below r1 b2
  replace k1 := k1.below b2
  replace k2 := k2.below b2
  replace b2 := below_trans b1 b2
  clear b1
  have kd := k1.below ((Below.refl _ w2).drew)
  have ko := k2.below ((Below.refl _ w2).drew)
  have q0 := kd.cell (i := 0) rfl
  have q1 := kd.cell (i := 1) rfl
  have q2 := kd.cell (i := 2) rfl
  have q3 := kd.cell (i := 3) rfl
  have q4 := kd.cell (i := 4) rfl
  have u0 := ko.cell (i := 0) rfl
  have u1 := ko.cell (i := 1) rfl
  have u2 := ko.cell (i := 2) rfl
  have u3 := ko.cell (i := 3) rfl
  have u4 := ko.cell (i := 4) rfl
  clear kd ko
  have hneq := fun W p q => neq_part W p q
  have HNEQ := Lib.hid hneq
  clear hneq
  cases ok
  · obtain rfl := hpn rfl
    clear hpn hpl
    go_wp2_with fail
    refine wp_region_slots slotLe (slotPhi ((fun v _ => v = ?sf59) :: (fun v _ => v = ?sf60) :: (fun v _ => v = ?sf61) :: (fun v _ => v = ?sf62) :: (fun v _ => v = ?sf63) :: (fun v _ => v = ?sf64) :: (fun v _ => v = ?sf65) :: (fun v _ => v = ?sf66) :: (fun v _ => v = ?sf67) :: (fun v _ => v = ?sf68) :: (fun v _ => v = undef) :: (fun v _ => v = undef) :: (fun v _ => v = undef) :: (fun v _ => v = undef) :: (fun v _ => v = undef) :: (fun v _ => v = ?sf74) :: (fun v _ => v = ?sf75) :: (fun v _ => v = ?sf76) :: (fun v _ => v = ?sf77) :: (fun v _ => v = ?sf78) :: (fun v _ => v = ?sf79) :: (fun v _ => v = ?sf80) :: (fun v _ => v = ?sf81) :: (fun v _ => v = ?sf82) :: (fun v _ => v = ?sf83) :: (fun v _ => v = ?sf84) :: (fun v _ => v = ?sf85) :: (fun v _ => v = ?sf86) :: (fun v _ => v = ?sf87) :: (fun v _ => v = ?sf88) :: (fun v _ => v = ?sf89) :: (fun v _ => v = ?sf90) :: (fun v _ => v = ?sf91) :: (fun v _ => v = ?sf92) :: (fun v _ => v = ?sf93) :: (fun v _ => v = ?sf94) :: (fun v _ => v = ?sf95) :: (fun v _ => v = ?sf96) :: [])) slotLe_refl slotLe_trans (slotPhi_stable ?stb) (by kernel_rfl) (by kernel_rfl) (by kernel_rfl) ?steps ?fin
    case stb =>
      refine ⟨by intro _ _ _ _ h; exact h, ?_⟩
      refine ⟨by intro _ _ _ _ h; exact h, ?_⟩
      refine ⟨by intro _ _ _ _ h; exact h, ?_⟩
      refine ⟨by intro _ _ _ _ h; exact h, ?_⟩
      refine ⟨by intro _ _ _ _ h; exact h, ?_⟩
      refine ⟨by intro _ _ _ _ h; exact h, ?_⟩
      refine ⟨by intro _ _ _ _ h; exact h, ?_⟩
      refine ⟨by intro _ _ _ _ h; exact h, ?_⟩
      refine ⟨by intro _ _ _ _ h; exact h, ?_⟩
      refine ⟨by intro _ _ _ _ h; exact h, ?_⟩
      refine ⟨by intro _ _ _ _ h; exact h, ?_⟩
      refine ⟨by intro _ _ _ _ h; exact h, ?_⟩
      refine ⟨by intro _ _ _ _ h; exact h, ?_⟩
      refine ⟨by intro _ _ _ _ h; exact h, ?_⟩
      refine ⟨by intro _ _ _ _ h; exact h, ?_⟩
      refine ⟨by intro _ _ _ _ h; exact h, ?_⟩
      refine ⟨by intro _ _ _ _ h; exact h, ?_⟩
      refine ⟨by intro _ _ _ _ h; exact h, ?_⟩
      refine ⟨by intro _ _ _ _ h; exact h, ?_⟩
      refine ⟨by intro _ _ _ _ h; exact h, ?_⟩
      refine ⟨by intro _ _ _ _ h; exact h, ?_⟩
      refine ⟨by intro _ _ _ _ h; exact h, ?_⟩
      refine ⟨by intro _ _ _ _ h; exact h, ?_⟩
      refine ⟨by intro _ _ _ _ h; exact h, ?_⟩
      refine ⟨by intro _ _ _ _ h; exact h, ?_⟩
      refine ⟨by intro _ _ _ _ h; exact h, ?_⟩
      refine ⟨by intro _ _ _ _ h; exact h, ?_⟩
      refine ⟨by intro _ _ _ _ h; exact h, ?_⟩
      refine ⟨by intro _ _ _ _ h; exact h, ?_⟩
      refine ⟨by intro _ _ _ _ h; exact h, ?_⟩
      refine ⟨by intro _ _ _ _ h; exact h, ?_⟩
      refine ⟨by intro _ _ _ _ h; exact h, ?_⟩
      refine ⟨by intro _ _ _ _ h; exact h, ?_⟩
      refine ⟨by intro _ _ _ _ h; exact h, ?_⟩
      refine ⟨by intro _ _ _ _ h; exact h, ?_⟩
      refine ⟨by intro _ _ _ _ h; exact h, ?_⟩
      refine ⟨by intro _ _ _ _ h; exact h, ?_⟩
      refine ⟨by intro _ _ _ _ h; exact h, ?_⟩
      exact trivial
    case steps =>
      refine ⟨?_, ?_⟩
      · intro a W K N hK
        have e3 : a.tmps[3]?.getD undef = .pointer (some ⟨Br, 0, none⟩) := N.was' 3 _ (by kernel_rfl) rfl
        rw [if_pos (wanted_no rfl)]
        go_simp
        refine hK _ _ (slotLe_refl _) ?_
        exact rfl
      refine ⟨?_, ?_⟩
      · intro a W K N hK
        have e59 : a.tmps[59]?.getD undef = _ := N.dep' 0 59 (by kernel_rfl)
        rw [if_pos (wanted_no rfl)]
        have z1 := keep_cell N.le q1
        go_simp
        refine hK _ _ (slotLe_refl _) ?_
        exact rfl
      refine ⟨?_, ?_⟩
      · intro a W K N hK
        have e3 : a.tmps[3]?.getD undef = .pointer (some ⟨Br, 0, none⟩) := N.was' 3 _ (by kernel_rfl) rfl
        rw [if_pos (wanted_no rfl)]
        go_simp
        refine hK _ _ (slotLe_refl _) ?_
        exact rfl
      refine ⟨?_, ?_⟩
      · intro a W K N hK
        have e61 : a.tmps[61]?.getD undef = _ := N.dep' 2 61 (by kernel_rfl)
        rw [if_pos (wanted_no rfl)]
        have z4 := keep_cell N.le q4
        go_simp
        refine hK _ _ (slotLe_refl _) ?_
        exact rfl
      refine ⟨?_, ?_⟩
      · intro a W K N hK
        have e60 : a.tmps[60]?.getD undef = _ := N.dep' 1 60 (by kernel_rfl)
        have e62 : a.tmps[62]?.getD undef = _ := N.dep' 3 62 (by kernel_rfl)
        rw [if_pos (wanted_no rfl)]
        go_simp
        refine (C3.out _).mono ?_
        rintro e w4 ⟨rfl, b4⟩
        refine hK _ _ b4 ?_
        exact rfl
      refine ⟨?_, ?_⟩
      · intro a W K N hK
        have e8 : a.tmps[8]?.getD undef = .bool false := N.was' 8 _ (by kernel_rfl) rfl
        rw [if_pos (wanted_no rfl)]
        go_simp
        refine hK _ _ (slotLe_refl _) ?_
        exact rfl
      refine ⟨?_, ?_⟩
      · intro a W K N hK
        have e63 : a.tmps[63]?.getD undef = _ := N.dep' 4 63 (by kernel_rfl)
        have e64 : a.tmps[64]?.getD undef = _ := N.dep' 5 64 (by kernel_rfl)
        rw [if_pos (wanted_no rfl)]
        go_simp
        refine hK _ _ (slotLe_refl _) ?_
        exact rfl
      refine ⟨?_, ?_⟩
      · intro a W K N hK
        have e65 : a.tmps[65]?.getD undef = _ := N.dep' 6 65 (by kernel_rfl)
        rw [if_pos (wanted_no rfl)]
        go_simp
        refine hK _ _ (slotLe_refl _) ?_
        exact rfl
      refine ⟨?_, ?_⟩
      · intro a W K N hK
        have e8 : a.tmps[8]?.getD undef = .bool false := N.was' 8 _ (by kernel_rfl) rfl
        have eg : a.tmps[66]?.getD undef = .bool false := N.dep' 7 66 (by kernel_rfl)
        rw [if_pos (by rw [wanted_get (g := 7) (d := 66) rfl rfl eg]; decide)]
        clear eg
        go_simp
        refine hK _ _ (slotLe_refl _) ?_
        exact rfl
      refine ⟨?_, ?_⟩
      · intro a W K N hK
        have e67 : a.tmps[67]?.getD undef = _ := N.dep' 8 67 (by kernel_rfl)
        have eg : a.tmps[66]?.getD undef = .bool false := N.dep' 7 66 (by kernel_rfl)
        rw [if_pos (by rw [wanted_get (g := 7) (d := 66) rfl rfl eg]; decide)]
        clear eg
        go_simp
        refine hK _ _ (slotLe_refl _) ?_
        exact rfl
      refine ⟨?_, ?_⟩
      · intro a W K N hK
        have eg : a.tmps[68]?.getD undef = .bool false := N.dep' 9 68 (by kernel_rfl)
        rw [if_neg (by rw [wanted_get (g := 9) (d := 68) rfl rfl eg]; decide)]
        refine hK _ _ (slotLe_refl _) ?_
        exact rfl
      refine ⟨?_, ?_⟩
      · intro a W K N hK
        have eg : a.tmps[68]?.getD undef = .bool false := N.dep' 9 68 (by kernel_rfl)
        rw [if_neg (by rw [wanted_get (g := 9) (d := 68) rfl rfl eg]; decide)]
        refine hK _ _ (slotLe_refl _) ?_
        exact rfl
      refine ⟨?_, ?_⟩
      · intro a W K N hK
        have eg : a.tmps[68]?.getD undef = .bool false := N.dep' 9 68 (by kernel_rfl)
        rw [if_neg (by rw [wanted_get (g := 9) (d := 68) rfl rfl eg]; decide)]
        refine hK _ _ (slotLe_refl _) ?_
        exact rfl
      refine ⟨?_, ?_⟩
      · intro a W K N hK
        have eg : a.tmps[68]?.getD undef = .bool false := N.dep' 9 68 (by kernel_rfl)
        rw [if_neg (by rw [wanted_get (g := 9) (d := 68) rfl rfl eg]; decide)]
        refine hK _ _ (slotLe_refl _) ?_
        exact rfl
      refine ⟨?_, ?_⟩
      · intro a W K N hK
        have eg : a.tmps[68]?.getD undef = .bool false := N.dep' 9 68 (by kernel_rfl)
        rw [if_neg (by rw [wanted_get (g := 9) (d := 68) rfl rfl eg]; decide)]
        refine hK _ _ (slotLe_refl _) ?_
        exact rfl
      refine ⟨?_, ?_⟩
      · intro a W K N hK
        have e68 : a.tmps[68]?.getD undef = _ := N.dep' 9 68 (by kernel_rfl)
        have e73 : a.tmps[73]?.getD undef = undef := N.dep' 14 73 (by kernel_rfl)
        have eg : a.tmps[66]?.getD undef = .bool false := N.dep' 7 66 (by kernel_rfl)
        rw [if_pos (by rw [wanted_get (g := 7) (d := 66) rfl rfl eg]; decide)]
        clear eg
        go_simp
        refine hK _ _ (slotLe_refl _) ?_
        exact rfl
      refine ⟨?_, ?_⟩
      · intro a W K N hK
        have e66 : a.tmps[66]?.getD undef = _ := N.dep' 7 66 (by kernel_rfl)
        have e74 : a.tmps[74]?.getD undef = _ := N.dep' 15 74 (by kernel_rfl)
        rw [if_pos (wanted_no rfl)]
        go_simp
        refine hK _ _ (slotLe_refl _) ?_
        exact rfl
      refine ⟨?_, ?_⟩
      · intro a W K N hK
        have e75 : a.tmps[75]?.getD undef = _ := N.dep' 16 75 (by kernel_rfl)
        rw [if_pos (wanted_no rfl)]
        go_simp
        refine hK _ _ (slotLe_refl _) ?_
        exact rfl
      refine ⟨?_, ?_⟩
      · intro a W K N hK
        have e3 : a.tmps[3]?.getD undef = .pointer (some ⟨Br, 0, none⟩) := N.was' 3 _ (by kernel_rfl) rfl
        have eg : a.tmps[76]?.getD undef = .bool false := N.dep' 17 76 (by kernel_rfl)
        rw [if_pos (by rw [wanted_get (g := 17) (d := 76) rfl rfl eg]; decide)]
        clear eg
        have z0 := keep_cell N.le q0
        have z1 := keep_cell N.le q1
        have z2 := keep_cell N.le q2
        have z3 := keep_cell N.le q3
        have z4 := keep_cell N.le q4
        go_simp
        refine hK _ _ (slotLe_refl _) ?_
        exact rfl
      refine ⟨?_, ?_⟩
      · intro a W K N hK
        have e77 : a.tmps[77]?.getD undef = _ := N.dep' 18 77 (by kernel_rfl)
        have eg : a.tmps[76]?.getD undef = .bool false := N.dep' 17 76 (by kernel_rfl)
        rw [if_pos (by rw [wanted_get (g := 17) (d := 76) rfl rfl eg]; decide)]
        clear eg
        go_simp
        refine (C4.out _).mono ?_
        rintro e w4 ⟨rfl, b4⟩
        refine hK _ _ b4 ?_
        exact rfl
      refine ⟨?_, ?_⟩
      · intro a W K N hK
        have e3 : a.tmps[3]?.getD undef = .pointer (some ⟨Br, 0, none⟩) := N.was' 3 _ (by kernel_rfl) rfl
        have eg : a.tmps[76]?.getD undef = .bool false := N.dep' 17 76 (by kernel_rfl)
        rw [if_pos (by rw [wanted_get (g := 17) (d := 76) rfl rfl eg]; decide)]
        clear eg
        have z0 := keep_cell N.le q0
        have z1 := keep_cell N.le q1
        have z2 := keep_cell N.le q2
        have z3 := keep_cell N.le q3
        have z4 := keep_cell N.le q4
        go_simp
        refine hK _ _ (slotLe_refl _) ?_
        exact rfl
      refine ⟨?_, ?_⟩
      · intro a W K N hK
        have e79 : a.tmps[79]?.getD undef = _ := N.dep' 20 79 (by kernel_rfl)
        have eg : a.tmps[76]?.getD undef = .bool false := N.dep' 17 76 (by kernel_rfl)
        rw [if_pos (by rw [wanted_get (g := 17) (d := 76) rfl rfl eg]; decide)]
        clear eg
        go_simp
        refine (C5.out _).mono ?_
        rintro e w4 ⟨rfl, b4⟩
        refine hK _ _ b4 ?_
        exact rfl
      refine ⟨?_, ?_⟩
      · intro a W K N hK
        have e78 : a.tmps[78]?.getD undef = _ := N.dep' 19 78 (by kernel_rfl)
        have e80 : a.tmps[80]?.getD undef = _ := N.dep' 21 80 (by kernel_rfl)
        have eg : a.tmps[76]?.getD undef = .bool false := N.dep' 17 76 (by kernel_rfl)
        rw [if_pos (by rw [wanted_get (g := 17) (d := 76) rfl rfl eg]; decide)]
        clear eg
        go_simp
        refine hK _ _ (slotLe_refl _) ?_
        exact rfl
      refine ⟨?_, ?_⟩
      · intro a W K N hK
        have e76 : a.tmps[76]?.getD undef = _ := N.dep' 17 76 (by kernel_rfl)
        have e81 : a.tmps[81]?.getD undef = _ := N.dep' 22 81 (by kernel_rfl)
        rw [if_pos (wanted_no rfl)]
        go_simp
        refine hK _ _ (slotLe_refl _) ?_
        exact rfl
      refine ⟨?_, ?_⟩
      · intro a W K N hK
        have e82 : a.tmps[82]?.getD undef = _ := N.dep' 23 82 (by kernel_rfl)
        rw [if_pos (wanted_no rfl)]
        go_simp
        refine hK _ _ (slotLe_refl _) ?_
        exact rfl
      refine ⟨?_, ?_⟩
      · intro a W K N hK
        have e2 : a.tmps[2]?.getD undef = .int .i64 t := N.was' 2 _ (by kernel_rfl) rfl
        have eg : a.tmps[83]?.getD undef = .bool false := N.dep' 24 83 (by kernel_rfl)
        rw [if_pos (by rw [wanted_get (g := 24) (d := 83) rfl rfl eg]; decide)]
        clear eg
        go_simp
        refine hK _ _ (slotLe_refl _) ?_
        exact rfl
      refine ⟨?_, ?_⟩
      · intro a W K N hK
        have e84 : a.tmps[84]?.getD undef = _ := N.dep' 25 84 (by kernel_rfl)
        have eg : a.tmps[83]?.getD undef = .bool false := N.dep' 24 83 (by kernel_rfl)
        rw [if_pos (by rw [wanted_get (g := 24) (d := 83) rfl rfl eg]; decide)]
        clear eg
        go_simp
        refine (C6.out _).mono ?_
        rintro e w4 ⟨rfl, rfl⟩
        refine hK _ _ (slotLe_refl _) ?_
        exact rfl
      refine ⟨?_, ?_⟩
      · intro a W K N hK
        have e2 : a.tmps[2]?.getD undef = .int .i64 t := N.was' 2 _ (by kernel_rfl) rfl
        have eg : a.tmps[83]?.getD undef = .bool false := N.dep' 24 83 (by kernel_rfl)
        rw [if_pos (by rw [wanted_get (g := 24) (d := 83) rfl rfl eg]; decide)]
        clear eg
        go_simp
        refine hK _ _ (slotLe_refl _) ?_
        exact rfl
      refine ⟨?_, ?_⟩
      · intro a W K N hK
        have e86 : a.tmps[86]?.getD undef = _ := N.dep' 27 86 (by kernel_rfl)
        have eg : a.tmps[83]?.getD undef = .bool false := N.dep' 24 83 (by kernel_rfl)
        rw [if_pos (by rw [wanted_get (g := 24) (d := 83) rfl rfl eg]; decide)]
        clear eg
        go_simp
        refine (C7.out _).mono ?_
        rintro e w4 ⟨rfl, b4⟩
        refine hK _ _ b4 ?_
        exact rfl
      refine ⟨?_, ?_⟩
      · intro a W K N hK
        have e85 : a.tmps[85]?.getD undef = _ := N.dep' 26 85 (by kernel_rfl)
        have e87 : a.tmps[87]?.getD undef = _ := N.dep' 28 87 (by kernel_rfl)
        have eg : a.tmps[83]?.getD undef = .bool false := N.dep' 24 83 (by kernel_rfl)
        rw [if_pos (by rw [wanted_get (g := 24) (d := 83) rfl rfl eg]; decide)]
        clear eg
        go_simp
        refine hK _ _ (slotLe_refl _) ?_
        exact rfl
      refine ⟨?_, ?_⟩
      · intro a W K N hK
        have e83 : a.tmps[83]?.getD undef = _ := N.dep' 24 83 (by kernel_rfl)
        have e88 : a.tmps[88]?.getD undef = _ := N.dep' 29 88 (by kernel_rfl)
        rw [if_pos (wanted_no rfl)]
        go_simp
        refine hK _ _ (slotLe_refl _) ?_
        exact rfl
      refine ⟨?_, ?_⟩
      · intro a W K N hK
        have e89 : a.tmps[89]?.getD undef = _ := N.dep' 30 89 (by kernel_rfl)
        rw [if_pos (wanted_no rfl)]
        go_simp
        refine hK _ _ (slotLe_refl _) ?_
        exact rfl
      refine ⟨?_, ?_⟩
      · intro a W K N hK
        have e2 : a.tmps[2]?.getD undef = .int .i64 t := N.was' 2 _ (by kernel_rfl) rfl
        have eg : a.tmps[90]?.getD undef = .bool false := N.dep' 31 90 (by kernel_rfl)
        rw [if_pos (by rw [wanted_get (g := 31) (d := 90) rfl rfl eg]; decide)]
        clear eg
        go_simp
        refine hK _ _ (slotLe_refl _) ?_
        exact rfl
      refine ⟨?_, ?_⟩
      · intro a W K N hK
        have e91 : a.tmps[91]?.getD undef = _ := N.dep' 32 91 (by kernel_rfl)
        have eg : a.tmps[90]?.getD undef = .bool false := N.dep' 31 90 (by kernel_rfl)
        rw [if_pos (by rw [wanted_get (g := 31) (d := 90) rfl rfl eg]; decide)]
        clear eg
        go_simp
        refine (C8.out _ (hv.below (below_trans b2 (below_undrew N.le)))).mono ?_
        rintro e w4 ⟨rfl, b4⟩
        refine hK _ _ b4 ?_
        exact rfl
      refine ⟨?_, ?_⟩
      · intro a W K N hK
        have e2 : a.tmps[2]?.getD undef = .int .i64 t := N.was' 2 _ (by kernel_rfl) rfl
        have eg : a.tmps[90]?.getD undef = .bool false := N.dep' 31 90 (by kernel_rfl)
        rw [if_pos (by rw [wanted_get (g := 31) (d := 90) rfl rfl eg]; decide)]
        clear eg
        go_simp
        refine hK _ _ (slotLe_refl _) ?_
        exact rfl
      refine ⟨?_, ?_⟩
      · intro a W K N hK
        have e93 : a.tmps[93]?.getD undef = _ := N.dep' 34 93 (by kernel_rfl)
        have eg : a.tmps[90]?.getD undef = .bool false := N.dep' 31 90 (by kernel_rfl)
        rw [if_pos (by rw [wanted_get (g := 31) (d := 90) rfl rfl eg]; decide)]
        clear eg
        go_simp
        refine (C9.out _).mono ?_
        rintro e w4 ⟨rfl, b4⟩
        refine hK _ _ b4 ?_
        exact rfl
      refine ⟨?_, ?_⟩
      · intro a W K N hK
        have e92 : a.tmps[92]?.getD undef = _ := N.dep' 33 92 (by kernel_rfl)
        have e94 : a.tmps[94]?.getD undef = _ := N.dep' 35 94 (by kernel_rfl)
        have eg : a.tmps[90]?.getD undef = .bool false := N.dep' 31 90 (by kernel_rfl)
        rw [if_pos (by rw [wanted_get (g := 31) (d := 90) rfl rfl eg]; decide)]
        clear eg
        go_simp
        refine hK _ _ (slotLe_refl _) ?_
        exact rfl
      refine ⟨?_, ?_⟩
      · intro a W K N hK
        have e90 : a.tmps[90]?.getD undef = _ := N.dep' 31 90 (by kernel_rfl)
        have e95 : a.tmps[95]?.getD undef = _ := N.dep' 36 95 (by kernel_rfl)
        rw [if_pos (wanted_no rfl)]
        go_simp
        refine hK _ _ (slotLe_refl _) ?_
        exact rfl
      exact trivial
    case fin =>
      intro W hW
      simp only [FinAll, slotPhi, List.getD_cons_zero, List.getD_cons_succ, forall_eq, Act.put, List.setIfInBounds_toArray, List.set_cons_zero, List.set_cons_succ]
      have bW := below_trans b2 (below_undrew hW)
      replace k1 := k1.below (below_undrew hW)
      replace k2 := k2.below (below_undrew hW)
      replace r1 := readP_below r1 (below_undrew hW)
      replace r2 := readP_below r2 (below_undrew hW)
      clear q0 q1 q2 q3 q4 u0 u1 u2 u3 u4
      go_wp2_with fail
      go_loopw [10] (fun i wr => ∃ k : Nat, i = .int .i64 (k : Int) ∧ k ≤ 0 ∧ Below W.heap.size W wr) (fun i _ => 0 + 1 - (intOf i).toNat)
      case atStart => exact ⟨0, rfl, by omega, Below.refl _ W⟩
      case round =>
        obtain ⟨k, rfl, hk, hb⟩ := hrel
        obtain rfl : k = 0 := by omega
        replace k1 := k1.below hb
        replace k2 := k2.below hb
        have bT := below_trans bW hb
        clear bW hb
        have p0 := k1.cell (i := 0) rfl
        have p1 := k1.cell (i := 1) rfl
        have p2 := k1.cell (i := 2) rfl
        have p3 := k1.cell (i := 3) rfl
        have p4 := k1.cell (i := 4) rfl
        go_wp2_with fail
        refine (T1.out _).mono ?_
        rintro e x0 ⟨rfl, y0⟩
        clear p0 p1 p2 p3 p4
        replace k1 := k1.below y0
        replace k2 := k2.below y0
        replace bT := below_trans bT y0
        clear y0
        have p0 := k1.cell (i := 0) rfl
        have p1 := k1.cell (i := 1) rfl
        have p2 := k1.cell (i := 2) rfl
        have p3 := k1.cell (i := 3) rfl
        have p4 := k1.cell (i := 4) rfl
        go_wp2_with fail
        refine (T2.out _).mono ?_
        rintro e x1 ⟨rfl, y1⟩
        clear p0 p1 p2 p3 p4
        replace k1 := k1.below y1
        replace k2 := k2.below y1
        replace bT := below_trans bT y1
        clear y1
        have p0 := k1.cell (i := 0) rfl
        have p1 := k1.cell (i := 1) rfl
        have p2 := k1.cell (i := 2) rfl
        have p3 := k1.cell (i := 3) rfl
        have p4 := k1.cell (i := 4) rfl
        go_wp2_with fail
        refine (T3.out _).mono ?_
        rintro e x2 ⟨rfl, y2⟩
        clear p0 p1 p2 p3 p4
        replace k1 := k1.below y2
        replace k2 := k2.below y2
        replace bT := below_trans bT y2
        clear y2
        have p0 := k1.cell (i := 0) rfl
        have p1 := k1.cell (i := 1) rfl
        have p2 := k1.cell (i := 2) rfl
        have p3 := k1.cell (i := 3) rfl
        have p4 := k1.cell (i := 4) rfl
        go_wp2_with fail
        refine (T4.out _).mono ?_
        rintro e x3 ⟨rfl, y3⟩
        clear p0 p1 p2 p3 p4
        replace k1 := k1.below y3
        replace k2 := k2.below y3
        replace bT := below_trans bT y3
        clear y3
        have p0 := k1.cell (i := 0) rfl
        have p1 := k1.cell (i := 1) rfl
        have p2 := k1.cell (i := 2) rfl
        have p3 := k1.cell (i := 3) rfl
        have p4 := k1.cell (i := 4) rfl
        go_wp2_with fail
        refine (T5.out _).mono ?_
        rintro e x4 ⟨rfl, y4⟩
        clear p0 p1 p2 p3 p4
        replace k1 := k1.below y4
        replace k2 := k2.below y4
        replace bT := below_trans bT y4
        clear y4
        have p0 := k1.cell (i := 0) rfl
        have p1 := k1.cell (i := 1) rfl
        have p2 := k1.cell (i := 2) rfl
        have p3 := k1.cell (i := 3) rfl
        have p4 := k1.cell (i := 4) rfl
        go_wp2_with fail
        refine (T6.out _).mono ?_
        rintro e x5 ⟨rfl, y5⟩
        clear p0 p1 p2 p3 p4
        replace k1 := k1.below y5
        replace k2 := k2.below y5
        replace bT := below_trans bT y5
        clear y5
        have kd := k1.below ((Below.refl _ x5).drew)
        have ko := k2.below ((Below.refl _ x5).drew)
        have q0 := kd.cell (i := 0) rfl
        have q1 := kd.cell (i := 1) rfl
        have q2 := kd.cell (i := 2) rfl
        have q3 := kd.cell (i := 3) rfl
        have q4 := kd.cell (i := 4) rfl
        have u0 := ko.cell (i := 0) rfl
        have u1 := ko.cell (i := 1) rfl
        have u2 := ko.cell (i := 2) rfl
        have u3 := ko.cell (i := 3) rfl
        have u4 := ko.cell (i := 4) rfl
        clear kd ko
        go_wp2_with fail
        refine wp_region_slots slotLe (slotPhi ((fun v _ => v = ?srsf145) :: (fun v _ => v = ?srsf146) :: (fun v _ => v = ?srsf147) :: (fun v _ => v = ?srsf148) :: (fun v _ => v = ?srsf149) :: (fun v _ => v = ?srsf150) :: (fun v _ => v = ?srsf151) :: (fun v _ => v = ?srsf152) :: (fun v _ => v = ?srsf153) :: (fun v _ => v = ?srsf154) :: (fun v _ => v = ?srsf155) :: (fun v _ => v = ?srsf156) :: (fun v _ => v = ?srsf157) :: (fun v _ => v = ?srsf158) :: (fun v _ => v = ?srsf159) :: (fun v _ => v = ?srsf160) :: (fun v _ => v = ?srsf161) :: (fun v _ => v = ?srsf162) :: (fun v _ => v = ?srsf163) :: (fun v _ => v = ?srsf164) :: (fun v _ => v = ?srsf165) :: (fun v _ => v = ?srsf166) :: (fun v _ => v = ?srsf167) :: (fun v _ => v = ?srsf168) :: (fun v _ => v = ?srsf169) :: (fun v _ => v = ?srsf170) :: (fun v _ => v = ?srsf171) :: (fun v _ => v = ?srsf172) :: (fun v _ => v = ?srsf173) :: (fun v _ => v = ?srsf174) :: (fun v _ => v = ?srsf175) :: (fun v _ => v = ?srsf176) :: (fun v _ => v = ?srsf177) :: (fun v _ => v = ?srsf178) :: (fun v _ => v = ?srsf179) :: (fun v _ => v = ?srsf180) :: (fun v _ => v = ?srsf181) :: (fun v _ => v = ?srsf182) :: (fun v _ => v = ?srsf183) :: (fun v _ => v = ?srsf184) :: (fun v W => ReadR v [(⟨n, ty, cl, tt, d⟩ : Rd.RR), ⟨n2, ty2, cl2, tt2, d2⟩] W) :: (fun v _ => v = ?srsf186) :: (fun v W => ReadR v [(⟨n2, ty2, cl2, tt2, d2⟩ : Rd.RR)] W) :: (fun v _ => v = ?srsf188) :: (fun v _ => v = ?srsf189) :: (fun v _ => v = ?srsf190) :: (fun v W => ReadR v [(⟨n, ty, cl, tt, d⟩ : Rd.RR), ⟨n2, ty2, cl2, tt2, d2⟩] W) :: (fun v _ => v = ?srsf192) :: (fun v W => ReadR v [(⟨n2, ty2, cl2, tt2, d2⟩ : Rd.RR)] W) :: (fun v _ => v = ?srsf194) :: (fun v _ => v = ?srsf195) :: (fun v _ => v = ?srsf196) :: (fun v _ => v = ?srsf197) :: (fun v _ => v = ?srsf198) :: (fun v _ => v = ?srsf199) :: (fun v _ => v = ?srsf6) :: [])) slotLe_refl slotLe_trans (slotPhi_stable ?stb) (by kernel_rfl) (by kernel_rfl) (by kernel_rfl) ?steps ?fin
        case stb =>
          refine ⟨by intro _ _ _ _ h; exact h, ?_⟩
          refine ⟨by intro _ _ _ _ h; exact h, ?_⟩
          refine ⟨by intro _ _ _ _ h; exact h, ?_⟩
          refine ⟨by intro _ _ _ _ h; exact h, ?_⟩
          refine ⟨by intro _ _ _ _ h; exact h, ?_⟩
          refine ⟨by intro _ _ _ _ h; exact h, ?_⟩
          refine ⟨by intro _ _ _ _ h; exact h, ?_⟩
          refine ⟨by intro _ _ _ _ h; exact h, ?_⟩
          refine ⟨by intro _ _ _ _ h; exact h, ?_⟩
          refine ⟨by intro _ _ _ _ h; exact h, ?_⟩
          refine ⟨by intro _ _ _ _ h; exact h, ?_⟩
          refine ⟨by intro _ _ _ _ h; exact h, ?_⟩
          refine ⟨by intro _ _ _ _ h; exact h, ?_⟩
          refine ⟨by intro _ _ _ _ h; exact h, ?_⟩
          refine ⟨by intro _ _ _ _ h; exact h, ?_⟩
          refine ⟨by intro _ _ _ _ h; exact h, ?_⟩
          refine ⟨by intro _ _ _ _ h; exact h, ?_⟩
          refine ⟨by intro _ _ _ _ h; exact h, ?_⟩
          refine ⟨by intro _ _ _ _ h; exact h, ?_⟩
          refine ⟨by intro _ _ _ _ h; exact h, ?_⟩
          refine ⟨by intro _ _ _ _ h; exact h, ?_⟩
          refine ⟨by intro _ _ _ _ h; exact h, ?_⟩
          refine ⟨by intro _ _ _ _ h; exact h, ?_⟩
          refine ⟨by intro _ _ _ _ h; exact h, ?_⟩
          refine ⟨by intro _ _ _ _ h; exact h, ?_⟩
          refine ⟨by intro _ _ _ _ h; exact h, ?_⟩
          refine ⟨by intro _ _ _ _ h; exact h, ?_⟩
          refine ⟨by intro _ _ _ _ h; exact h, ?_⟩
          refine ⟨by intro _ _ _ _ h; exact h, ?_⟩
          refine ⟨by intro _ _ _ _ h; exact h, ?_⟩
          refine ⟨by intro _ _ _ _ h; exact h, ?_⟩
          refine ⟨by intro _ _ _ _ h; exact h, ?_⟩
          refine ⟨by intro _ _ _ _ h; exact h, ?_⟩
          refine ⟨by intro _ _ _ _ h; exact h, ?_⟩
          refine ⟨by intro _ _ _ _ h; exact h, ?_⟩
          refine ⟨by intro _ _ _ _ h; exact h, ?_⟩
          refine ⟨by intro _ _ _ _ h; exact h, ?_⟩
          refine ⟨by intro _ _ _ _ h; exact h, ?_⟩
          refine ⟨by intro _ _ _ _ h; exact h, ?_⟩
          refine ⟨by intro _ _ _ _ h; exact h, ?_⟩
          refine ⟨by intro _ _ _ hh h; exact readR_below h hh, ?_⟩
          refine ⟨by intro _ _ _ _ h; exact h, ?_⟩
          refine ⟨by intro _ _ _ hh h; exact readR_below h hh, ?_⟩
          refine ⟨by intro _ _ _ _ h; exact h, ?_⟩
          refine ⟨by intro _ _ _ _ h; exact h, ?_⟩
          refine ⟨by intro _ _ _ _ h; exact h, ?_⟩
          refine ⟨by intro _ _ _ hh h; exact readR_below h hh, ?_⟩
          refine ⟨by intro _ _ _ _ h; exact h, ?_⟩
          refine ⟨by intro _ _ _ hh h; exact readR_below h hh, ?_⟩
          refine ⟨by intro _ _ _ _ h; exact h, ?_⟩
          refine ⟨by intro _ _ _ _ h; exact h, ?_⟩
          refine ⟨by intro _ _ _ _ h; exact h, ?_⟩
          refine ⟨by intro _ _ _ _ h; exact h, ?_⟩
          refine ⟨by intro _ _ _ _ h; exact h, ?_⟩
          refine ⟨by intro _ _ _ _ h; exact h, ?_⟩
          refine ⟨by intro _ _ _ _ h; exact h, ?_⟩
          exact trivial
        case steps =>
          refine ⟨?_, ?_⟩
          · intro a W K N hK
            have e11 : a.tmps[11]?.getD undef = .string ⟨S.toArray⟩ := N.was' 11 _ (by kernel_rfl) rfl
            rw [if_pos (wanted_no rfl)]
            go_simp
            refine hK _ _ (slotLe_refl _) ?_
            exact rfl
          refine ⟨?_, ?_⟩
          · intro a W K N hK
            have e13 : a.tmps[13]?.getD undef = .string ⟨S.toArray⟩ := N.was' 13 _ (by kernel_rfl) rfl
            rw [if_pos (wanted_no rfl)]
            go_simp
            refine hK _ _ (slotLe_refl _) ?_
            exact rfl
          refine ⟨?_, ?_⟩
          · intro a W K N hK
            have e145 : a.tmps[145]?.getD undef = _ := N.dep' 0 145 (by kernel_rfl)
            have e146 : a.tmps[146]?.getD undef = _ := N.dep' 1 146 (by kernel_rfl)
            rw [if_pos (wanted_no rfl)]
            go_simp
            refine hK _ _ (slotLe_refl _) ?_
            exact rfl
          refine ⟨?_, ?_⟩
          · intro a W K N hK
            have e147 : a.tmps[147]?.getD undef = _ := N.dep' 2 147 (by kernel_rfl)
            rw [if_pos (wanted_no rfl)]
            go_simp
            refine hK _ _ (slotLe_refl _) ?_
            exact rfl
          refine ⟨?_, ?_⟩
          · intro a W K N hK
            have e12 : a.tmps[12]?.getD undef = .bool B := N.was' 12 _ (by kernel_rfl) rfl
            have eg : a.tmps[148]?.getD undef = .bool true := N.dep' 3 148 (by kernel_rfl)
            rw [if_pos (by rw [wanted_get (g := 3) (d := 148) rfl rfl eg]; decide)]
            clear eg
            go_simp
            refine hK _ _ (slotLe_refl _) ?_
            exact rfl
          refine ⟨?_, ?_⟩
          · intro a W K N hK
            have e14 : a.tmps[14]?.getD undef = .bool B := N.was' 14 _ (by kernel_rfl) rfl
            have eg : a.tmps[148]?.getD undef = .bool true := N.dep' 3 148 (by kernel_rfl)
            rw [if_pos (by rw [wanted_get (g := 3) (d := 148) rfl rfl eg]; decide)]
            clear eg
            go_simp
            refine hK _ _ (slotLe_refl _) ?_
            exact rfl
          refine ⟨?_, ?_⟩
          · intro a W K N hK
            have e149 : a.tmps[149]?.getD undef = _ := N.dep' 4 149 (by kernel_rfl)
            have e150 : a.tmps[150]?.getD undef = _ := N.dep' 5 150 (by kernel_rfl)
            have eg : a.tmps[148]?.getD undef = .bool true := N.dep' 3 148 (by kernel_rfl)
            rw [if_pos (by rw [wanted_get (g := 3) (d := 148) rfl rfl eg]; decide)]
            clear eg
            go_simp
            refine hK _ _ (slotLe_refl _) ?_
            exact rfl
          refine ⟨?_, ?_⟩
          · intro a W K N hK
            have e148 : a.tmps[148]?.getD undef = _ := N.dep' 3 148 (by kernel_rfl)
            have e151 : a.tmps[151]?.getD undef = _ := N.dep' 6 151 (by kernel_rfl)
            rw [if_pos (wanted_no rfl)]
            go_simp
            refine hK _ _ (slotLe_refl _) ?_
            exact rfl
          refine ⟨?_, ?_⟩
          · intro a W K N hK
            have e152 : a.tmps[152]?.getD undef = _ := N.dep' 7 152 (by kernel_rfl)
            rw [if_pos (wanted_no rfl)]
            go_simp
            refine hK _ _ (slotLe_refl _) ?_
            exact rfl
          refine ⟨?_, ?_⟩
          · intro a W K N hK
            have e15 : a.tmps[15]?.getD undef = .int .i64 (A1 : Int) := N.was' 15 _ (by kernel_rfl) rfl
            have eg : a.tmps[153]?.getD undef = .bool true := N.dep' 8 153 (by kernel_rfl)
            rw [if_pos (by rw [wanted_get (g := 8) (d := 153) rfl rfl eg]; decide)]
            clear eg
            go_simp
            refine hK _ _ (slotLe_refl _) ?_
            exact rfl
          refine ⟨?_, ?_⟩
          · intro a W K N hK
            have e17 : a.tmps[17]?.getD undef = .int .i64 (A1 : Int) := N.was' 17 _ (by kernel_rfl) rfl
            have eg : a.tmps[153]?.getD undef = .bool true := N.dep' 8 153 (by kernel_rfl)
            rw [if_pos (by rw [wanted_get (g := 8) (d := 153) rfl rfl eg]; decide)]
            clear eg
            go_simp
            refine hK _ _ (slotLe_refl _) ?_
            exact rfl
          refine ⟨?_, ?_⟩
          · intro a W K N hK
            have e154 : a.tmps[154]?.getD undef = _ := N.dep' 9 154 (by kernel_rfl)
            have e155 : a.tmps[155]?.getD undef = _ := N.dep' 10 155 (by kernel_rfl)
            have eg : a.tmps[153]?.getD undef = .bool true := N.dep' 8 153 (by kernel_rfl)
            rw [if_pos (by rw [wanted_get (g := 8) (d := 153) rfl rfl eg]; decide)]
            clear eg
            go_simp
            refine hK _ _ (slotLe_refl _) ?_
            exact rfl
          refine ⟨?_, ?_⟩
          · intro a W K N hK
            have e153 : a.tmps[153]?.getD undef = _ := N.dep' 8 153 (by kernel_rfl)
            have e156 : a.tmps[156]?.getD undef = _ := N.dep' 11 156 (by kernel_rfl)
            rw [if_pos (wanted_no rfl)]
            go_simp
            refine hK _ _ (slotLe_refl _) ?_
            exact rfl
          refine ⟨?_, ?_⟩
          · intro a W K N hK
            have e157 : a.tmps[157]?.getD undef = _ := N.dep' 12 157 (by kernel_rfl)
            rw [if_pos (wanted_no rfl)]
            go_simp
            refine hK _ _ (slotLe_refl _) ?_
            exact rfl
          refine ⟨?_, ?_⟩
          · intro a W K N hK
            have e16 : a.tmps[16]?.getD undef = .bool B1 := N.was' 16 _ (by kernel_rfl) rfl
            have eg : a.tmps[158]?.getD undef = .bool true := N.dep' 13 158 (by kernel_rfl)
            rw [if_pos (by rw [wanted_get (g := 13) (d := 158) rfl rfl eg]; decide)]
            clear eg
            go_simp
            refine hK _ _ (slotLe_refl _) ?_
            exact rfl
          refine ⟨?_, ?_⟩
          · intro a W K N hK
            have e18 : a.tmps[18]?.getD undef = .bool B1 := N.was' 18 _ (by kernel_rfl) rfl
            have eg : a.tmps[158]?.getD undef = .bool true := N.dep' 13 158 (by kernel_rfl)
            rw [if_pos (by rw [wanted_get (g := 13) (d := 158) rfl rfl eg]; decide)]
            clear eg
            go_simp
            refine hK _ _ (slotLe_refl _) ?_
            exact rfl
          refine ⟨?_, ?_⟩
          · intro a W K N hK
            have e159 : a.tmps[159]?.getD undef = _ := N.dep' 14 159 (by kernel_rfl)
            have e160 : a.tmps[160]?.getD undef = _ := N.dep' 15 160 (by kernel_rfl)
            have eg : a.tmps[158]?.getD undef = .bool true := N.dep' 13 158 (by kernel_rfl)
            rw [if_pos (by rw [wanted_get (g := 13) (d := 158) rfl rfl eg]; decide)]
            clear eg
            go_simp
            refine hK _ _ (slotLe_refl _) ?_
            exact rfl
          refine ⟨?_, ?_⟩
          · intro a W K N hK
            have e158 : a.tmps[158]?.getD undef = _ := N.dep' 13 158 (by kernel_rfl)
            have e161 : a.tmps[161]?.getD undef = _ := N.dep' 16 161 (by kernel_rfl)
            rw [if_pos (wanted_no rfl)]
            go_simp
            refine hK _ _ (slotLe_refl _) ?_
            exact rfl
          refine ⟨?_, ?_⟩
          · intro a W K N hK
            have e162 : a.tmps[162]?.getD undef = _ := N.dep' 17 162 (by kernel_rfl)
            rw [if_pos (wanted_no rfl)]
            go_simp
            refine hK _ _ (slotLe_refl _) ?_
            exact rfl
          refine ⟨?_, ?_⟩
          · intro a W K N hK
            have e19 : a.tmps[19]?.getD undef = .int .i64 (A6 : Int) := N.was' 19 _ (by kernel_rfl) rfl
            have eg : a.tmps[163]?.getD undef = .bool true := N.dep' 18 163 (by kernel_rfl)
            rw [if_pos (by rw [wanted_get (g := 18) (d := 163) rfl rfl eg]; decide)]
            clear eg
            go_simp
            refine hK _ _ (slotLe_refl _) ?_
            exact rfl
          refine ⟨?_, ?_⟩
          · intro a W K N hK
            have e21 : a.tmps[21]?.getD undef = .int .i64 (A6 : Int) := N.was' 21 _ (by kernel_rfl) rfl
            have eg : a.tmps[163]?.getD undef = .bool true := N.dep' 18 163 (by kernel_rfl)
            rw [if_pos (by rw [wanted_get (g := 18) (d := 163) rfl rfl eg]; decide)]
            clear eg
            go_simp
            refine hK _ _ (slotLe_refl _) ?_
            exact rfl
          refine ⟨?_, ?_⟩
          · intro a W K N hK
            have e164 : a.tmps[164]?.getD undef = _ := N.dep' 19 164 (by kernel_rfl)
            have e165 : a.tmps[165]?.getD undef = _ := N.dep' 20 165 (by kernel_rfl)
            have eg : a.tmps[163]?.getD undef = .bool true := N.dep' 18 163 (by kernel_rfl)
            rw [if_pos (by rw [wanted_get (g := 18) (d := 163) rfl rfl eg]; decide)]
            clear eg
            go_simp
            refine hK _ _ (slotLe_refl _) ?_
            exact rfl
          refine ⟨?_, ?_⟩
          · intro a W K N hK
            have e163 : a.tmps[163]?.getD undef = _ := N.dep' 18 163 (by kernel_rfl)
            have e166 : a.tmps[166]?.getD undef = _ := N.dep' 21 166 (by kernel_rfl)
            rw [if_pos (wanted_no rfl)]
            go_simp
            refine hK _ _ (slotLe_refl _) ?_
            exact rfl
          refine ⟨?_, ?_⟩
          · intro a W K N hK
            have e167 : a.tmps[167]?.getD undef = _ := N.dep' 22 167 (by kernel_rfl)
            rw [if_pos (wanted_no rfl)]
            go_simp
            refine hK _ _ (slotLe_refl _) ?_
            exact rfl
          refine ⟨?_, ?_⟩
          · intro a W K N hK
            have e20 : a.tmps[20]?.getD undef = .bool B6 := N.was' 20 _ (by kernel_rfl) rfl
            have eg : a.tmps[168]?.getD undef = .bool true := N.dep' 23 168 (by kernel_rfl)
            rw [if_pos (by rw [wanted_get (g := 23) (d := 168) rfl rfl eg]; decide)]
            clear eg
            go_simp
            refine hK _ _ (slotLe_refl _) ?_
            exact rfl
          refine ⟨?_, ?_⟩
          · intro a W K N hK
            have e22 : a.tmps[22]?.getD undef = .bool B6 := N.was' 22 _ (by kernel_rfl) rfl
            have eg : a.tmps[168]?.getD undef = .bool true := N.dep' 23 168 (by kernel_rfl)
            rw [if_pos (by rw [wanted_get (g := 23) (d := 168) rfl rfl eg]; decide)]
            clear eg
            go_simp
            refine hK _ _ (slotLe_refl _) ?_
            exact rfl
          refine ⟨?_, ?_⟩
          · intro a W K N hK
            have e169 : a.tmps[169]?.getD undef = _ := N.dep' 24 169 (by kernel_rfl)
            have e170 : a.tmps[170]?.getD undef = _ := N.dep' 25 170 (by kernel_rfl)
            have eg : a.tmps[168]?.getD undef = .bool true := N.dep' 23 168 (by kernel_rfl)
            rw [if_pos (by rw [wanted_get (g := 23) (d := 168) rfl rfl eg]; decide)]
            clear eg
            go_simp
            refine hK _ _ (slotLe_refl _) ?_
            exact rfl
          refine ⟨?_, ?_⟩
          · intro a W K N hK
            have e168 : a.tmps[168]?.getD undef = _ := N.dep' 23 168 (by kernel_rfl)
            have e171 : a.tmps[171]?.getD undef = _ := N.dep' 26 171 (by kernel_rfl)
            rw [if_pos (wanted_no rfl)]
            go_simp
            refine hK _ _ (slotLe_refl _) ?_
            exact rfl
          refine ⟨?_, ?_⟩
          · intro a W K N hK
            have e172 : a.tmps[172]?.getD undef = _ := N.dep' 27 172 (by kernel_rfl)
            rw [if_pos (wanted_no rfl)]
            go_simp
            refine hK _ _ (slotLe_refl _) ?_
            exact rfl
          refine ⟨?_, ?_⟩
          · intro a W K N hK
            have e3 : a.tmps[3]?.getD undef = .pointer (some ⟨Br, 0, none⟩) := N.was' 3 _ (by kernel_rfl) rfl
            have eg : a.tmps[173]?.getD undef = .bool true := N.dep' 28 173 (by kernel_rfl)
            rw [if_pos (by rw [wanted_get (g := 28) (d := 173) rfl rfl eg]; decide)]
            clear eg
            have z0 := keep_cell N.le q0
            have z1 := keep_cell N.le q1
            have z2 := keep_cell N.le q2
            have z3 := keep_cell N.le q3
            have z4 := keep_cell N.le q4
            go_simp
            refine hK _ _ (slotLe_refl _) ?_
            exact rfl
          refine ⟨?_, ?_⟩
          · intro a W K N hK
            have e4 : a.tmps[4]?.getD undef = .pointer (some ⟨Bo, 0, none⟩) := N.was' 4 _ (by kernel_rfl) rfl
            have eg : a.tmps[173]?.getD undef = .bool true := N.dep' 28 173 (by kernel_rfl)
            rw [if_pos (by rw [wanted_get (g := 28) (d := 173) rfl rfl eg]; decide)]
            clear eg
            have z0 := keep_cell N.le u0
            have z1 := keep_cell N.le u1
            have z2 := keep_cell N.le u2
            have z3 := keep_cell N.le u3
            have z4 := keep_cell N.le u4
            go_simp
            refine hK _ _ (slotLe_refl _) ?_
            exact rfl
          refine ⟨?_, ?_⟩
          · intro a W K N hK
            have e174 : a.tmps[174]?.getD undef = _ := N.dep' 29 174 (by kernel_rfl)
            have e175 : a.tmps[175]?.getD undef = _ := N.dep' 30 175 (by kernel_rfl)
            have eg : a.tmps[173]?.getD undef = .bool true := N.dep' 28 173 (by kernel_rfl)
            rw [if_pos (by rw [wanted_get (g := 28) (d := 173) rfl rfl eg]; decide)]
            clear eg
            go_simp
            refine (S1.out _).mono ?_
            rintro e w4 ⟨rfl, b4⟩
            refine hK _ _ b4 ?_
            exact rfl
          refine ⟨?_, ?_⟩
          · intro a W K N hK
            have e3 : a.tmps[3]?.getD undef = .pointer (some ⟨Br, 0, none⟩) := N.was' 3 _ (by kernel_rfl) rfl
            have eg : a.tmps[173]?.getD undef = .bool true := N.dep' 28 173 (by kernel_rfl)
            rw [if_pos (by rw [wanted_get (g := 28) (d := 173) rfl rfl eg]; decide)]
            clear eg
            have z0 := keep_cell N.le q0
            have z1 := keep_cell N.le q1
            have z2 := keep_cell N.le q2
            have z3 := keep_cell N.le q3
            have z4 := keep_cell N.le q4
            go_simp
            refine hK _ _ (slotLe_refl _) ?_
            exact rfl
          refine ⟨?_, ?_⟩
          · intro a W K N hK
            have e4 : a.tmps[4]?.getD undef = .pointer (some ⟨Bo, 0, none⟩) := N.was' 4 _ (by kernel_rfl) rfl
            have eg : a.tmps[173]?.getD undef = .bool true := N.dep' 28 173 (by kernel_rfl)
            rw [if_pos (by rw [wanted_get (g := 28) (d := 173) rfl rfl eg]; decide)]
            clear eg
            have z0 := keep_cell N.le u0
            have z1 := keep_cell N.le u1
            have z2 := keep_cell N.le u2
            have z3 := keep_cell N.le u3
            have z4 := keep_cell N.le u4
            go_simp
            refine hK _ _ (slotLe_refl _) ?_
            exact rfl
          refine ⟨?_, ?_⟩
          · intro a W K N hK
            have e177 : a.tmps[177]?.getD undef = _ := N.dep' 32 177 (by kernel_rfl)
            have e178 : a.tmps[178]?.getD undef = _ := N.dep' 33 178 (by kernel_rfl)
            have eg : a.tmps[173]?.getD undef = .bool true := N.dep' 28 173 (by kernel_rfl)
            rw [if_pos (by rw [wanted_get (g := 28) (d := 173) rfl rfl eg]; decide)]
            clear eg
            go_simp
            refine (S2.out _).mono ?_
            rintro e w4 ⟨rfl, b4⟩
            refine hK _ _ b4 ?_
            exact rfl
          refine ⟨?_, ?_⟩
          · intro a W K N hK
            have e176 : a.tmps[176]?.getD undef = _ := N.dep' 31 176 (by kernel_rfl)
            have e179 : a.tmps[179]?.getD undef = _ := N.dep' 34 179 (by kernel_rfl)
            have eg : a.tmps[173]?.getD undef = .bool true := N.dep' 28 173 (by kernel_rfl)
            rw [if_pos (by rw [wanted_get (g := 28) (d := 173) rfl rfl eg]; decide)]
            clear eg
            go_simp
            refine hK _ _ (slotLe_refl _) ?_
            exact rfl
          refine ⟨?_, ?_⟩
          · intro a W K N hK
            have e173 : a.tmps[173]?.getD undef = _ := N.dep' 28 173 (by kernel_rfl)
            have e180 : a.tmps[180]?.getD undef = _ := N.dep' 35 180 (by kernel_rfl)
            rw [if_pos (wanted_no rfl)]
            go_simp
            refine hK _ _ (slotLe_refl _) ?_
            exact rfl
          refine ⟨?_, ?_⟩
          · intro a W K N hK
            have e181 : a.tmps[181]?.getD undef = _ := N.dep' 36 181 (by kernel_rfl)
            rw [if_pos (wanted_no rfl)]
            go_simp
            refine hK _ _ (slotLe_refl _) ?_
            exact rfl
          refine ⟨?_, ?_⟩
          · intro a W K N hK
            have e3 : a.tmps[3]?.getD undef = .pointer (some ⟨Br, 0, none⟩) := N.was' 3 _ (by kernel_rfl) rfl
            have eg : a.tmps[182]?.getD undef = .bool true := N.dep' 37 182 (by kernel_rfl)
            rw [if_pos (by rw [wanted_get (g := 37) (d := 182) rfl rfl eg]; decide)]
            clear eg
            have z0 := keep_cell N.le q0
            have z1 := keep_cell N.le q1
            have z2 := keep_cell N.le q2
            have z3 := keep_cell N.le q3
            have z4 := keep_cell N.le q4
            go_simp
            refine hK _ _ (slotLe_refl _) ?_
            exact rfl
          refine ⟨?_, ?_⟩
          · intro a W K N hK
            have e4 : a.tmps[4]?.getD undef = .pointer (some ⟨Bo, 0, none⟩) := N.was' 4 _ (by kernel_rfl) rfl
            have eg : a.tmps[182]?.getD undef = .bool true := N.dep' 37 182 (by kernel_rfl)
            rw [if_pos (by rw [wanted_get (g := 37) (d := 182) rfl rfl eg]; decide)]
            clear eg
            have z0 := keep_cell N.le u0
            have z1 := keep_cell N.le u1
            have z2 := keep_cell N.le u2
            have z3 := keep_cell N.le u3
            have z4 := keep_cell N.le u4
            go_simp
            refine hK _ _ (slotLe_refl _) ?_
            exact rfl
          refine ⟨?_, ?_⟩
          · intro a W K N hK
            have e183 : a.tmps[183]?.getD undef = _ := N.dep' 38 183 (by kernel_rfl)
            have e184 : a.tmps[184]?.getD undef = _ := N.dep' 39 184 (by kernel_rfl)
            have eg : a.tmps[182]?.getD undef = .bool true := N.dep' 37 182 (by kernel_rfl)
            rw [if_pos (by rw [wanted_get (g := 37) (d := 182) rfl rfl eg]; decide)]
            clear eg
            go_simp
            refine hK _ _ ((Below.refl _ W).alloc (Nat.le_refl _) _) ?_
            exact HR.out W
          refine ⟨?_, ?_⟩
          · intro a W K N hK
            have e4 : a.tmps[4]?.getD undef = .pointer (some ⟨Bo, 0, none⟩) := N.was' 4 _ (by kernel_rfl) rfl
            have eg : a.tmps[182]?.getD undef = .bool true := N.dep' 37 182 (by kernel_rfl)
            rw [if_pos (by rw [wanted_get (g := 37) (d := 182) rfl rfl eg]; decide)]
            clear eg
            have z0 := keep_cell N.le u0
            have z1 := keep_cell N.le u1
            have z2 := keep_cell N.le u2
            have z3 := keep_cell N.le u3
            have z4 := keep_cell N.le u4
            go_simp
            refine hK _ _ (slotLe_refl _) ?_
            exact rfl
          refine ⟨?_, ?_⟩
          · intro a W K N hK
            have e186 : a.tmps[186]?.getD undef = _ := N.dep' 41 186 (by kernel_rfl)
            have eg : a.tmps[182]?.getD undef = .bool true := N.dep' 37 182 (by kernel_rfl)
            rw [if_pos (by rw [wanted_get (g := 37) (d := 182) rfl rfl eg]; decide)]
            clear eg
            go_simp
            refine hK _ _ ((Below.refl _ W).alloc (Nat.le_refl _) _) ?_
            exact HO.out W
          refine ⟨?_, ?_⟩
          · intro a W K N hK
            have e185 := Lib.hid (show (fun v W => ReadR v [(⟨n, ty, cl, tt, d⟩ : Rd.RR), ⟨n2, ty2, cl2, tt2, d2⟩] W) (a.tmps[185]?.getD undef) W from N.dep' 40 185 (by kernel_rfl))
            have e187 := Lib.hid (show (fun v W => ReadR v [(⟨n2, ty2, cl2, tt2, d2⟩ : Rd.RR)] W) (a.tmps[187]?.getD undef) W from N.dep' 42 187 (by kernel_rfl))
            have eg : a.tmps[182]?.getD undef = .bool true := N.dep' 37 182 (by kernel_rfl)
            rw [if_pos (by rw [wanted_get (g := 37) (d := 182) rfl rfl eg]; decide)]
            clear eg
            go_simp
            refine (S3.out _ _ _ e185.out e187.out).mono ?_
            rintro e w4 ⟨rfl, b4⟩
            refine hK _ _ b4 ?_
            exact rfl
          refine ⟨?_, ?_⟩
          · intro a W K N hK
            have e3 : a.tmps[3]?.getD undef = .pointer (some ⟨Br, 0, none⟩) := N.was' 3 _ (by kernel_rfl) rfl
            have eg : a.tmps[182]?.getD undef = .bool true := N.dep' 37 182 (by kernel_rfl)
            rw [if_pos (by rw [wanted_get (g := 37) (d := 182) rfl rfl eg]; decide)]
            clear eg
            have z0 := keep_cell N.le q0
            have z1 := keep_cell N.le q1
            have z2 := keep_cell N.le q2
            have z3 := keep_cell N.le q3
            have z4 := keep_cell N.le q4
            go_simp
            refine hK _ _ (slotLe_refl _) ?_
            exact rfl
          refine ⟨?_, ?_⟩
          · intro a W K N hK
            have e4 : a.tmps[4]?.getD undef = .pointer (some ⟨Bo, 0, none⟩) := N.was' 4 _ (by kernel_rfl) rfl
            have eg : a.tmps[182]?.getD undef = .bool true := N.dep' 37 182 (by kernel_rfl)
            rw [if_pos (by rw [wanted_get (g := 37) (d := 182) rfl rfl eg]; decide)]
            clear eg
            have z0 := keep_cell N.le u0
            have z1 := keep_cell N.le u1
            have z2 := keep_cell N.le u2
            have z3 := keep_cell N.le u3
            have z4 := keep_cell N.le u4
            go_simp
            refine hK _ _ (slotLe_refl _) ?_
            exact rfl
          refine ⟨?_, ?_⟩
          · intro a W K N hK
            have e189 : a.tmps[189]?.getD undef = _ := N.dep' 44 189 (by kernel_rfl)
            have e190 : a.tmps[190]?.getD undef = _ := N.dep' 45 190 (by kernel_rfl)
            have eg : a.tmps[182]?.getD undef = .bool true := N.dep' 37 182 (by kernel_rfl)
            rw [if_pos (by rw [wanted_get (g := 37) (d := 182) rfl rfl eg]; decide)]
            clear eg
            go_simp
            refine hK _ _ ((Below.refl _ W).alloc (Nat.le_refl _) _) ?_
            exact HR.out W
          refine ⟨?_, ?_⟩
          · intro a W K N hK
            have e4 : a.tmps[4]?.getD undef = .pointer (some ⟨Bo, 0, none⟩) := N.was' 4 _ (by kernel_rfl) rfl
            have eg : a.tmps[182]?.getD undef = .bool true := N.dep' 37 182 (by kernel_rfl)
            rw [if_pos (by rw [wanted_get (g := 37) (d := 182) rfl rfl eg]; decide)]
            clear eg
            have z0 := keep_cell N.le u0
            have z1 := keep_cell N.le u1
            have z2 := keep_cell N.le u2
            have z3 := keep_cell N.le u3
            have z4 := keep_cell N.le u4
            go_simp
            refine hK _ _ (slotLe_refl _) ?_
            exact rfl
          refine ⟨?_, ?_⟩
          · intro a W K N hK
            have e192 : a.tmps[192]?.getD undef = _ := N.dep' 47 192 (by kernel_rfl)
            have eg : a.tmps[182]?.getD undef = .bool true := N.dep' 37 182 (by kernel_rfl)
            rw [if_pos (by rw [wanted_get (g := 37) (d := 182) rfl rfl eg]; decide)]
            clear eg
            go_simp
            refine hK _ _ ((Below.refl _ W).alloc (Nat.le_refl _) _) ?_
            exact HO.out W
          refine ⟨?_, ?_⟩
          · intro a W K N hK
            have e191 := Lib.hid (show (fun v W => ReadR v [(⟨n, ty, cl, tt, d⟩ : Rd.RR), ⟨n2, ty2, cl2, tt2, d2⟩] W) (a.tmps[191]?.getD undef) W from N.dep' 46 191 (by kernel_rfl))
            have e193 := Lib.hid (show (fun v W => ReadR v [(⟨n2, ty2, cl2, tt2, d2⟩ : Rd.RR)] W) (a.tmps[193]?.getD undef) W from N.dep' 48 193 (by kernel_rfl))
            have eg : a.tmps[182]?.getD undef = .bool true := N.dep' 37 182 (by kernel_rfl)
            rw [if_pos (by rw [wanted_get (g := 37) (d := 182) rfl rfl eg]; decide)]
            clear eg
            go_simp
            refine (S4.out _ _ _ e191.out e193.out).mono ?_
            rintro e w4 ⟨rfl, b4⟩
            refine hK _ _ b4 ?_
            exact rfl
          refine ⟨?_, ?_⟩
          · intro a W K N hK
            have e188 : a.tmps[188]?.getD undef = _ := N.dep' 43 188 (by kernel_rfl)
            have e194 : a.tmps[194]?.getD undef = _ := N.dep' 49 194 (by kernel_rfl)
            have eg : a.tmps[182]?.getD undef = .bool true := N.dep' 37 182 (by kernel_rfl)
            rw [if_pos (by rw [wanted_get (g := 37) (d := 182) rfl rfl eg]; decide)]
            clear eg
            go_simp
            refine hK _ _ (slotLe_refl _) ?_
            exact rfl
          refine ⟨?_, ?_⟩
          · intro a W K N hK
            have e182 : a.tmps[182]?.getD undef = _ := N.dep' 37 182 (by kernel_rfl)
            have e195 : a.tmps[195]?.getD undef = _ := N.dep' 50 195 (by kernel_rfl)
            rw [if_pos (wanted_no rfl)]
            go_simp
            refine hK _ _ (slotLe_refl _) ?_
            exact rfl
          refine ⟨?_, ?_⟩
          · intro a W K N hK
            have e196 : a.tmps[196]?.getD undef = _ := N.dep' 51 196 (by kernel_rfl)
            rw [if_pos (wanted_no rfl)]
            go_simp
            refine hK _ _ (slotLe_refl _) ?_
            exact rfl
          refine ⟨?_, ?_⟩
          · intro a W K N hK
            have eg : a.tmps[197]?.getD undef = .bool true := N.dep' 52 197 (by kernel_rfl)
            rw [if_pos (by rw [wanted_get (g := 52) (d := 197) rfl rfl eg]; decide)]
            clear eg
            go_simp
            refine (awake_any _ (hv.below (below_trans bT (below_undrew N.le)))).mono ?_
            rintro e w4 ⟨rfl, b4⟩
            refine hK _ _ b4 ?_
            exact rfl
          refine ⟨?_, ?_⟩
          · intro a W K N hK
            have e197 : a.tmps[197]?.getD undef = _ := N.dep' 52 197 (by kernel_rfl)
            have e198 : a.tmps[198]?.getD undef = _ := N.dep' 53 198 (by kernel_rfl)
            rw [if_pos (wanted_no rfl)]
            go_simp
            refine hK _ _ (slotLe_refl _) ?_
            exact rfl
          refine ⟨?_, ?_⟩
          · intro a W K N hK
            have e199 : a.tmps[199]?.getD undef = _ := N.dep' 54 199 (by kernel_rfl)
            rw [if_pos (wanted_no rfl)]
            go_simp
            refine hK _ _ (slotLe_refl _) ?_
            exact rfl
          exact trivial
        case fin =>
          intro W hW
          simp only [FinAll, slotPhi, List.getD_cons_zero, List.getD_cons_succ, forall_eq, Act.put, List.setIfInBounds_toArray, List.set_cons_zero, List.set_cons_succ]
          repeat (intro _ _)
          have bW := below_trans bT (below_undrew hW)
          go_wp2
          go_ret
          exact ⟨rfl, bW⟩
  · clear hpn
    go_wp2_with fail
    refine wp_region_slots slotLe (slotPhi ((fun v _ => v = ?st59) :: (fun v _ => v = ?st60) :: (fun v _ => v = ?st61) :: (fun v _ => v = ?st62) :: (fun v _ => v = ?st63) :: (fun v _ => v = ?st64) :: (fun v _ => v = ?st65) :: (fun v _ => v = ?st66) :: (fun v _ => v = ?st67) :: (fun v _ => v = ?st68) :: (fun v _ => v = ?st69) :: (fun v _ => v = ?st70) :: (fun v _ => v = ?st71) :: (fun v _ => v = ?st72) :: (fun v _ => v = ?st73) :: (fun v _ => v = ?st74) :: (fun v _ => v = ?st75) :: (fun v _ => v = ?st76) :: (fun v _ => v = ?st77) :: (fun v _ => v = ?st78) :: (fun v _ => v = ?st79) :: (fun v _ => v = ?st80) :: (fun v _ => v = ?st81) :: (fun v _ => v = ?st82) :: (fun v _ => v = ?st83) :: (fun v _ => v = ?st84) :: (fun v _ => v = ?st85) :: (fun v _ => v = ?st86) :: (fun v _ => v = ?st87) :: (fun v _ => v = ?st88) :: (fun v _ => v = ?st89) :: (fun v _ => v = ?st90) :: (fun v _ => v = ?st91) :: (fun v _ => v = ?st92) :: (fun v _ => v = ?st93) :: (fun v _ => v = ?st94) :: (fun v _ => v = ?st95) :: (fun v _ => v = ?st96) :: [])) slotLe_refl slotLe_trans (slotPhi_stable ?stb) (by kernel_rfl) (by kernel_rfl) (by kernel_rfl) ?steps ?fin
    case stb =>
      refine ⟨by intro _ _ _ _ h; exact h, ?_⟩
      refine ⟨by intro _ _ _ _ h; exact h, ?_⟩
      refine ⟨by intro _ _ _ _ h; exact h, ?_⟩
      refine ⟨by intro _ _ _ _ h; exact h, ?_⟩
      refine ⟨by intro _ _ _ _ h; exact h, ?_⟩
      refine ⟨by intro _ _ _ _ h; exact h, ?_⟩
      refine ⟨by intro _ _ _ _ h; exact h, ?_⟩
      refine ⟨by intro _ _ _ _ h; exact h, ?_⟩
      refine ⟨by intro _ _ _ _ h; exact h, ?_⟩
      refine ⟨by intro _ _ _ _ h; exact h, ?_⟩
      refine ⟨by intro _ _ _ _ h; exact h, ?_⟩
      refine ⟨by intro _ _ _ _ h; exact h, ?_⟩
      refine ⟨by intro _ _ _ _ h; exact h, ?_⟩
      refine ⟨by intro _ _ _ _ h; exact h, ?_⟩
      refine ⟨by intro _ _ _ _ h; exact h, ?_⟩
      refine ⟨by intro _ _ _ _ h; exact h, ?_⟩
      refine ⟨by intro _ _ _ _ h; exact h, ?_⟩
      refine ⟨by intro _ _ _ _ h; exact h, ?_⟩
      refine ⟨by intro _ _ _ _ h; exact h, ?_⟩
      refine ⟨by intro _ _ _ _ h; exact h, ?_⟩
      refine ⟨by intro _ _ _ _ h; exact h, ?_⟩
      refine ⟨by intro _ _ _ _ h; exact h, ?_⟩
      refine ⟨by intro _ _ _ _ h; exact h, ?_⟩
      refine ⟨by intro _ _ _ _ h; exact h, ?_⟩
      refine ⟨by intro _ _ _ _ h; exact h, ?_⟩
      refine ⟨by intro _ _ _ _ h; exact h, ?_⟩
      refine ⟨by intro _ _ _ _ h; exact h, ?_⟩
      refine ⟨by intro _ _ _ _ h; exact h, ?_⟩
      refine ⟨by intro _ _ _ _ h; exact h, ?_⟩
      refine ⟨by intro _ _ _ _ h; exact h, ?_⟩
      refine ⟨by intro _ _ _ _ h; exact h, ?_⟩
      refine ⟨by intro _ _ _ _ h; exact h, ?_⟩
      refine ⟨by intro _ _ _ _ h; exact h, ?_⟩
      refine ⟨by intro _ _ _ _ h; exact h, ?_⟩
      refine ⟨by intro _ _ _ _ h; exact h, ?_⟩
      refine ⟨by intro _ _ _ _ h; exact h, ?_⟩
      refine ⟨by intro _ _ _ _ h; exact h, ?_⟩
      refine ⟨by intro _ _ _ _ h; exact h, ?_⟩
      exact trivial
    case steps =>
      refine ⟨?_, ?_⟩
      · intro a W K N hK
        have e3 : a.tmps[3]?.getD undef = .pointer (some ⟨Br, 0, none⟩) := N.was' 3 _ (by kernel_rfl) rfl
        rw [if_pos (wanted_no rfl)]
        go_simp
        refine hK _ _ (slotLe_refl _) ?_
        exact rfl
      refine ⟨?_, ?_⟩
      · intro a W K N hK
        have e59 : a.tmps[59]?.getD undef = _ := N.dep' 0 59 (by kernel_rfl)
        rw [if_pos (wanted_no rfl)]
        have z1 := keep_cell N.le q1
        go_simp
        refine hK _ _ (slotLe_refl _) ?_
        exact rfl
      refine ⟨?_, ?_⟩
      · intro a W K N hK
        have e3 : a.tmps[3]?.getD undef = .pointer (some ⟨Br, 0, none⟩) := N.was' 3 _ (by kernel_rfl) rfl
        rw [if_pos (wanted_no rfl)]
        go_simp
        refine hK _ _ (slotLe_refl _) ?_
        exact rfl
      refine ⟨?_, ?_⟩
      · intro a W K N hK
        have e61 : a.tmps[61]?.getD undef = _ := N.dep' 2 61 (by kernel_rfl)
        rw [if_pos (wanted_no rfl)]
        have z4 := keep_cell N.le q4
        go_simp
        refine hK _ _ (slotLe_refl _) ?_
        exact rfl
      refine ⟨?_, ?_⟩
      · intro a W K N hK
        have e60 : a.tmps[60]?.getD undef = _ := N.dep' 1 60 (by kernel_rfl)
        have e62 : a.tmps[62]?.getD undef = _ := N.dep' 3 62 (by kernel_rfl)
        rw [if_pos (wanted_no rfl)]
        go_simp
        refine (C3.out _).mono ?_
        rintro e w4 ⟨rfl, b4⟩
        refine hK _ _ b4 ?_
        exact rfl
      refine ⟨?_, ?_⟩
      · intro a W K N hK
        have e8 : a.tmps[8]?.getD undef = .bool true := N.was' 8 _ (by kernel_rfl) rfl
        rw [if_pos (wanted_no rfl)]
        go_simp
        refine hK _ _ (slotLe_refl _) ?_
        exact rfl
      refine ⟨?_, ?_⟩
      · intro a W K N hK
        have e63 : a.tmps[63]?.getD undef = _ := N.dep' 4 63 (by kernel_rfl)
        have e64 : a.tmps[64]?.getD undef = _ := N.dep' 5 64 (by kernel_rfl)
        rw [if_pos (wanted_no rfl)]
        go_simp
        refine hK _ _ (slotLe_refl _) ?_
        exact rfl
      refine ⟨?_, ?_⟩
      · intro a W K N hK
        have e65 : a.tmps[65]?.getD undef = _ := N.dep' 6 65 (by kernel_rfl)
        rw [if_pos (wanted_no rfl)]
        go_simp
        refine hK _ _ (slotLe_refl _) ?_
        exact rfl
      refine ⟨?_, ?_⟩
      · intro a W K N hK
        have e8 : a.tmps[8]?.getD undef = .bool true := N.was' 8 _ (by kernel_rfl) rfl
        have eg : a.tmps[66]?.getD undef = .bool false := N.dep' 7 66 (by kernel_rfl)
        rw [if_pos (by rw [wanted_get (g := 7) (d := 66) rfl rfl eg]; decide)]
        clear eg
        go_simp
        refine hK _ _ (slotLe_refl _) ?_
        exact rfl
      refine ⟨?_, ?_⟩
      · intro a W K N hK
        have e67 : a.tmps[67]?.getD undef = _ := N.dep' 8 67 (by kernel_rfl)
        have eg : a.tmps[66]?.getD undef = .bool false := N.dep' 7 66 (by kernel_rfl)
        rw [if_pos (by rw [wanted_get (g := 7) (d := 66) rfl rfl eg]; decide)]
        clear eg
        go_simp
        refine hK _ _ (slotLe_refl _) ?_
        exact rfl
      refine ⟨?_, ?_⟩
      · intro a W K N hK
        have e7 : a.tmps[7]?.getD undef = .slice ao1 ps.length cap1 := N.was' 7 _ (by kernel_rfl) rfl
        have eg : a.tmps[68]?.getD undef = .bool true := N.dep' 9 68 (by kernel_rfl)
        rw [if_pos (by rw [wanted_get (g := 9) (d := 68) rfl rfl eg]; decide)]
        clear eg
        go_simp
        refine hK _ _ (slotLe_refl _) ?_
        exact rfl
      refine ⟨?_, ?_⟩
      · intro a W K N hK
        have e69 : a.tmps[69]?.getD undef = _ := N.dep' 10 69 (by kernel_rfl)
        have eg : a.tmps[68]?.getD undef = .bool true := N.dep' 9 68 (by kernel_rfl)
        rw [if_pos (by rw [wanted_get (g := 9) (d := 68) rfl rfl eg]; decide)]
        clear eg
        go_simp
        refine hK _ _ (slotLe_refl _) ?_
        exact rfl
      refine ⟨?_, ?_⟩
      · intro a W K N hK
        have e9 : a.tmps[9]?.getD undef = .slice ao2 ps.length cap2 := N.was' 9 _ (by kernel_rfl) rfl
        have eg : a.tmps[68]?.getD undef = .bool true := N.dep' 9 68 (by kernel_rfl)
        rw [if_pos (by rw [wanted_get (g := 9) (d := 68) rfl rfl eg]; decide)]
        clear eg
        go_simp
        refine hK _ _ (slotLe_refl _) ?_
        exact rfl
      refine ⟨?_, ?_⟩
      · intro a W K N hK
        have e71 : a.tmps[71]?.getD undef = _ := N.dep' 12 71 (by kernel_rfl)
        have eg : a.tmps[68]?.getD undef = .bool true := N.dep' 9 68 (by kernel_rfl)
        rw [if_pos (by rw [wanted_get (g := 9) (d := 68) rfl rfl eg]; decide)]
        clear eg
        go_simp
        refine hK _ _ (slotLe_refl _) ?_
        exact rfl
      refine ⟨?_, ?_⟩
      · intro a W K N hK
        have e70 : a.tmps[70]?.getD undef = _ := N.dep' 11 70 (by kernel_rfl)
        have e72 : a.tmps[72]?.getD undef = _ := N.dep' 13 72 (by kernel_rfl)
        have eg : a.tmps[68]?.getD undef = .bool true := N.dep' 9 68 (by kernel_rfl)
        rw [if_pos (by rw [wanted_get (g := 9) (d := 68) rfl rfl eg]; decide)]
        clear eg
        go_simp
        refine hK _ _ (slotLe_refl _) ?_
        exact rfl
      refine ⟨?_, ?_⟩
      · intro a W K N hK
        have e68 : a.tmps[68]?.getD undef = _ := N.dep' 9 68 (by kernel_rfl)
        have e73 : a.tmps[73]?.getD undef = _ := N.dep' 14 73 (by kernel_rfl)
        have eg : a.tmps[66]?.getD undef = .bool false := N.dep' 7 66 (by kernel_rfl)
        rw [if_pos (by rw [wanted_get (g := 7) (d := 66) rfl rfl eg]; decide)]
        clear eg
        go_simp
        refine hK _ _ (slotLe_refl _) ?_
        exact rfl
      refine ⟨?_, ?_⟩
      · intro a W K N hK
        have e66 : a.tmps[66]?.getD undef = _ := N.dep' 7 66 (by kernel_rfl)
        have e74 : a.tmps[74]?.getD undef = _ := N.dep' 15 74 (by kernel_rfl)
        rw [if_pos (wanted_no rfl)]
        go_simp
        refine hK _ _ (slotLe_refl _) ?_
        exact rfl
      refine ⟨?_, ?_⟩
      · intro a W K N hK
        have e75 : a.tmps[75]?.getD undef = _ := N.dep' 16 75 (by kernel_rfl)
        rw [if_pos (wanted_no rfl)]
        go_simp
        refine hK _ _ (slotLe_refl _) ?_
        exact rfl
      refine ⟨?_, ?_⟩
      · intro a W K N hK
        have e3 : a.tmps[3]?.getD undef = .pointer (some ⟨Br, 0, none⟩) := N.was' 3 _ (by kernel_rfl) rfl
        have eg : a.tmps[76]?.getD undef = .bool false := N.dep' 17 76 (by kernel_rfl)
        rw [if_pos (by rw [wanted_get (g := 17) (d := 76) rfl rfl eg]; decide)]
        clear eg
        have z0 := keep_cell N.le q0
        have z1 := keep_cell N.le q1
        have z2 := keep_cell N.le q2
        have z3 := keep_cell N.le q3
        have z4 := keep_cell N.le q4
        go_simp
        refine hK _ _ (slotLe_refl _) ?_
        exact rfl
      refine ⟨?_, ?_⟩
      · intro a W K N hK
        have e77 : a.tmps[77]?.getD undef = _ := N.dep' 18 77 (by kernel_rfl)
        have eg : a.tmps[76]?.getD undef = .bool false := N.dep' 17 76 (by kernel_rfl)
        rw [if_pos (by rw [wanted_get (g := 17) (d := 76) rfl rfl eg]; decide)]
        clear eg
        go_simp
        refine (C4.out _).mono ?_
        rintro e w4 ⟨rfl, b4⟩
        refine hK _ _ b4 ?_
        exact rfl
      refine ⟨?_, ?_⟩
      · intro a W K N hK
        have e3 : a.tmps[3]?.getD undef = .pointer (some ⟨Br, 0, none⟩) := N.was' 3 _ (by kernel_rfl) rfl
        have eg : a.tmps[76]?.getD undef = .bool false := N.dep' 17 76 (by kernel_rfl)
        rw [if_pos (by rw [wanted_get (g := 17) (d := 76) rfl rfl eg]; decide)]
        clear eg
        have z0 := keep_cell N.le q0
        have z1 := keep_cell N.le q1
        have z2 := keep_cell N.le q2
        have z3 := keep_cell N.le q3
        have z4 := keep_cell N.le q4
        go_simp
        refine hK _ _ (slotLe_refl _) ?_
        exact rfl
      refine ⟨?_, ?_⟩
      · intro a W K N hK
        have e79 : a.tmps[79]?.getD undef = _ := N.dep' 20 79 (by kernel_rfl)
        have eg : a.tmps[76]?.getD undef = .bool false := N.dep' 17 76 (by kernel_rfl)
        rw [if_pos (by rw [wanted_get (g := 17) (d := 76) rfl rfl eg]; decide)]
        clear eg
        go_simp
        refine (C5.out _).mono ?_
        rintro e w4 ⟨rfl, b4⟩
        refine hK _ _ b4 ?_
        exact rfl
      refine ⟨?_, ?_⟩
      · intro a W K N hK
        have e78 : a.tmps[78]?.getD undef = _ := N.dep' 19 78 (by kernel_rfl)
        have e80 : a.tmps[80]?.getD undef = _ := N.dep' 21 80 (by kernel_rfl)
        have eg : a.tmps[76]?.getD undef = .bool false := N.dep' 17 76 (by kernel_rfl)
        rw [if_pos (by rw [wanted_get (g := 17) (d := 76) rfl rfl eg]; decide)]
        clear eg
        go_simp
        refine hK _ _ (slotLe_refl _) ?_
        exact rfl
      refine ⟨?_, ?_⟩
      · intro a W K N hK
        have e76 : a.tmps[76]?.getD undef = _ := N.dep' 17 76 (by kernel_rfl)
        have e81 : a.tmps[81]?.getD undef = _ := N.dep' 22 81 (by kernel_rfl)
        rw [if_pos (wanted_no rfl)]
        go_simp
        refine hK _ _ (slotLe_refl _) ?_
        exact rfl
      refine ⟨?_, ?_⟩
      · intro a W K N hK
        have e82 : a.tmps[82]?.getD undef = _ := N.dep' 23 82 (by kernel_rfl)
        rw [if_pos (wanted_no rfl)]
        go_simp
        refine hK _ _ (slotLe_refl _) ?_
        exact rfl
      refine ⟨?_, ?_⟩
      · intro a W K N hK
        have e2 : a.tmps[2]?.getD undef = .int .i64 t := N.was' 2 _ (by kernel_rfl) rfl
        have eg : a.tmps[83]?.getD undef = .bool false := N.dep' 24 83 (by kernel_rfl)
        rw [if_pos (by rw [wanted_get (g := 24) (d := 83) rfl rfl eg]; decide)]
        clear eg
        go_simp
        refine hK _ _ (slotLe_refl _) ?_
        exact rfl
      refine ⟨?_, ?_⟩
      · intro a W K N hK
        have e84 : a.tmps[84]?.getD undef = _ := N.dep' 25 84 (by kernel_rfl)
        have eg : a.tmps[83]?.getD undef = .bool false := N.dep' 24 83 (by kernel_rfl)
        rw [if_pos (by rw [wanted_get (g := 24) (d := 83) rfl rfl eg]; decide)]
        clear eg
        go_simp
        refine (C6.out _).mono ?_
        rintro e w4 ⟨rfl, rfl⟩
        refine hK _ _ (slotLe_refl _) ?_
        exact rfl
      refine ⟨?_, ?_⟩
      · intro a W K N hK
        have e2 : a.tmps[2]?.getD undef = .int .i64 t := N.was' 2 _ (by kernel_rfl) rfl
        have eg : a.tmps[83]?.getD undef = .bool false := N.dep' 24 83 (by kernel_rfl)
        rw [if_pos (by rw [wanted_get (g := 24) (d := 83) rfl rfl eg]; decide)]
        clear eg
        go_simp
        refine hK _ _ (slotLe_refl _) ?_
        exact rfl
      refine ⟨?_, ?_⟩
      · intro a W K N hK
        have e86 : a.tmps[86]?.getD undef = _ := N.dep' 27 86 (by kernel_rfl)
        have eg : a.tmps[83]?.getD undef = .bool false := N.dep' 24 83 (by kernel_rfl)
        rw [if_pos (by rw [wanted_get (g := 24) (d := 83) rfl rfl eg]; decide)]
        clear eg
        go_simp
        refine (C7.out _).mono ?_
        rintro e w4 ⟨rfl, b4⟩
        refine hK _ _ b4 ?_
        exact rfl
      refine ⟨?_, ?_⟩
      · intro a W K N hK
        have e85 : a.tmps[85]?.getD undef = _ := N.dep' 26 85 (by kernel_rfl)
        have e87 : a.tmps[87]?.getD undef = _ := N.dep' 28 87 (by kernel_rfl)
        have eg : a.tmps[83]?.getD undef = .bool false := N.dep' 24 83 (by kernel_rfl)
        rw [if_pos (by rw [wanted_get (g := 24) (d := 83) rfl rfl eg]; decide)]
        clear eg
        go_simp
        refine hK _ _ (slotLe_refl _) ?_
        exact rfl
      refine ⟨?_, ?_⟩
      · intro a W K N hK
        have e83 : a.tmps[83]?.getD undef = _ := N.dep' 24 83 (by kernel_rfl)
        have e88 : a.tmps[88]?.getD undef = _ := N.dep' 29 88 (by kernel_rfl)
        rw [if_pos (wanted_no rfl)]
        go_simp
        refine hK _ _ (slotLe_refl _) ?_
        exact rfl
      refine ⟨?_, ?_⟩
      · intro a W K N hK
        have e89 : a.tmps[89]?.getD undef = _ := N.dep' 30 89 (by kernel_rfl)
        rw [if_pos (wanted_no rfl)]
        go_simp
        refine hK _ _ (slotLe_refl _) ?_
        exact rfl
      refine ⟨?_, ?_⟩
      · intro a W K N hK
        have e2 : a.tmps[2]?.getD undef = .int .i64 t := N.was' 2 _ (by kernel_rfl) rfl
        have eg : a.tmps[90]?.getD undef = .bool false := N.dep' 31 90 (by kernel_rfl)
        rw [if_pos (by rw [wanted_get (g := 31) (d := 90) rfl rfl eg]; decide)]
        clear eg
        go_simp
        refine hK _ _ (slotLe_refl _) ?_
        exact rfl
      refine ⟨?_, ?_⟩
      · intro a W K N hK
        have e91 : a.tmps[91]?.getD undef = _ := N.dep' 32 91 (by kernel_rfl)
        have eg : a.tmps[90]?.getD undef = .bool false := N.dep' 31 90 (by kernel_rfl)
        rw [if_pos (by rw [wanted_get (g := 31) (d := 90) rfl rfl eg]; decide)]
        clear eg
        go_simp
        refine (C8.out _ (hv.below (below_trans b2 (below_undrew N.le)))).mono ?_
        rintro e w4 ⟨rfl, b4⟩
        refine hK _ _ b4 ?_
        exact rfl
      refine ⟨?_, ?_⟩
      · intro a W K N hK
        have e2 : a.tmps[2]?.getD undef = .int .i64 t := N.was' 2 _ (by kernel_rfl) rfl
        have eg : a.tmps[90]?.getD undef = .bool false := N.dep' 31 90 (by kernel_rfl)
        rw [if_pos (by rw [wanted_get (g := 31) (d := 90) rfl rfl eg]; decide)]
        clear eg
        go_simp
        refine hK _ _ (slotLe_refl _) ?_
        exact rfl
      refine ⟨?_, ?_⟩
      · intro a W K N hK
        have e93 : a.tmps[93]?.getD undef = _ := N.dep' 34 93 (by kernel_rfl)
        have eg : a.tmps[90]?.getD undef = .bool false := N.dep' 31 90 (by kernel_rfl)
        rw [if_pos (by rw [wanted_get (g := 31) (d := 90) rfl rfl eg]; decide)]
        clear eg
        go_simp
        refine (C9.out _).mono ?_
        rintro e w4 ⟨rfl, b4⟩
        refine hK _ _ b4 ?_
        exact rfl
      refine ⟨?_, ?_⟩
      · intro a W K N hK
        have e92 : a.tmps[92]?.getD undef = _ := N.dep' 33 92 (by kernel_rfl)
        have e94 : a.tmps[94]?.getD undef = _ := N.dep' 35 94 (by kernel_rfl)
        have eg : a.tmps[90]?.getD undef = .bool false := N.dep' 31 90 (by kernel_rfl)
        rw [if_pos (by rw [wanted_get (g := 31) (d := 90) rfl rfl eg]; decide)]
        clear eg
        go_simp
        refine hK _ _ (slotLe_refl _) ?_
        exact rfl
      refine ⟨?_, ?_⟩
      · intro a W K N hK
        have e90 : a.tmps[90]?.getD undef = _ := N.dep' 31 90 (by kernel_rfl)
        have e95 : a.tmps[95]?.getD undef = _ := N.dep' 36 95 (by kernel_rfl)
        rw [if_pos (wanted_no rfl)]
        go_simp
        refine hK _ _ (slotLe_refl _) ?_
        exact rfl
      exact trivial
    case fin =>
      intro W hW
      simp only [FinAll, slotPhi, List.getD_cons_zero, List.getD_cons_succ, forall_eq, Act.put, List.setIfInBounds_toArray, List.set_cons_zero, List.set_cons_succ]
      have bW := below_trans b2 (below_undrew hW)
      replace k1 := k1.below (below_undrew hW)
      replace k2 := k2.below (below_undrew hW)
      replace r1 := readP_below r1 (below_undrew hW)
      replace r2 := readP_below r2 (below_undrew hW)
      clear q0 q1 q2 q3 q4 u0 u1 u2 u3 u4
      go_wp2_with fail
      go_loopw [10] (fun i wr => ∃ k : Nat, i = .int .i64 (k : Int) ∧ k ≤ ps.length ∧ Below W.heap.size W wr) (fun i _ => ps.length + 1 - (intOf i).toNat)
      case atStart => exact ⟨0, rfl, by omega, Below.refl _ W⟩
      case round =>
        obtain ⟨k, rfl, hk, hb⟩ := hrel
        by_cases hlt : k < ps.length
        · obtain ⟨g1, f1, rfl, x0, x1⟩ := readP_at (readP_below r1 hb) hlt
          obtain ⟨g2, f2, rfl, y0, y1⟩ := readP_at (readP_below r2 hb) hlt
          obtain ⟨⟨pa, pb⟩, hpq⟩ : ∃ x, ps[k] = x := ⟨_, rfl⟩
          rw [hpq] at x0 x1 y0 y1
          simp only at x0 x1 y0 y1
          clear hpq
          replace x0 := keep_cell ((Below.refl _ wr).drew) x0
          replace x1 := keep_cell ((Below.refl _ wr).drew) x1
          replace y0 := keep_cell ((Below.refl _ wr).drew) y0
          replace y1 := keep_cell ((Below.refl _ wr).drew) y1
          go_wp2_with fail
          refine wp_region_slots slotLe (slotPhi ((fun v _ => v = ?sl106) :: (fun v _ => v = ?sl107) :: (fun v _ => v = ?sl108) :: (fun v _ => v = ?sl109) :: (fun v _ => v = ?sl110) :: (fun v _ => v = ?sl111) :: (fun v _ => v = ?sl112) :: (fun v _ => v = ?sl113) :: (fun v _ => v = ?sl114) :: [])) slotLe_refl slotLe_trans (slotPhi_stable ?stb) (by kernel_rfl) (by kernel_rfl) (by kernel_rfl) ?steps ?fin
          case stb =>
            refine ⟨by intro _ _ _ _ h; exact h, ?_⟩
            refine ⟨by intro _ _ _ _ h; exact h, ?_⟩
            refine ⟨by intro _ _ _ _ h; exact h, ?_⟩
            refine ⟨by intro _ _ _ _ h; exact h, ?_⟩
            refine ⟨by intro _ _ _ _ h; exact h, ?_⟩
            refine ⟨by intro _ _ _ _ h; exact h, ?_⟩
            refine ⟨by intro _ _ _ _ h; exact h, ?_⟩
            refine ⟨by intro _ _ _ _ h; exact h, ?_⟩
            refine ⟨by intro _ _ _ _ h; exact h, ?_⟩
            exact trivial
          case steps =>
            refine ⟨?_, ?_⟩
            · intro a W K N hK
              have e7 : a.tmps[7]?.getD undef = .slice (some ⟨g1, f1, none⟩) ps.length cap1 := N.was' 7 _ (by kernel_rfl) rfl
              rw [if_pos (wanted_no rfl)]
              go_simp
              refine hK _ _ (slotLe_refl _) ?_
              exact rfl
            refine ⟨?_, ?_⟩
            · intro a W K N hK
              have e10 : a.tmps[10]?.getD undef = .int .i64 (k : Int) := N.was' 10 _ (by kernel_rfl) rfl
              rw [if_pos (wanted_no rfl)]
              go_simp
              refine hK _ _ (slotLe_refl _) ?_
              exact rfl
            refine ⟨?_, ?_⟩
            · intro a W K N hK
              have e106 : a.tmps[106]?.getD undef = _ := N.dep' 0 106 (by kernel_rfl)
              have e107 : a.tmps[107]?.getD undef = _ := N.dep' 1 107 (by kernel_rfl)
              rw [if_pos (wanted_no rfl)]
              go_simp
              refine hK _ _ (slotLe_refl _) ?_
              exact rfl
            refine ⟨?_, ?_⟩
            · intro a W K N hK
              have e108 : a.tmps[108]?.getD undef = _ := N.dep' 2 108 (by kernel_rfl)
              rw [if_pos (wanted_no rfl)]
              have z0 := keep_cell N.le x0
              have z1 := keep_cell N.le x1
              go_simp
              refine hK _ _ (slotLe_refl _) ?_
              exact rfl
            refine ⟨?_, ?_⟩
            · intro a W K N hK
              have e9 : a.tmps[9]?.getD undef = .slice (some ⟨g2, f2, none⟩) ps.length cap2 := N.was' 9 _ (by kernel_rfl) rfl
              rw [if_pos (wanted_no rfl)]
              go_simp
              refine hK _ _ (slotLe_refl _) ?_
              exact rfl
            refine ⟨?_, ?_⟩
            · intro a W K N hK
              have e10 : a.tmps[10]?.getD undef = .int .i64 (k : Int) := N.was' 10 _ (by kernel_rfl) rfl
              rw [if_pos (wanted_no rfl)]
              go_simp
              refine hK _ _ (slotLe_refl _) ?_
              exact rfl
            refine ⟨?_, ?_⟩
            · intro a W K N hK
              have e110 : a.tmps[110]?.getD undef = _ := N.dep' 4 110 (by kernel_rfl)
              have e111 : a.tmps[111]?.getD undef = _ := N.dep' 5 111 (by kernel_rfl)
              rw [if_pos (wanted_no rfl)]
              go_simp
              refine hK _ _ (slotLe_refl _) ?_
              exact rfl
            refine ⟨?_, ?_⟩
            · intro a W K N hK
              have e112 : a.tmps[112]?.getD undef = _ := N.dep' 6 112 (by kernel_rfl)
              rw [if_pos (wanted_no rfl)]
              have z0 := keep_cell N.le y0
              have z1 := keep_cell N.le y1
              go_simp
              refine hK _ _ (slotLe_refl _) ?_
              exact rfl
            refine ⟨?_, ?_⟩
            · intro a W K N hK
              have e109 : a.tmps[109]?.getD undef = _ := N.dep' 3 109 (by kernel_rfl)
              have e113 : a.tmps[113]?.getD undef = _ := N.dep' 7 113 (by kernel_rfl)
              rw [if_pos (wanted_no rfl)]
              have hn := HNEQ.out
              go_simp
              refine hK _ _ (slotLe_refl _) ?_
              exact rfl
            exact trivial
          case fin =>
            intro W1 hW1
            simp only [FinAll, slotPhi, List.getD_cons_zero, List.getD_cons_succ, forall_eq, Act.put, List.setIfInBounds_toArray, List.set_cons_zero, List.set_cons_succ]
            have bW1 := below_trans hb (below_undrew hW1)
            go_wp2_with fail
            go_roundw
            case rel => exact ⟨k + 1, by go_num, by omega, bW1⟩
            case measure => simp [intOf]; omega
        · obtain rfl : k = ps.length := by omega
          replace k1 := k1.below hb
          replace k2 := k2.below hb
          have bT := below_trans bW hb
          clear bW hb
          have p0 := k1.cell (i := 0) rfl
          have p1 := k1.cell (i := 1) rfl
          have p2 := k1.cell (i := 2) rfl
          have p3 := k1.cell (i := 3) rfl
          have p4 := k1.cell (i := 4) rfl
          go_wp2_with fail
          refine (T1.out _).mono ?_
          rintro e x0 ⟨rfl, y0⟩
          clear p0 p1 p2 p3 p4
          replace k1 := k1.below y0
          replace k2 := k2.below y0
          replace bT := below_trans bT y0
          clear y0
          have p0 := k1.cell (i := 0) rfl
          have p1 := k1.cell (i := 1) rfl
          have p2 := k1.cell (i := 2) rfl
          have p3 := k1.cell (i := 3) rfl
          have p4 := k1.cell (i := 4) rfl
          go_wp2_with fail
          refine (T2.out _).mono ?_
          rintro e x1 ⟨rfl, y1⟩
          clear p0 p1 p2 p3 p4
          replace k1 := k1.below y1
          replace k2 := k2.below y1
          replace bT := below_trans bT y1
          clear y1
          have p0 := k1.cell (i := 0) rfl
          have p1 := k1.cell (i := 1) rfl
          have p2 := k1.cell (i := 2) rfl
          have p3 := k1.cell (i := 3) rfl
          have p4 := k1.cell (i := 4) rfl
          go_wp2_with fail
          refine (T3.out _).mono ?_
          rintro e x2 ⟨rfl, y2⟩
          clear p0 p1 p2 p3 p4
          replace k1 := k1.below y2
          replace k2 := k2.below y2
          replace bT := below_trans bT y2
          clear y2
          have p0 := k1.cell (i := 0) rfl
          have p1 := k1.cell (i := 1) rfl
          have p2 := k1.cell (i := 2) rfl
          have p3 := k1.cell (i := 3) rfl
          have p4 := k1.cell (i := 4) rfl
          go_wp2_with fail
          refine (T4.out _).mono ?_
          rintro e x3 ⟨rfl, y3⟩
          clear p0 p1 p2 p3 p4
          replace k1 := k1.below y3
          replace k2 := k2.below y3
          replace bT := below_trans bT y3
          clear y3
          have p0 := k1.cell (i := 0) rfl
          have p1 := k1.cell (i := 1) rfl
          have p2 := k1.cell (i := 2) rfl
          have p3 := k1.cell (i := 3) rfl
          have p4 := k1.cell (i := 4) rfl
          go_wp2_with fail
          refine (T5.out _).mono ?_
          rintro e x4 ⟨rfl, y4⟩
          clear p0 p1 p2 p3 p4
          replace k1 := k1.below y4
          replace k2 := k2.below y4
          replace bT := below_trans bT y4
          clear y4
          have p0 := k1.cell (i := 0) rfl
          have p1 := k1.cell (i := 1) rfl
          have p2 := k1.cell (i := 2) rfl
          have p3 := k1.cell (i := 3) rfl
          have p4 := k1.cell (i := 4) rfl
          go_wp2_with fail
          refine (T6.out _).mono ?_
          rintro e x5 ⟨rfl, y5⟩
          clear p0 p1 p2 p3 p4
          replace k1 := k1.below y5
          replace k2 := k2.below y5
          replace bT := below_trans bT y5
          clear y5
          have kd := k1.below ((Below.refl _ x5).drew)
          have ko := k2.below ((Below.refl _ x5).drew)
          have q0 := kd.cell (i := 0) rfl
          have q1 := kd.cell (i := 1) rfl
          have q2 := kd.cell (i := 2) rfl
          have q3 := kd.cell (i := 3) rfl
          have q4 := kd.cell (i := 4) rfl
          have u0 := ko.cell (i := 0) rfl
          have u1 := ko.cell (i := 1) rfl
          have u2 := ko.cell (i := 2) rfl
          have u3 := ko.cell (i := 3) rfl
          have u4 := ko.cell (i := 4) rfl
          clear kd ko
          go_wp2_with fail
          refine wp_region_slots slotLe (slotPhi ((fun v _ => v = ?srst145) :: (fun v _ => v = ?srst146) :: (fun v _ => v = ?srst147) :: (fun v _ => v = ?srst148) :: (fun v _ => v = ?srst149) :: (fun v _ => v = ?srst150) :: (fun v _ => v = ?srst151) :: (fun v _ => v = ?srst152) :: (fun v _ => v = ?srst153) :: (fun v _ => v = ?srst154) :: (fun v _ => v = ?srst155) :: (fun v _ => v = ?srst156) :: (fun v _ => v = ?srst157) :: (fun v _ => v = ?srst158) :: (fun v _ => v = ?srst159) :: (fun v _ => v = ?srst160) :: (fun v _ => v = ?srst161) :: (fun v _ => v = ?srst162) :: (fun v _ => v = ?srst163) :: (fun v _ => v = ?srst164) :: (fun v _ => v = ?srst165) :: (fun v _ => v = ?srst166) :: (fun v _ => v = ?srst167) :: (fun v _ => v = ?srst168) :: (fun v _ => v = ?srst169) :: (fun v _ => v = ?srst170) :: (fun v _ => v = ?srst171) :: (fun v _ => v = ?srst172) :: (fun v _ => v = ?srst173) :: (fun v _ => v = ?srst174) :: (fun v _ => v = ?srst175) :: (fun v _ => v = ?srst176) :: (fun v _ => v = ?srst177) :: (fun v _ => v = ?srst178) :: (fun v _ => v = ?srst179) :: (fun v _ => v = ?srst180) :: (fun v _ => v = ?srst181) :: (fun v _ => v = ?srst182) :: (fun v _ => v = ?srst183) :: (fun v _ => v = ?srst184) :: (fun v W => ReadR v [(⟨n, ty, cl, tt, d⟩ : Rd.RR), ⟨n2, ty2, cl2, tt2, d2⟩] W) :: (fun v _ => v = ?srst186) :: (fun v W => ReadR v [(⟨n2, ty2, cl2, tt2, d2⟩ : Rd.RR)] W) :: (fun v _ => v = ?srst188) :: (fun v _ => v = ?srst189) :: (fun v _ => v = ?srst190) :: (fun v W => ReadR v [(⟨n, ty, cl, tt, d⟩ : Rd.RR), ⟨n2, ty2, cl2, tt2, d2⟩] W) :: (fun v _ => v = ?srst192) :: (fun v W => ReadR v [(⟨n2, ty2, cl2, tt2, d2⟩ : Rd.RR)] W) :: (fun v _ => v = ?srst194) :: (fun v _ => v = ?srst195) :: (fun v _ => v = ?srst196) :: (fun v _ => v = ?srst197) :: (fun v _ => v = ?srst198) :: (fun v _ => v = ?srst199) :: (fun v _ => v = ?srst6) :: [])) slotLe_refl slotLe_trans (slotPhi_stable ?stb) (by kernel_rfl) (by kernel_rfl) (by kernel_rfl) ?steps ?fin
          case stb =>
            refine ⟨by intro _ _ _ _ h; exact h, ?_⟩
            refine ⟨by intro _ _ _ _ h; exact h, ?_⟩
            refine ⟨by intro _ _ _ _ h; exact h, ?_⟩
            refine ⟨by intro _ _ _ _ h; exact h, ?_⟩
            refine ⟨by intro _ _ _ _ h; exact h, ?_⟩
            refine ⟨by intro _ _ _ _ h; exact h, ?_⟩
            refine ⟨by intro _ _ _ _ h; exact h, ?_⟩
            refine ⟨by intro _ _ _ _ h; exact h, ?_⟩
            refine ⟨by intro _ _ _ _ h; exact h, ?_⟩
            refine ⟨by intro _ _ _ _ h; exact h, ?_⟩
            refine ⟨by intro _ _ _ _ h; exact h, ?_⟩
            refine ⟨by intro _ _ _ _ h; exact h, ?_⟩
            refine ⟨by intro _ _ _ _ h; exact h, ?_⟩
            refine ⟨by intro _ _ _ _ h; exact h, ?_⟩
            refine ⟨by intro _ _ _ _ h; exact h, ?_⟩
            refine ⟨by intro _ _ _ _ h; exact h, ?_⟩
            refine ⟨by intro _ _ _ _ h; exact h, ?_⟩
            refine ⟨by intro _ _ _ _ h; exact h, ?_⟩
            refine ⟨by intro _ _ _ _ h; exact h, ?_⟩
            refine ⟨by intro _ _ _ _ h; exact h, ?_⟩
            refine ⟨by intro _ _ _ _ h; exact h, ?_⟩
            refine ⟨by intro _ _ _ _ h; exact h, ?_⟩
            refine ⟨by intro _ _ _ _ h; exact h, ?_⟩
            refine ⟨by intro _ _ _ _ h; exact h, ?_⟩
            refine ⟨by intro _ _ _ _ h; exact h, ?_⟩
            refine ⟨by intro _ _ _ _ h; exact h, ?_⟩
            refine ⟨by intro _ _ _ _ h; exact h, ?_⟩
            refine ⟨by intro _ _ _ _ h; exact h, ?_⟩
            refine ⟨by intro _ _ _ _ h; exact h, ?_⟩
            refine ⟨by intro _ _ _ _ h; exact h, ?_⟩
            refine ⟨by intro _ _ _ _ h; exact h, ?_⟩
            refine ⟨by intro _ _ _ _ h; exact h, ?_⟩
            refine ⟨by intro _ _ _ _ h; exact h, ?_⟩
            refine ⟨by intro _ _ _ _ h; exact h, ?_⟩
            refine ⟨by intro _ _ _ _ h; exact h, ?_⟩
            refine ⟨by intro _ _ _ _ h; exact h, ?_⟩
            refine ⟨by intro _ _ _ _ h; exact h, ?_⟩
            refine ⟨by intro _ _ _ _ h; exact h, ?_⟩
            refine ⟨by intro _ _ _ _ h; exact h, ?_⟩
            refine ⟨by intro _ _ _ _ h; exact h, ?_⟩
            refine ⟨by intro _ _ _ hh h; exact readR_below h hh, ?_⟩
            refine ⟨by intro _ _ _ _ h; exact h, ?_⟩
            refine ⟨by intro _ _ _ hh h; exact readR_below h hh, ?_⟩
            refine ⟨by intro _ _ _ _ h; exact h, ?_⟩
            refine ⟨by intro _ _ _ _ h; exact h, ?_⟩
            refine ⟨by intro _ _ _ _ h; exact h, ?_⟩
            refine ⟨by intro _ _ _ hh h; exact readR_below h hh, ?_⟩
            refine ⟨by intro _ _ _ _ h; exact h, ?_⟩
            refine ⟨by intro _ _ _ hh h; exact readR_below h hh, ?_⟩
            refine ⟨by intro _ _ _ _ h; exact h, ?_⟩
            refine ⟨by intro _ _ _ _ h; exact h, ?_⟩
            refine ⟨by intro _ _ _ _ h; exact h, ?_⟩
            refine ⟨by intro _ _ _ _ h; exact h, ?_⟩
            refine ⟨by intro _ _ _ _ h; exact h, ?_⟩
            refine ⟨by intro _ _ _ _ h; exact h, ?_⟩
            refine ⟨by intro _ _ _ _ h; exact h, ?_⟩
            exact trivial
          case steps =>
            refine ⟨?_, ?_⟩
            · intro a W K N hK
              have e11 : a.tmps[11]?.getD undef = .string ⟨S.toArray⟩ := N.was' 11 _ (by kernel_rfl) rfl
              rw [if_pos (wanted_no rfl)]
              go_simp
              refine hK _ _ (slotLe_refl _) ?_
              exact rfl
            refine ⟨?_, ?_⟩
            · intro a W K N hK
              have e13 : a.tmps[13]?.getD undef = .string ⟨S.toArray⟩ := N.was' 13 _ (by kernel_rfl) rfl
              rw [if_pos (wanted_no rfl)]
              go_simp
              refine hK _ _ (slotLe_refl _) ?_
              exact rfl
            refine ⟨?_, ?_⟩
            · intro a W K N hK
              have e145 : a.tmps[145]?.getD undef = _ := N.dep' 0 145 (by kernel_rfl)
              have e146 : a.tmps[146]?.getD undef = _ := N.dep' 1 146 (by kernel_rfl)
              rw [if_pos (wanted_no rfl)]
              go_simp
              refine hK _ _ (slotLe_refl _) ?_
              exact rfl
            refine ⟨?_, ?_⟩
            · intro a W K N hK
              have e147 : a.tmps[147]?.getD undef = _ := N.dep' 2 147 (by kernel_rfl)
              rw [if_pos (wanted_no rfl)]
              go_simp
              refine hK _ _ (slotLe_refl _) ?_
              exact rfl
            refine ⟨?_, ?_⟩
            · intro a W K N hK
              have e12 : a.tmps[12]?.getD undef = .bool B := N.was' 12 _ (by kernel_rfl) rfl
              have eg : a.tmps[148]?.getD undef = .bool true := N.dep' 3 148 (by kernel_rfl)
              rw [if_pos (by rw [wanted_get (g := 3) (d := 148) rfl rfl eg]; decide)]
              clear eg
              go_simp
              refine hK _ _ (slotLe_refl _) ?_
              exact rfl
            refine ⟨?_, ?_⟩
            · intro a W K N hK
              have e14 : a.tmps[14]?.getD undef = .bool B := N.was' 14 _ (by kernel_rfl) rfl
              have eg : a.tmps[148]?.getD undef = .bool true := N.dep' 3 148 (by kernel_rfl)
              rw [if_pos (by rw [wanted_get (g := 3) (d := 148) rfl rfl eg]; decide)]
              clear eg
              go_simp
              refine hK _ _ (slotLe_refl _) ?_
              exact rfl
            refine ⟨?_, ?_⟩
            · intro a W K N hK
              have e149 : a.tmps[149]?.getD undef = _ := N.dep' 4 149 (by kernel_rfl)
              have e150 : a.tmps[150]?.getD undef = _ := N.dep' 5 150 (by kernel_rfl)
              have eg : a.tmps[148]?.getD undef = .bool true := N.dep' 3 148 (by kernel_rfl)
              rw [if_pos (by rw [wanted_get (g := 3) (d := 148) rfl rfl eg]; decide)]
              clear eg
              go_simp
              refine hK _ _ (slotLe_refl _) ?_
              exact rfl
            refine ⟨?_, ?_⟩
            · intro a W K N hK
              have e148 : a.tmps[148]?.getD undef = _ := N.dep' 3 148 (by kernel_rfl)
              have e151 : a.tmps[151]?.getD undef = _ := N.dep' 6 151 (by kernel_rfl)
              rw [if_pos (wanted_no rfl)]
              go_simp
              refine hK _ _ (slotLe_refl _) ?_
              exact rfl
            refine ⟨?_, ?_⟩
            · intro a W K N hK
              have e152 : a.tmps[152]?.getD undef = _ := N.dep' 7 152 (by kernel_rfl)
              rw [if_pos (wanted_no rfl)]
              go_simp
              refine hK _ _ (slotLe_refl _) ?_
              exact rfl
            refine ⟨?_, ?_⟩
            · intro a W K N hK
              have e15 : a.tmps[15]?.getD undef = .int .i64 (A1 : Int) := N.was' 15 _ (by kernel_rfl) rfl
              have eg : a.tmps[153]?.getD undef = .bool true := N.dep' 8 153 (by kernel_rfl)
              rw [if_pos (by rw [wanted_get (g := 8) (d := 153) rfl rfl eg]; decide)]
              clear eg
              go_simp
              refine hK _ _ (slotLe_refl _) ?_
              exact rfl
            refine ⟨?_, ?_⟩
            · intro a W K N hK
              have e17 : a.tmps[17]?.getD undef = .int .i64 (A1 : Int) := N.was' 17 _ (by kernel_rfl) rfl
              have eg : a.tmps[153]?.getD undef = .bool true := N.dep' 8 153 (by kernel_rfl)
              rw [if_pos (by rw [wanted_get (g := 8) (d := 153) rfl rfl eg]; decide)]
              clear eg
              go_simp
              refine hK _ _ (slotLe_refl _) ?_
              exact rfl
            refine ⟨?_, ?_⟩
            · intro a W K N hK
              have e154 : a.tmps[154]?.getD undef = _ := N.dep' 9 154 (by kernel_rfl)
              have e155 : a.tmps[155]?.getD undef = _ := N.dep' 10 155 (by kernel_rfl)
              have eg : a.tmps[153]?.getD undef = .bool true := N.dep' 8 153 (by kernel_rfl)
              rw [if_pos (by rw [wanted_get (g := 8) (d := 153) rfl rfl eg]; decide)]
              clear eg
              go_simp
              refine hK _ _ (slotLe_refl _) ?_
              exact rfl
            refine ⟨?_, ?_⟩
            · intro a W K N hK
              have e153 : a.tmps[153]?.getD undef = _ := N.dep' 8 153 (by kernel_rfl)
              have e156 : a.tmps[156]?.getD undef = _ := N.dep' 11 156 (by kernel_rfl)
              rw [if_pos (wanted_no rfl)]
              go_simp
              refine hK _ _ (slotLe_refl _) ?_
              exact rfl
            refine ⟨?_, ?_⟩
            · intro a W K N hK
              have e157 : a.tmps[157]?.getD undef = _ := N.dep' 12 157 (by kernel_rfl)
              rw [if_pos (wanted_no rfl)]
              go_simp
              refine hK _ _ (slotLe_refl _) ?_
              exact rfl
            refine ⟨?_, ?_⟩
            · intro a W K N hK
              have e16 : a.tmps[16]?.getD undef = .bool B1 := N.was' 16 _ (by kernel_rfl) rfl
              have eg : a.tmps[158]?.getD undef = .bool true := N.dep' 13 158 (by kernel_rfl)
              rw [if_pos (by rw [wanted_get (g := 13) (d := 158) rfl rfl eg]; decide)]
              clear eg
              go_simp
              refine hK _ _ (slotLe_refl _) ?_
              exact rfl
            refine ⟨?_, ?_⟩
            · intro a W K N hK
              have e18 : a.tmps[18]?.getD undef = .bool B1 := N.was' 18 _ (by kernel_rfl) rfl
              have eg : a.tmps[158]?.getD undef = .bool true := N.dep' 13 158 (by kernel_rfl)
              rw [if_pos (by rw [wanted_get (g := 13) (d := 158) rfl rfl eg]; decide)]
              clear eg
              go_simp
              refine hK _ _ (slotLe_refl _) ?_
              exact rfl
            refine ⟨?_, ?_⟩
            · intro a W K N hK
              have e159 : a.tmps[159]?.getD undef = _ := N.dep' 14 159 (by kernel_rfl)
              have e160 : a.tmps[160]?.getD undef = _ := N.dep' 15 160 (by kernel_rfl)
              have eg : a.tmps[158]?.getD undef = .bool true := N.dep' 13 158 (by kernel_rfl)
              rw [if_pos (by rw [wanted_get (g := 13) (d := 158) rfl rfl eg]; decide)]
              clear eg
              go_simp
              refine hK _ _ (slotLe_refl _) ?_
              exact rfl
            refine ⟨?_, ?_⟩
            · intro a W K N hK
              have e158 : a.tmps[158]?.getD undef = _ := N.dep' 13 158 (by kernel_rfl)
              have e161 : a.tmps[161]?.getD undef = _ := N.dep' 16 161 (by kernel_rfl)
              rw [if_pos (wanted_no rfl)]
              go_simp
              refine hK _ _ (slotLe_refl _) ?_
              exact rfl
            refine ⟨?_, ?_⟩
            · intro a W K N hK
              have e162 : a.tmps[162]?.getD undef = _ := N.dep' 17 162 (by kernel_rfl)
              rw [if_pos (wanted_no rfl)]
              go_simp
              refine hK _ _ (slotLe_refl _) ?_
              exact rfl
            refine ⟨?_, ?_⟩
            · intro a W K N hK
              have e19 : a.tmps[19]?.getD undef = .int .i64 (A6 : Int) := N.was' 19 _ (by kernel_rfl) rfl
              have eg : a.tmps[163]?.getD undef = .bool true := N.dep' 18 163 (by kernel_rfl)
              rw [if_pos (by rw [wanted_get (g := 18) (d := 163) rfl rfl eg]; decide)]
              clear eg
              go_simp
              refine hK _ _ (slotLe_refl _) ?_
              exact rfl
            refine ⟨?_, ?_⟩
            · intro a W K N hK
              have e21 : a.tmps[21]?.getD undef = .int .i64 (A6 : Int) := N.was' 21 _ (by kernel_rfl) rfl
              have eg : a.tmps[163]?.getD undef = .bool true := N.dep' 18 163 (by kernel_rfl)
              rw [if_pos (by rw [wanted_get (g := 18) (d := 163) rfl rfl eg]; decide)]
              clear eg
              go_simp
              refine hK _ _ (slotLe_refl _) ?_
              exact rfl
            refine ⟨?_, ?_⟩
            · intro a W K N hK
              have e164 : a.tmps[164]?.getD undef = _ := N.dep' 19 164 (by kernel_rfl)
              have e165 : a.tmps[165]?.getD undef = _ := N.dep' 20 165 (by kernel_rfl)
              have eg : a.tmps[163]?.getD undef = .bool true := N.dep' 18 163 (by kernel_rfl)
              rw [if_pos (by rw [wanted_get (g := 18) (d := 163) rfl rfl eg]; decide)]
              clear eg
              go_simp
              refine hK _ _ (slotLe_refl _) ?_
              exact rfl
            refine ⟨?_, ?_⟩
            · intro a W K N hK
              have e163 : a.tmps[163]?.getD undef = _ := N.dep' 18 163 (by kernel_rfl)
              have e166 : a.tmps[166]?.getD undef = _ := N.dep' 21 166 (by kernel_rfl)
              rw [if_pos (wanted_no rfl)]
              go_simp
              refine hK _ _ (slotLe_refl _) ?_
              exact rfl
            refine ⟨?_, ?_⟩
            · intro a W K N hK
              have e167 : a.tmps[167]?.getD undef = _ := N.dep' 22 167 (by kernel_rfl)
              rw [if_pos (wanted_no rfl)]
              go_simp
              refine hK _ _ (slotLe_refl _) ?_
              exact rfl
            refine ⟨?_, ?_⟩
            · intro a W K N hK
              have e20 : a.tmps[20]?.getD undef = .bool B6 := N.was' 20 _ (by kernel_rfl) rfl
              have eg : a.tmps[168]?.getD undef = .bool true := N.dep' 23 168 (by kernel_rfl)
              rw [if_pos (by rw [wanted_get (g := 23) (d := 168) rfl rfl eg]; decide)]
              clear eg
              go_simp
              refine hK _ _ (slotLe_refl _) ?_
              exact rfl
            refine ⟨?_, ?_⟩
            · intro a W K N hK
              have e22 : a.tmps[22]?.getD undef = .bool B6 := N.was' 22 _ (by kernel_rfl) rfl
              have eg : a.tmps[168]?.getD undef = .bool true := N.dep' 23 168 (by kernel_rfl)
              rw [if_pos (by rw [wanted_get (g := 23) (d := 168) rfl rfl eg]; decide)]
              clear eg
              go_simp
              refine hK _ _ (slotLe_refl _) ?_
              exact rfl
            refine ⟨?_, ?_⟩
            · intro a W K N hK
              have e169 : a.tmps[169]?.getD undef = _ := N.dep' 24 169 (by kernel_rfl)
              have e170 : a.tmps[170]?.getD undef = _ := N.dep' 25 170 (by kernel_rfl)
              have eg : a.tmps[168]?.getD undef = .bool true := N.dep' 23 168 (by kernel_rfl)
              rw [if_pos (by rw [wanted_get (g := 23) (d := 168) rfl rfl eg]; decide)]
              clear eg
              go_simp
              refine hK _ _ (slotLe_refl _) ?_
              exact rfl
            refine ⟨?_, ?_⟩
            · intro a W K N hK
              have e168 : a.tmps[168]?.getD undef = _ := N.dep' 23 168 (by kernel_rfl)
              have e171 : a.tmps[171]?.getD undef = _ := N.dep' 26 171 (by kernel_rfl)
              rw [if_pos (wanted_no rfl)]
              go_simp
              refine hK _ _ (slotLe_refl _) ?_
              exact rfl
            refine ⟨?_, ?_⟩
            · intro a W K N hK
              have e172 : a.tmps[172]?.getD undef = _ := N.dep' 27 172 (by kernel_rfl)
              rw [if_pos (wanted_no rfl)]
              go_simp
              refine hK _ _ (slotLe_refl _) ?_
              exact rfl
            refine ⟨?_, ?_⟩
            · intro a W K N hK
              have e3 : a.tmps[3]?.getD undef = .pointer (some ⟨Br, 0, none⟩) := N.was' 3 _ (by kernel_rfl) rfl
              have eg : a.tmps[173]?.getD undef = .bool true := N.dep' 28 173 (by kernel_rfl)
              rw [if_pos (by rw [wanted_get (g := 28) (d := 173) rfl rfl eg]; decide)]
              clear eg
              have z0 := keep_cell N.le q0
              have z1 := keep_cell N.le q1
              have z2 := keep_cell N.le q2
              have z3 := keep_cell N.le q3
              have z4 := keep_cell N.le q4
              go_simp
              refine hK _ _ (slotLe_refl _) ?_
              exact rfl
            refine ⟨?_, ?_⟩
            · intro a W K N hK
              have e4 : a.tmps[4]?.getD undef = .pointer (some ⟨Bo, 0, none⟩) := N.was' 4 _ (by kernel_rfl) rfl
              have eg : a.tmps[173]?.getD undef = .bool true := N.dep' 28 173 (by kernel_rfl)
              rw [if_pos (by rw [wanted_get (g := 28) (d := 173) rfl rfl eg]; decide)]
              clear eg
              have z0 := keep_cell N.le u0
              have z1 := keep_cell N.le u1
              have z2 := keep_cell N.le u2
              have z3 := keep_cell N.le u3
              have z4 := keep_cell N.le u4
              go_simp
              refine hK _ _ (slotLe_refl _) ?_
              exact rfl
            refine ⟨?_, ?_⟩
            · intro a W K N hK
              have e174 : a.tmps[174]?.getD undef = _ := N.dep' 29 174 (by kernel_rfl)
              have e175 : a.tmps[175]?.getD undef = _ := N.dep' 30 175 (by kernel_rfl)
              have eg : a.tmps[173]?.getD undef = .bool true := N.dep' 28 173 (by kernel_rfl)
              rw [if_pos (by rw [wanted_get (g := 28) (d := 173) rfl rfl eg]; decide)]
              clear eg
              go_simp
              refine (S1.out _).mono ?_
              rintro e w4 ⟨rfl, b4⟩
              refine hK _ _ b4 ?_
              exact rfl
            refine ⟨?_, ?_⟩
            · intro a W K N hK
              have e3 : a.tmps[3]?.getD undef = .pointer (some ⟨Br, 0, none⟩) := N.was' 3 _ (by kernel_rfl) rfl
              have eg : a.tmps[173]?.getD undef = .bool true := N.dep' 28 173 (by kernel_rfl)
              rw [if_pos (by rw [wanted_get (g := 28) (d := 173) rfl rfl eg]; decide)]
              clear eg
              have z0 := keep_cell N.le q0
              have z1 := keep_cell N.le q1
              have z2 := keep_cell N.le q2
              have z3 := keep_cell N.le q3
              have z4 := keep_cell N.le q4
              go_simp
              refine hK _ _ (slotLe_refl _) ?_
              exact rfl
            refine ⟨?_, ?_⟩
            · intro a W K N hK
              have e4 : a.tmps[4]?.getD undef = .pointer (some ⟨Bo, 0, none⟩) := N.was' 4 _ (by kernel_rfl) rfl
              have eg : a.tmps[173]?.getD undef = .bool true := N.dep' 28 173 (by kernel_rfl)
              rw [if_pos (by rw [wanted_get (g := 28) (d := 173) rfl rfl eg]; decide)]
              clear eg
              have z0 := keep_cell N.le u0
              have z1 := keep_cell N.le u1
              have z2 := keep_cell N.le u2
              have z3 := keep_cell N.le u3
              have z4 := keep_cell N.le u4
              go_simp
              refine hK _ _ (slotLe_refl _) ?_
              exact rfl
            refine ⟨?_, ?_⟩
            · intro a W K N hK
              have e177 : a.tmps[177]?.getD undef = _ := N.dep' 32 177 (by kernel_rfl)
              have e178 : a.tmps[178]?.getD undef = _ := N.dep' 33 178 (by kernel_rfl)
              have eg : a.tmps[173]?.getD undef = .bool true := N.dep' 28 173 (by kernel_rfl)
              rw [if_pos (by rw [wanted_get (g := 28) (d := 173) rfl rfl eg]; decide)]
              clear eg
              go_simp
              refine (S2.out _).mono ?_
              rintro e w4 ⟨rfl, b4⟩
              refine hK _ _ b4 ?_
              exact rfl
            refine ⟨?_, ?_⟩
            · intro a W K N hK
              have e176 : a.tmps[176]?.getD undef = _ := N.dep' 31 176 (by kernel_rfl)
              have e179 : a.tmps[179]?.getD undef = _ := N.dep' 34 179 (by kernel_rfl)
              have eg : a.tmps[173]?.getD undef = .bool true := N.dep' 28 173 (by kernel_rfl)
              rw [if_pos (by rw [wanted_get (g := 28) (d := 173) rfl rfl eg]; decide)]
              clear eg
              go_simp
              refine hK _ _ (slotLe_refl _) ?_
              exact rfl
            refine ⟨?_, ?_⟩
            · intro a W K N hK
              have e173 : a.tmps[173]?.getD undef = _ := N.dep' 28 173 (by kernel_rfl)
              have e180 : a.tmps[180]?.getD undef = _ := N.dep' 35 180 (by kernel_rfl)
              rw [if_pos (wanted_no rfl)]
              go_simp
              refine hK _ _ (slotLe_refl _) ?_
              exact rfl
            refine ⟨?_, ?_⟩
            · intro a W K N hK
              have e181 : a.tmps[181]?.getD undef = _ := N.dep' 36 181 (by kernel_rfl)
              rw [if_pos (wanted_no rfl)]
              go_simp
              refine hK _ _ (slotLe_refl _) ?_
              exact rfl
            refine ⟨?_, ?_⟩
            · intro a W K N hK
              have e3 : a.tmps[3]?.getD undef = .pointer (some ⟨Br, 0, none⟩) := N.was' 3 _ (by kernel_rfl) rfl
              have eg : a.tmps[182]?.getD undef = .bool true := N.dep' 37 182 (by kernel_rfl)
              rw [if_pos (by rw [wanted_get (g := 37) (d := 182) rfl rfl eg]; decide)]
              clear eg
              have z0 := keep_cell N.le q0
              have z1 := keep_cell N.le q1
              have z2 := keep_cell N.le q2
              have z3 := keep_cell N.le q3
              have z4 := keep_cell N.le q4
              go_simp
              refine hK _ _ (slotLe_refl _) ?_
              exact rfl
            refine ⟨?_, ?_⟩
            · intro a W K N hK
              have e4 : a.tmps[4]?.getD undef = .pointer (some ⟨Bo, 0, none⟩) := N.was' 4 _ (by kernel_rfl) rfl
              have eg : a.tmps[182]?.getD undef = .bool true := N.dep' 37 182 (by kernel_rfl)
              rw [if_pos (by rw [wanted_get (g := 37) (d := 182) rfl rfl eg]; decide)]
              clear eg
              have z0 := keep_cell N.le u0
              have z1 := keep_cell N.le u1
              have z2 := keep_cell N.le u2
              have z3 := keep_cell N.le u3
              have z4 := keep_cell N.le u4
              go_simp
              refine hK _ _ (slotLe_refl _) ?_
              exact rfl
            refine ⟨?_, ?_⟩
            · intro a W K N hK
              have e183 : a.tmps[183]?.getD undef = _ := N.dep' 38 183 (by kernel_rfl)
              have e184 : a.tmps[184]?.getD undef = _ := N.dep' 39 184 (by kernel_rfl)
              have eg : a.tmps[182]?.getD undef = .bool true := N.dep' 37 182 (by kernel_rfl)
              rw [if_pos (by rw [wanted_get (g := 37) (d := 182) rfl rfl eg]; decide)]
              clear eg
              go_simp
              refine hK _ _ ((Below.refl _ W).alloc (Nat.le_refl _) _) ?_
              exact HR.out W
            refine ⟨?_, ?_⟩
            · intro a W K N hK
              have e4 : a.tmps[4]?.getD undef = .pointer (some ⟨Bo, 0, none⟩) := N.was' 4 _ (by kernel_rfl) rfl
              have eg : a.tmps[182]?.getD undef = .bool true := N.dep' 37 182 (by kernel_rfl)
              rw [if_pos (by rw [wanted_get (g := 37) (d := 182) rfl rfl eg]; decide)]
              clear eg
              have z0 := keep_cell N.le u0
              have z1 := keep_cell N.le u1
              have z2 := keep_cell N.le u2
              have z3 := keep_cell N.le u3
              have z4 := keep_cell N.le u4
              go_simp
              refine hK _ _ (slotLe_refl _) ?_
              exact rfl
            refine ⟨?_, ?_⟩
            · intro a W K N hK
              have e186 : a.tmps[186]?.getD undef = _ := N.dep' 41 186 (by kernel_rfl)
              have eg : a.tmps[182]?.getD undef = .bool true := N.dep' 37 182 (by kernel_rfl)
              rw [if_pos (by rw [wanted_get (g := 37) (d := 182) rfl rfl eg]; decide)]
              clear eg
              go_simp
              refine hK _ _ ((Below.refl _ W).alloc (Nat.le_refl _) _) ?_
              exact HO.out W
            refine ⟨?_, ?_⟩
            · intro a W K N hK
              have e185 := Lib.hid (show (fun v W => ReadR v [(⟨n, ty, cl, tt, d⟩ : Rd.RR), ⟨n2, ty2, cl2, tt2, d2⟩] W) (a.tmps[185]?.getD undef) W from N.dep' 40 185 (by kernel_rfl))
              have e187 := Lib.hid (show (fun v W => ReadR v [(⟨n2, ty2, cl2, tt2, d2⟩ : Rd.RR)] W) (a.tmps[187]?.getD undef) W from N.dep' 42 187 (by kernel_rfl))
              have eg : a.tmps[182]?.getD undef = .bool true := N.dep' 37 182 (by kernel_rfl)
              rw [if_pos (by rw [wanted_get (g := 37) (d := 182) rfl rfl eg]; decide)]
              clear eg
              go_simp
              refine (S3.out _ _ _ e185.out e187.out).mono ?_
              rintro e w4 ⟨rfl, b4⟩
              refine hK _ _ b4 ?_
              exact rfl
            refine ⟨?_, ?_⟩
            · intro a W K N hK
              have e3 : a.tmps[3]?.getD undef = .pointer (some ⟨Br, 0, none⟩) := N.was' 3 _ (by kernel_rfl) rfl
              have eg : a.tmps[182]?.getD undef = .bool true := N.dep' 37 182 (by kernel_rfl)
              rw [if_pos (by rw [wanted_get (g := 37) (d := 182) rfl rfl eg]; decide)]
              clear eg
              have z0 := keep_cell N.le q0
              have z1 := keep_cell N.le q1
              have z2 := keep_cell N.le q2
              have z3 := keep_cell N.le q3
              have z4 := keep_cell N.le q4
              go_simp
              refine hK _ _ (slotLe_refl _) ?_
              exact rfl
            refine ⟨?_, ?_⟩
            · intro a W K N hK
              have e4 : a.tmps[4]?.getD undef = .pointer (some ⟨Bo, 0, none⟩) := N.was' 4 _ (by kernel_rfl) rfl
              have eg : a.tmps[182]?.getD undef = .bool true := N.dep' 37 182 (by kernel_rfl)
              rw [if_pos (by rw [wanted_get (g := 37) (d := 182) rfl rfl eg]; decide)]
              clear eg
              have z0 := keep_cell N.le u0
              have z1 := keep_cell N.le u1
              have z2 := keep_cell N.le u2
              have z3 := keep_cell N.le u3
              have z4 := keep_cell N.le u4
              go_simp
              refine hK _ _ (slotLe_refl _) ?_
              exact rfl
            refine ⟨?_, ?_⟩
            · intro a W K N hK
              have e189 : a.tmps[189]?.getD undef = _ := N.dep' 44 189 (by kernel_rfl)
              have e190 : a.tmps[190]?.getD undef = _ := N.dep' 45 190 (by kernel_rfl)
              have eg : a.tmps[182]?.getD undef = .bool true := N.dep' 37 182 (by kernel_rfl)
              rw [if_pos (by rw [wanted_get (g := 37) (d := 182) rfl rfl eg]; decide)]
              clear eg
              go_simp
              refine hK _ _ ((Below.refl _ W).alloc (Nat.le_refl _) _) ?_
              exact HR.out W
            refine ⟨?_, ?_⟩
            · intro a W K N hK
              have e4 : a.tmps[4]?.getD undef = .pointer (some ⟨Bo, 0, none⟩) := N.was' 4 _ (by kernel_rfl) rfl
              have eg : a.tmps[182]?.getD undef = .bool true := N.dep' 37 182 (by kernel_rfl)
              rw [if_pos (by rw [wanted_get (g := 37) (d := 182) rfl rfl eg]; decide)]
              clear eg
              have z0 := keep_cell N.le u0
              have z1 := keep_cell N.le u1
              have z2 := keep_cell N.le u2
              have z3 := keep_cell N.le u3
              have z4 := keep_cell N.le u4
              go_simp
              refine hK _ _ (slotLe_refl _) ?_
              exact rfl
            refine ⟨?_, ?_⟩
            · intro a W K N hK
              have e192 : a.tmps[192]?.getD undef = _ := N.dep' 47 192 (by kernel_rfl)
              have eg : a.tmps[182]?.getD undef = .bool true := N.dep' 37 182 (by kernel_rfl)
              rw [if_pos (by rw [wanted_get (g := 37) (d := 182) rfl rfl eg]; decide)]
              clear eg
              go_simp
              refine hK _ _ ((Below.refl _ W).alloc (Nat.le_refl _) _) ?_
              exact HO.out W
            refine ⟨?_, ?_⟩
            · intro a W K N hK
              have e191 := Lib.hid (show (fun v W => ReadR v [(⟨n, ty, cl, tt, d⟩ : Rd.RR), ⟨n2, ty2, cl2, tt2, d2⟩] W) (a.tmps[191]?.getD undef) W from N.dep' 46 191 (by kernel_rfl))
              have e193 := Lib.hid (show (fun v W => ReadR v [(⟨n2, ty2, cl2, tt2, d2⟩ : Rd.RR)] W) (a.tmps[193]?.getD undef) W from N.dep' 48 193 (by kernel_rfl))
              have eg : a.tmps[182]?.getD undef = .bool true := N.dep' 37 182 (by kernel_rfl)
              rw [if_pos (by rw [wanted_get (g := 37) (d := 182) rfl rfl eg]; decide)]
              clear eg
              go_simp
              refine (S4.out _ _ _ e191.out e193.out).mono ?_
              rintro e w4 ⟨rfl, b4⟩
              refine hK _ _ b4 ?_
              exact rfl
            refine ⟨?_, ?_⟩
            · intro a W K N hK
              have e188 : a.tmps[188]?.getD undef = _ := N.dep' 43 188 (by kernel_rfl)
              have e194 : a.tmps[194]?.getD undef = _ := N.dep' 49 194 (by kernel_rfl)
              have eg : a.tmps[182]?.getD undef = .bool true := N.dep' 37 182 (by kernel_rfl)
              rw [if_pos (by rw [wanted_get (g := 37) (d := 182) rfl rfl eg]; decide)]
              clear eg
              go_simp
              refine hK _ _ (slotLe_refl _) ?_
              exact rfl
            refine ⟨?_, ?_⟩
            · intro a W K N hK
              have e182 : a.tmps[182]?.getD undef = _ := N.dep' 37 182 (by kernel_rfl)
              have e195 : a.tmps[195]?.getD undef = _ := N.dep' 50 195 (by kernel_rfl)
              rw [if_pos (wanted_no rfl)]
              go_simp
              refine hK _ _ (slotLe_refl _) ?_
              exact rfl
            refine ⟨?_, ?_⟩
            · intro a W K N hK
              have e196 : a.tmps[196]?.getD undef = _ := N.dep' 51 196 (by kernel_rfl)
              rw [if_pos (wanted_no rfl)]
              go_simp
              refine hK _ _ (slotLe_refl _) ?_
              exact rfl
            refine ⟨?_, ?_⟩
            · intro a W K N hK
              have eg : a.tmps[197]?.getD undef = .bool true := N.dep' 52 197 (by kernel_rfl)
              rw [if_pos (by rw [wanted_get (g := 52) (d := 197) rfl rfl eg]; decide)]
              clear eg
              go_simp
              refine (awake_any _ (hv.below (below_trans bT (below_undrew N.le)))).mono ?_
              rintro e w4 ⟨rfl, b4⟩
              refine hK _ _ b4 ?_
              exact rfl
            refine ⟨?_, ?_⟩
            · intro a W K N hK
              have e197 : a.tmps[197]?.getD undef = _ := N.dep' 52 197 (by kernel_rfl)
              have e198 : a.tmps[198]?.getD undef = _ := N.dep' 53 198 (by kernel_rfl)
              rw [if_pos (wanted_no rfl)]
              go_simp
              refine hK _ _ (slotLe_refl _) ?_
              exact rfl
            refine ⟨?_, ?_⟩
            · intro a W K N hK
              have e199 : a.tmps[199]?.getD undef = _ := N.dep' 54 199 (by kernel_rfl)
              rw [if_pos (wanted_no rfl)]
              go_simp
              refine hK _ _ (slotLe_refl _) ?_
              exact rfl
            exact trivial
          case fin =>
            intro W hW
            simp only [FinAll, slotPhi, List.getD_cons_zero, List.getD_cons_succ, forall_eq, Act.put, List.setIfInBounds_toArray, List.set_cons_zero, List.set_cons_succ]
            repeat (intro _ _)
            have bW := below_trans bT (below_undrew hW)
            go_wp2
            go_ret
            exact ⟨rfl, bW⟩
end Go.Proofs.YtnnoooecbbkggaaDoor
