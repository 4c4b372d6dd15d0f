/- The document's own arena: Alloc. -/
import Derived.Test.YtagjjpmhacknpaaDoorJB20
/- The document's own arena: Alloc. -/
set_option maxRecDepth 100000
namespace Go.Proofs.YtagjjpmhacknpaaDoor
open Go Go.RowKit Go.Shelf
attribute [local go_sem] Oper.semAt_some
def MAllocRet (x : Nat → Prop) (m B : Nat) (P : List Rp) (n : Int) (w : World) (e : Ending) (w' : World) : Prop :=
  (Ar.costI n = 0 ∧ e = .returned (.tuple #[.int .i64 0, .int .i64 3]) ∧ Below w.heap.size w w') ∨
  (Ar.costI n ≠ 0 ∧ B - sumC (lsP P) < Ar.costI n ∧ e = .returned (.tuple #[.int .i64 0, .int .i64 4]) ∧ Below w.heap.size w w') ∨
  (Ar.costI n ≠ 0 ∧ Ar.costI n ≤ B - sumC (lsP P) ∧ ∃ (k : Nat) (r : Rw), k ≤ P.length ∧ (∀ i (h : i < P.length), i < k → P[i].2.1 = i + 1) ∧ (∀ h : k < P.length, P[k].2.1 ≠ k + 1) ∧ e = .returned (.tuple #[.int .i64 ((k : Int) + 1), .int .i64 0]) ∧ MRet x m B (P.take k ++ (r, (k + 1, Ar.zeros n.toNat)) :: P.drop k) w w')
theorem below_drewN (n : Nat) (w : World) (k : Nat) : Below n w (w.drewN k) := ⟨rfl, rfl, rfl, Nat.le_refl _, fun _ _ => rfl⟩
theorem costI_in {n : Int} (h : Ar.costI n ≠ 0) : 0 ≤ n ∧ n ≤ 4096 := by
  unfold Ar.costI at h
  split at h
  · assumption
  · exact absurd rfl h
theorem alc_of {w w1 W2 : World} {k q : Nat} (hb : Below w.heap.size w w1) (h : W2 = (w1.alloc (.cells (Array.replicate q (.int .u8 0)) 5)).alloc (.cells #[.int .i64 ((k : Int) + 1), .slice (some ⟨w1.heap.size, 0, none⟩) q q] 52)) :
    Below w.heap.size w W2 ∧ Blk W2 (w1.heap.size + 1) [.int .i64 ((k : Int) + 1), .slice (some ⟨w1.heap.size, 0, none⟩) q q] 52 ∧ Blk W2 w1.heap.size (List.replicate q (.int .u8 0)) 5 := by
  subst h
  have hs : (w1.alloc (.cells (Array.replicate q (.int .u8 0)) 5)).heap.size = w1.heap.size + 1 := World.size_alloc _ _
  have h1 : Blk (w1.alloc (.cells (Array.replicate q (.int .u8 0)) 5)) w1.heap.size (List.replicate q (.int .u8 0)) 5 := by
    have := Blk.new w1 (List.replicate q (.int .u8 0)) 5
    rw [List.toArray_replicate] at this
    exact this
  refine ⟨(hb.alloc hb.size _).alloc (by rw [hs]; have := hb.size; omega) _, ?_, h1.alloc _⟩
  have := Blk.new (w1.alloc (.cells (Array.replicate q (.int .u8 0)) 5)) [.int .i64 ((k : Int) + 1), .slice (some ⟨w1.heap.size, 0, none⟩) q q] 52
  rw [hs] at this
  exact this
theorem rk_zeros {x : Nat → Prop} {W : World} {g q : Nat} (h : Blk W g (List.replicate q (.int .u8 0)) 5) (hx : x g) : RK encC x (.slice (some ⟨g, 0, none⟩) q q) (Ar.zeros q) W :=
  ⟨some ⟨g, 0, none⟩, q, by simp [Ar.zeros], by simp [Ar.zeros], fun j u hu => ⟨g, 0, rfl, hx, by
    rw [Nat.zero_add]
    refine h.cell ?_
    rw [flatC, Ar.zeros, List.map_replicate] at hu
    exact hu⟩⟩
set_option maxHeartbeats 16000000 in
theorem malloc_any (x : Nat → Prop) (m B : Nat) (P : List Rp) (n : Int) (w : World) (h : MA x m B P w) (hn : -9223372036854775808 ≤ n ∧ n ≤ 9223372036854775807) (hB : B ≤ 1048576) (hs : sumC (lsP P) ≤ B) (hl : P.length ≤ 900000) (he : ∀ b ∈ lsP P, b.2.length ≤ 4096) :
    Calls Tryd.prog 9 #[.pointer (some ⟨m, 0, none⟩), .int .i64 n] w (MAllocRet x m B P n w) := by
  have HCO := Lib.hid (rcost_any n w hn)
  have HLE := Lib.hid (mleft_any x m B P w h hB hs (by omega) he)
  obtain ⟨c, hc⟩ : ∃ c, Ar.costI n = c := ⟨_, rfl⟩
  obtain ⟨s, hss⟩ : ∃ s, B - sumC (lsP P) = s := ⟨_, rfl⟩
  have hcb : c ≤ 8192 := by
    rw [← hc]; unfold Ar.costI Ar.cost
    (repeat' split) <;> omega
  have hsb : s ≤ 1048576 := by omega
  rw [hc] at HCO
  rw [hss] at HLE
  by_cases hc0 : c = 0
  · subst hc0
    have HZ := Lib.hid hc
    clear hc hss h
    go_enter Tryd.func9, Tryd.ntmps9
    go_wp2_with fail
    refine HCO.out.mono ?_
    rintro e w' ⟨rfl, rfl⟩
    go_wp2
    go_ret2
    exact .inl ⟨HZ.out, rfl, Below.refl _ _⟩
  have hcn : ((c : Int) == 0) = false := by rw [beq_eq_false_iff_ne]; omega
  by_cases hcs : s < c
  · have HZ : Hid (Ar.costI n ≠ 0 ∧ B - sumC (lsP P) < Ar.costI n) := Lib.hid (by rw [hc, hss]; exact ⟨hc0, hcs⟩)
    clear hc hss h
    go_enter Tryd.func9, Tryd.ntmps9
    go_wp2_with fail
    refine HCO.out.mono ?_
    rintro e w' ⟨rfl, rfl⟩
    go_wp2_with fail
    refine HLE.out.mono ?_
    rintro e w' ⟨rfl, nd, rfl⟩
    go_wp2
    go_ret2
    exact .inr (.inl ⟨HZ.out.1, HZ.out.2, rfl, below_drewN _ _ nd⟩)
  obtain ⟨hn0, hn1⟩ := costI_in (n := n) (by rw [hc]; exact hc0)
  obtain ⟨q, rfl⟩ : ∃ q : Nat, n = (q : Int) := ⟨n.toNat, by omega⟩
  have HZ : Hid (Ar.costI (q : Int) ≠ 0 ∧ Ar.costI (q : Int) ≤ B - sumC (lsP P)) := Lib.hid (by rw [hc, hss]; exact ⟨hc0, by omega⟩)
  have HM := Lib.hid h
  obtain ⟨ao, cap, c0, c1, hcap, hrk, hrow⟩ := h.box
  obtain ⟨v0, hm1, _⟩ := h.ex
  have hml := hm1.lt
  have HR := Lib.hid hrow
  have HRK := Lib.hid hrk
  have hmk := fun W => (by have h := make_one (e := 5) Tryd.underlying34 infoU8 (by decide) rfl (q : Int) q rfl (by omega) W; rw [List.toArray_replicate] at h; exact h : (Instr.makeSlice 34 (.int .i64 (q : Int)) (.int .i64 (q : Int))).run Tryd.prog W = .ok (.slice (some ⟨W.heap.size, 0, none⟩) q q) (W.alloc (.cells (Array.replicate q (.int .u8 0)) 5)))
  have HM1 := Lib.hid hm1
  clear hc hss h hrow hrk hm1 he hs hB
  go_enter Tryd.func9, Tryd.ntmps9
  go_wp2_with fail
  refine HCO.out.mono ?_
  rintro e w' ⟨rfl, rfl⟩
  go_wp2_with fail
  refine HLE.out.mono ?_
  rintro e w' ⟨rfl, nd, rfl⟩
  clear HCO HLE
  have hb1 : Below w.heap.size w (w.drewN nd) := below_drewN _ _ nd
  have e1 : (w.drewN nd).cell? ⟨m, 1, none⟩ = some (.slice ao P.length cap) := c1
  have HR1 : Hid (∀ i (hi : i < P.length), ∃ b off, ao = some ⟨b, off, none⟩ ∧ (w.drewN nd).cell? ⟨b, off + i * 2, none⟩ = some (.int .i64 (P[i].2.1 : Int))) := Lib.hid fun i hi => by
    obtain ⟨b, off, e, _, d0, _⟩ := HR.out i hi
    exact ⟨b, off, e, d0⟩
  generalize w.drewN nd = w1 at hb1 e1 HR1 ⊢
  have HB1 := Lib.hid hb1
  clear hb1 HR
  go_wp2
  go_loop [7] (fun i => ∃ k : Nat, i = .int .i64 (k : Int) ∧ k ≤ P.length ∧ Hid (∀ i (h : i < P.length), i < k → P[i].2.1 = i + 1)) (fun i => P.length + 1 - (intOf i).toNat)
  case atStart => exact ⟨0, rfl, Nat.zero_le _, Lib.hid fun i h h2 => by omega⟩
  case round =>
    obtain ⟨k, rfl, hk, HN⟩ := hrel
    by_cases hgo : ∃ h : k < P.length, P[k].2.1 = k + 1
    · obtain ⟨hlt, hq⟩ := hgo
      obtain ⟨b, off, rfl, d0⟩ := HR1.out k hlt
      rw [hq] at d0
      rw [show ((k + 1 : Nat) : Int) = (k : Int) + 1 by norm_cast] at d0
      have HQ : Hid (∀ i (h : i < P.length), i < k + 1 → P[i].2.1 = i + 1) := Lib.hid fun i h h2 => by
        by_cases e : i = k
        · subst e; exact hq
        · exact HN.out i h (by omega)
      have hbq : ((k : Int) + 1 == (k : Int) + 1) = true := beq_self_eq_true _
      clear hq HN
      go_wp2
      go_round
      case rel => exact ⟨k + 1, by go_num, by omega, HQ⟩
      case measure => simp [intOf]; omega
    · have HGO : Hid (∀ h : k < P.length, P[k].2.1 ≠ k + 1) := Lib.hid fun h e => hgo ⟨h, e⟩
      have hstop : k = P.length ∨ ∃ b off q2, k < P.length ∧ ao = some ⟨b, off, none⟩ ∧ w1.cell? ⟨b, off + k * 2, none⟩ = some (.int .i64 q2) ∧ (q2 == (k : Int) + 1) = false := by
        rcases Nat.lt_or_ge k P.length with h | h
        · obtain ⟨b, off, e, d0⟩ := HR1.out k h
          exact .inr ⟨b, off, _, h, e, d0, by rw [beq_eq_false_iff_ne]; have := HGO.out h; omega⟩
        · exact .inl (by omega)
      clear hgo
      obtain ⟨vt, ht1, ht2⟩ := run_takeK (P := Tryd.prog) encRw_len rw_under infoRw HRK.out (m := k) (by rw [List.length_map]; omega)
      obtain ⟨vd, hd1, hd2⟩ := run_dropK (P := Tryd.prog) encRw_len rw_under infoRw HRK.out (m := k) (by rw [List.length_map]; omega)
      have HT2 := Lib.hid ht2
      have HD2 := Lib.hid hd2
      clear ht2 hd2 hcap
      rcases hstop with hk2 | ⟨b, off, q2, hlt, rfl, d0, hq⟩
      · have hnl : ¬ ((k : Int) < (P.length : Int)) := by omega
        clear hk2
        go_wp2
        generalize hW2 : (w1.alloc (.cells (Array.replicate q (.int .u8 0)) 5)).alloc _ = W2
        obtain ⟨hB2, hbx2, hby2⟩ := alc_of HB1.out hW2.symm
        have HB2 := Lib.hid hB2
        obtain ⟨bb, hbbe⟩ : ∃ bb, w1.heap.size + 1 = bb := ⟨_, rfl⟩
        obtain ⟨r, hr⟩ : ∃ r : Rw, r = ⟨k + 1, some ⟨w1.heap.size, 0, none⟩, q, q⟩ := ⟨_, rfl⟩
        have HER : Hid (encRw r = [.int .i64 ((k : Int) + 1), .slice (some ⟨w1.heap.size, 0, none⟩) q q]) := Lib.hid (by rw [hr]; rfl)
        rw [hbbe] at hbx2 ⊢
        have hmn : m < W2.heap.size := Nat.lt_of_lt_of_le hml HB2.out.size
        have c2 : W2.cell? ⟨m, 1, none⟩ = some _ := (HB2.out.cell (p := ⟨m, 1, none⟩) hml).trans c1
        have d1 := hbx2.cell (i := 0) rfl
        have d2 := hbx2.cell (i := 1) rfl
        have hbb2 : bb < W2.heap.size := hbx2.lt
        have hm2 : m < W2.heap.size := hmn
        have HM2 := Lib.hid (HM1.out.kept (HB2.out.block m hml))
        obtain ⟨TT, hTT⟩ : ∃ T, (P.map Prod.fst).take k = T := ⟨_, rfl⟩
        obtain ⟨DD, hDD⟩ : ∃ D, (P.map Prod.fst).drop k = D := ⟨_, rfl⟩
        rw [hTT] at HT2
        rw [hDD] at HD2
        have HRT := Lib.hid (fun W' (hb : Below W2.heap.size W2 W') => (HT2.out.below HB2.out).below hb)
        have HRD := Lib.hid (fun W' (hb : Below W2.heap.size W2 W') => (HD2.out.below HB2.out).below hb)
        have hl1 : TT.length ≤ 900000 := by rw [← hTT, List.length_take, List.length_map]; omega
        have hl2 : TT.length + 1 + DD.length ≤ 900001 := by rw [← hTT, ← hDD, List.length_take, List.length_drop, List.length_map]; omega
        obtain ⟨LL, hLL⟩ : ∃ LL, TT ++ [r] ++ DD = LL := ⟨_, rfl⟩
        obtain ⟨n1, hn1⟩ : ∃ n, TT.length = n := ⟨_, rfl⟩
        obtain ⟨n3, hn3⟩ : ∃ n, (TT ++ [r]).length = n := ⟨_, rfl⟩
        obtain ⟨n4, hn4⟩ : ∃ n, (TT ++ [r] ++ DD).length = n := ⟨_, rfl⟩
        have HN1 : Hid (LL.take n1 = TT) := Lib.hid (by rw [← hLL, ← hn1, List.append_assoc, List.take_left' rfl])
        have HN3 : Hid (LL.take n3 = TT ++ [r]) := Lib.hid (by rw [← hLL, ← hn3, List.take_left' rfl])
        have HN4 : Hid (LL.take n4 = TT ++ [r] ++ DD) := Lib.hid (by rw [← hLL, ← hn4, List.take_length])
        have HP1 : Hid (TT ++ [r] <+: LL) := Lib.hid ⟨DD, hLL⟩
        have HP2 : Hid (TT ++ [r] ++ DD <+: LL) := Lib.hid ⟨[], by rw [← hLL, List.append_nil]⟩
        have HMP : Hid ((P.take k ++ (r, (k + 1, Ar.zeros q)) :: P.drop k).map Prod.fst = TT ++ [r] ++ DD) := Lib.hid (by rw [List.map_append, List.map_cons, List.map_take, List.map_drop, hTT, hDD]; simp)
        have HEA : Hid (∀ W', Below W2.heap.size W2 W' → ∀ p ∈ P.take k ++ (r, (k + 1, Ar.zeros q)) :: P.drop k, p.1.h = p.2.1 ∧ RK encC (plus x w W') p.1.v p.2.2 W') := Lib.hid fun W' hb p hp => by
          have hwW : Below w.heap.size w W' := HB2.out.trans (hb.mono HB2.out.size)
          have hold : p ∈ P → p.1.h = p.2.1 ∧ RK encC (plus x w W') p.1.v p.2.2 W' := fun hp2 => by
            have h9 := HM.out.each p hp2
            exact ⟨h9.1, (h9.2.below hwW).mono fun b hb => .inl hb⟩
          rcases List.mem_append.1 hp with h | h
          · exact hold (List.mem_of_mem_take h)
          · rcases List.mem_cons.1 h with rfl | h
            · rw [hr]
              refine ⟨rfl, ?_⟩
              have hb3 := hby2.kept (hb.block _ hby2.lt)
              exact rk_zeros hb3 (.inr ⟨HB1.out.size, hb3.lt⟩)
            · exact hold (List.mem_of_mem_drop h)
        have HIDR := Lib.hid (And.intro hr hbx2)
        clear hTT hDD hLL hn1 hn3 hn4 hmn hbbe hr hbx2 hby2 hW2 hB2 HT2 HD2 c1 c0 e1 hmk
        refine wp_region_slotsTL (by simp) (leRow1 encRw 2 52 W2.heap.size LL r) (slotPhi ((fun v _ => v = ?f46) :: (fun v W' => ∃ g, v = .slice (some ⟨g, 0, none⟩) 0 0 ∧ OwnK encRw 2 52 W2.heap.size v (LL.take 0) W') :: (fun v _ => v = ?f48) :: (fun v _ => v = ?f49) :: (fun v _ => v = ?f50) :: (fun v _ => v = ?f51) :: (fun v _ => v = ?f52) :: (fun v _ => v = ?f53) :: (fun v W' => OwnK encRw 2 52 W2.heap.size v (LL.take n1) W') :: (fun v _ => v = ?f55) :: (fun v W' => ∃ g, v = .slice (some ⟨g, 0, none⟩) 1 1 ∧ Blk W' g (encRw r) 52) :: (fun v W' => OwnK encRw 2 52 W2.heap.size v (LL.take n3) W') :: (fun v _ => v = ?f58) :: (fun v _ => v = ?f59) :: (fun v _ => v = ?f60) :: (fun v _ => v = ?f61) :: (fun v _ => v = ?f62) :: (fun v _ => v = ?f63) :: (fun v W' => OwnK encRw 2 52 W2.heap.size v (LL.take n4) W') :: (fun v _ => v = ?f65) :: (fun v _ => v = ?f66) :: [])) leRow1_refl (fun h g => leRow1_trans h g) (slotPhi_by ?stb) (by kernel_rfl) (by kernel_rfl) (by kernel_rfl) (by kernel_rfl) (by kernel_rfl) ?steps ?fin
        case stb =>
          refine ⟨by intro _ _ _ _ h; exact h, ?_⟩
          refine ⟨by intro v x y hle ⟨g, e, h⟩; exact ⟨g, e, hle.1.2 v _ h⟩, ?_⟩
          refine ⟨by intro _ _ _ _ h; exact h, ?_⟩
          refine ⟨by intro _ _ _ _ h; exact h, ?_⟩
          refine ⟨by intro _ _ _ _ h; exact h, ?_⟩
          refine ⟨by intro _ _ _ _ h; exact h, ?_⟩
          refine ⟨by intro _ _ _ _ h; exact h, ?_⟩
          refine ⟨by intro _ _ _ _ h; exact h, ?_⟩
          refine ⟨by intro v x y hle h; exact hle.1.2 v _ h, ?_⟩
          refine ⟨by intro _ _ _ _ h; exact h, ?_⟩
          refine ⟨by intro v x y hle ⟨g, e, h⟩; exact ⟨g, e, hle.2 g h⟩, ?_⟩
          refine ⟨by intro v x y hle h; exact hle.1.2 v _ h, ?_⟩
          refine ⟨by intro _ _ _ _ h; exact h, ?_⟩
          refine ⟨by intro _ _ _ _ h; exact h, ?_⟩
          refine ⟨by intro _ _ _ _ h; exact h, ?_⟩
          refine ⟨by intro _ _ _ _ h; exact h, ?_⟩
          refine ⟨by intro _ _ _ _ h; exact h, ?_⟩
          refine ⟨by intro _ _ _ _ h; exact h, ?_⟩
          refine ⟨by intro v x y hle h; exact hle.1.2 v _ h, ?_⟩
          refine ⟨by intro _ _ _ _ h; exact h, ?_⟩
          refine ⟨by intro _ _ _ _ h; exact h, ?_⟩
          exact trivial
        case steps =>
          refine ⟨?_, ?_⟩
          · intro a W K N hK
            have e0 : a.tmps[0]?.getD undef = .pointer (some ⟨m, 0, none⟩) := N.was' 0 _ (by kernel_rfl) rfl
            rw [if_pos (wanted_no rfl)]
            go_simp
            refine hK _ _ (leRow1_refl _) ?_
            exact rfl
          refine ⟨?_, ?_⟩
          · intro a W K N hK
            rw [if_pos (wanted_no rfl)]
            go_simp
            refine hK _ _ (leRow1_of ((Below.refl _ _).alloc (Nat.le_refl _) _) N.le.1.1.size) ?_
            exact ⟨_, rfl, own_lit0 W N.le.1.1.size⟩
          refine ⟨?_, ?_⟩
          · intro a W K N hK
            have e0 : a.tmps[0]?.getD undef = .pointer (some ⟨m, 0, none⟩) := N.was' 0 _ (by kernel_rfl) rfl
            rw [if_pos (wanted_no rfl)]
            go_simp
            refine hK _ _ (leRow1_refl _) ?_
            exact rfl
          refine ⟨?_, ?_⟩
          · intro a W K N hK
            have e48 : a.tmps[48]?.getD undef = _ := N.dep' 2 48 (by kernel_rfl)
            rw [if_pos (wanted_no rfl)]
            go_simp
            refine hK _ _ (leRow1_refl _) ?_
            exact rfl
          refine ⟨?_, ?_⟩
          · intro a W K N hK
            have e49 : a.tmps[49]?.getD undef = _ := N.dep' 3 49 (by kernel_rfl)
            rw [if_pos (wanted_no rfl)]
            go_simp
            refine hK _ _ (leRow1_refl _) ?_
            exact rfl
          refine ⟨?_, ?_⟩
          · intro a W K N hK
            have e50 : a.tmps[50]?.getD undef = _ := N.dep' 4 50 (by kernel_rfl)
            rw [if_pos (wanted_no rfl)]
            have z := (N.le.1.1.cell (p := ⟨m, 1, none⟩) hm2).trans c2
            go_simp
            refine hK _ _ (leRow1_refl _) ?_
            exact rfl
          refine ⟨?_, ?_⟩
          · intro a W K N hK
            have e7 : a.tmps[7]?.getD undef = .int .i64 (k : Int) := N.was' 7 _ (by kernel_rfl) rfl
            rw [if_pos (wanted_no rfl)]
            go_simp
            refine hK _ _ (leRow1_refl _) ?_
            exact rfl
          refine ⟨?_, ?_⟩
          · intro a W K N hK
            have e51 : a.tmps[51]?.getD undef = _ := N.dep' 5 51 (by kernel_rfl)
            have e52 : a.tmps[52]?.getD undef = _ := N.dep' 6 52 (by kernel_rfl)
            rw [if_pos (wanted_no rfl)]
            go_simp
            refine hK _ _ (leRow1_refl _) ?_
            exact rfl
          refine ⟨?_, ?_⟩
          · intro a W K N hK
            have e47 := Lib.hid (show (fun v W' => ∃ g, v = .slice (some ⟨g, 0, none⟩) 0 0 ∧ OwnK encRw 2 52 W2.heap.size v (LL.take 0) W') (a.tmps[47]?.getD undef) W from N.dep' 1 47 (by kernel_rfl))
            have e53 : a.tmps[53]?.getD undef = _ := N.dep' 7 53 (by kernel_rfl)
            rw [if_pos (wanted_no rfl)]
            refine wp_litRK (base := W2.heap.size) encRw_len (by omega) rw_under infoRw rfl (by omega) (.tmp 47) (.tmp 53) rfl (by obtain ⟨g, e, h⟩ := e47.out; exact ⟨g, (eval_tmp a 47).trans e, by rw [e] at h; exact h⟩) _ TT ((eval_tmp a 53).trans e53) (HRT.out _ (below_undr N.le.1.1)) (by omega) N.le.1.1.size ?_
            intro v5 w5 ho5 hle5
            refine hK _ _ (leRow1_of hle5 N.le.1.1.size) ?_
            exact HN1.out ▸ ho5
          refine ⟨?_, ?_⟩
          · intro a W K N hK
            have e8 : a.tmps[8]?.getD undef = .pointer (some ⟨bb, 0, none⟩) := N.was' 8 _ (by kernel_rfl) rfl
            rw [if_pos (wanted_no rfl)]
            have z0 := (N.le.1.1.cell (p := ⟨bb, 0, none⟩) hbb2).trans d1
            have z1 := (N.le.1.1.cell (p := ⟨bb, 1, none⟩) hbb2).trans d2
            go_simp
            refine hK _ _ (leRow1_refl _) ?_
            exact rfl
          refine ⟨?_, ?_⟩
          · intro a W K N hK
            have e55 : a.tmps[55]?.getD undef = _ := N.dep' 9 55 (by kernel_rfl)
            rw [if_pos (wanted_no rfl)]
            go_simp
            refine hK _ _ (leRow1_of ((Below.refl _ _).alloc (Nat.le_refl _) _) N.le.1.1.size) ?_
            exact ⟨_, rfl, by rw [HER.out]; exact Blk.new W _ _⟩
          refine ⟨?_, ?_⟩
          · intro a W K N hK
            have e54 := Lib.hid (show (fun v W' => OwnK encRw 2 52 W2.heap.size v (LL.take n1) W') (a.tmps[54]?.getD undef) W from N.dep' 8 54 (by kernel_rfl))
            have e56 := Lib.hid (show (fun v W' => ∃ g, v = .slice (some ⟨g, 0, none⟩) 1 1 ∧ Blk W' g (encRw r) 52) (a.tmps[56]?.getD undef) W from N.dep' 10 56 (by kernel_rfl))
            rw [if_pos (wanted_no rfl)]
            obtain ⟨g6, e6, hb6⟩ := e56.out
            refine wp_apKeep (L := LL) (base := W2.heap.size) encRw_len (by omega) encRw_one rw_under infoRw rfl (by omega) (.tmp 54) (.tmp 56) rfl _ (TT) (eval_tmp a 54) (by exact (HN1.out ▸ e54.out)) _ ([r]) ((eval_tmp a 56).trans e6) (RK.blk hb6) (by first | omega | (simp only [List.length_singleton]; omega)) N.le.1.1.size HP1.out ?_
            intro v5 w5 ho5 hle5 hlit5
            refine hK _ _ ⟨hle5, fun g hB => hlit5 r (fun _ b hb => by cases hb; rfl) g hB⟩ ?_
            exact HN3.out ▸ ho5
          refine ⟨?_, ?_⟩
          · intro a W K N hK
            have e0 : a.tmps[0]?.getD undef = .pointer (some ⟨m, 0, none⟩) := N.was' 0 _ (by kernel_rfl) rfl
            rw [if_pos (wanted_no rfl)]
            go_simp
            refine hK _ _ (leRow1_refl _) ?_
            exact rfl
          refine ⟨?_, ?_⟩
          · intro a W K N hK
            have e58 : a.tmps[58]?.getD undef = _ := N.dep' 12 58 (by kernel_rfl)
            rw [if_pos (wanted_no rfl)]
            go_simp
            refine hK _ _ (leRow1_refl _) ?_
            exact rfl
          refine ⟨?_, ?_⟩
          · intro a W K N hK
            have e59 : a.tmps[59]?.getD undef = _ := N.dep' 13 59 (by kernel_rfl)
            rw [if_pos (wanted_no rfl)]
            go_simp
            refine hK _ _ (leRow1_refl _) ?_
            exact rfl
          refine ⟨?_, ?_⟩
          · intro a W K N hK
            have e60 : a.tmps[60]?.getD undef = _ := N.dep' 14 60 (by kernel_rfl)
            rw [if_pos (wanted_no rfl)]
            have z := (N.le.1.1.cell (p := ⟨m, 1, none⟩) hm2).trans c2
            go_simp
            refine hK _ _ (leRow1_refl _) ?_
            exact rfl
          refine ⟨?_, ?_⟩
          · intro a W K N hK
            have e7 : a.tmps[7]?.getD undef = .int .i64 (k : Int) := N.was' 7 _ (by kernel_rfl) rfl
            rw [if_pos (wanted_no rfl)]
            go_simp
            refine hK _ _ (leRow1_refl _) ?_
            exact rfl
          refine ⟨?_, ?_⟩
          · intro a W K N hK
            have e61 : a.tmps[61]?.getD undef = _ := N.dep' 15 61 (by kernel_rfl)
            have e62 : a.tmps[62]?.getD undef = _ := N.dep' 16 62 (by kernel_rfl)
            rw [if_pos (wanted_no rfl)]
            go_simp
            refine hK _ _ (leRow1_refl _) ?_
            exact rfl
          refine ⟨?_, ?_⟩
          · intro a W K N hK
            have e57 := Lib.hid (show (fun v W' => OwnK encRw 2 52 W2.heap.size v (LL.take n3) W') (a.tmps[57]?.getD undef) W from N.dep' 11 57 (by kernel_rfl))
            have e63 : a.tmps[63]?.getD undef = _ := N.dep' 17 63 (by kernel_rfl)
            rw [if_pos (wanted_no rfl)]
            refine wp_apKeep (L := LL) (base := W2.heap.size) encRw_len (by omega) encRw_one rw_under infoRw rfl (by omega) (.tmp 57) (.tmp 63) rfl _ (TT ++ [r]) (eval_tmp a 57) (by exact (HN3.out ▸ e57.out)) _ (DD) ((eval_tmp a 63).trans e63) (HRD.out _ (below_undr N.le.1.1)) (by first | omega | (simp only [List.length_append, List.length_singleton]; omega)) N.le.1.1.size HP2.out ?_
            intro v5 w5 ho5 hle5 hlit5
            refine hK _ _ ⟨hle5, fun g hB => hlit5 r (fun h => absurd h (by simp)) g hB⟩ ?_
            exact HN4.out ▸ ho5
          refine ⟨?_, ?_⟩
          · intro a W K N hK
            have e46 : a.tmps[46]?.getD undef = _ := N.dep' 0 46 (by kernel_rfl)
            rw [if_pos (wanted_no rfl)]
            go_simp
            refine hK _ _ (leRow1_refl _) ?_
            exact rfl
          refine ⟨?_, ?_⟩
          · intro a W K N hK
            have e65 : a.tmps[65]?.getD undef = _ := N.dep' 19 65 (by kernel_rfl)
            rw [if_pos (wanted_no rfl)]
            go_simp
            refine hK _ _ (leRow1_refl _) ?_
            exact rfl
          exact trivial
        case fin =>
          intro V hV
          simp only [FinAll, slotPhi, List.dropLast, List.getLast_cons_cons, List.getLast_singleton, List.getD_cons_zero, List.getD_cons_succ, forall_eq, Act.put, List.setIfInBounds_toArray, List.set_cons_zero, List.set_cons_succ]
          intro v47 h47
          intro v54 h54
          intro v56 h56
          intro v57 h57
          intro v64 h64
          have hVb := below_undr hV.1.1
          have cl := (hVb.cell (p := ⟨m, 1, none⟩) hm2).trans c2
          have fz := (HM2.out.kept (hVb.block m hm2)).frozen 1
          rw [HN4.out, ← HMP.out] at h64
          have H64 := Lib.hid h64
          obtain ⟨a5, n5, c5, e5⟩ : ∃ a n c, v64 = .slice a n c := by obtain ⟨a5, c5, e5, _⟩ := ownK_form h64; exact ⟨_, _, _, e5⟩
          subst e5
          have HVB := Lib.hid (HB2.out.trans (hVb.mono HB2.out.size))
          have HEV := Lib.hid (HEA.out V hVb)
          clear hV hVb h47 h54 h56 h57 h64
          go_wp2
          go_ret2
          exact .inr (.inr ⟨HZ.out.1, HZ.out.2, k, r, hk, HN.out, HGO.out, rfl, HM.out.put HVB.out (World.ownsRow.mono H64.out HB2.out.size) HEV.out⟩)
          
      · go_wp2
        generalize hW2 : (w1.alloc (.cells (Array.replicate q (.int .u8 0)) 5)).alloc _ = W2
        obtain ⟨hB2, hbx2, hby2⟩ := alc_of HB1.out hW2.symm
        have HB2 := Lib.hid hB2
        obtain ⟨bb, hbbe⟩ : ∃ bb, w1.heap.size + 1 = bb := ⟨_, rfl⟩
        obtain ⟨r, hr⟩ : ∃ r : Rw, r = ⟨k + 1, some ⟨w1.heap.size, 0, none⟩, q, q⟩ := ⟨_, rfl⟩
        have HER : Hid (encRw r = [.int .i64 ((k : Int) + 1), .slice (some ⟨w1.heap.size, 0, none⟩) q q]) := Lib.hid (by rw [hr]; rfl)
        rw [hbbe] at hbx2 ⊢
        have hmn : m < W2.heap.size := Nat.lt_of_lt_of_le hml HB2.out.size
        have c2 : W2.cell? ⟨m, 1, none⟩ = some _ := (HB2.out.cell (p := ⟨m, 1, none⟩) hml).trans c1
        have d1 := hbx2.cell (i := 0) rfl
        have d2 := hbx2.cell (i := 1) rfl
        have hbb2 : bb < W2.heap.size := hbx2.lt
        have hm2 : m < W2.heap.size := hmn
        have HM2 := Lib.hid (HM1.out.kept (HB2.out.block m hml))
        obtain ⟨TT, hTT⟩ : ∃ T, (P.map Prod.fst).take k = T := ⟨_, rfl⟩
        obtain ⟨DD, hDD⟩ : ∃ D, (P.map Prod.fst).drop k = D := ⟨_, rfl⟩
        rw [hTT] at HT2
        rw [hDD] at HD2
        have HRT := Lib.hid (fun W' (hb : Below W2.heap.size W2 W') => (HT2.out.below HB2.out).below hb)
        have HRD := Lib.hid (fun W' (hb : Below W2.heap.size W2 W') => (HD2.out.below HB2.out).below hb)
        have hl1 : TT.length ≤ 900000 := by rw [← hTT, List.length_take, List.length_map]; omega
        have hl2 : TT.length + 1 + DD.length ≤ 900001 := by rw [← hTT, ← hDD, List.length_take, List.length_drop, List.length_map]; omega
        obtain ⟨LL, hLL⟩ : ∃ LL, TT ++ [r] ++ DD = LL := ⟨_, rfl⟩
        obtain ⟨n1, hn1⟩ : ∃ n, TT.length = n := ⟨_, rfl⟩
        obtain ⟨n3, hn3⟩ : ∃ n, (TT ++ [r]).length = n := ⟨_, rfl⟩
        obtain ⟨n4, hn4⟩ : ∃ n, (TT ++ [r] ++ DD).length = n := ⟨_, rfl⟩
        have HN1 : Hid (LL.take n1 = TT) := Lib.hid (by rw [← hLL, ← hn1, List.append_assoc, List.take_left' rfl])
        have HN3 : Hid (LL.take n3 = TT ++ [r]) := Lib.hid (by rw [← hLL, ← hn3, List.take_left' rfl])
        have HN4 : Hid (LL.take n4 = TT ++ [r] ++ DD) := Lib.hid (by rw [← hLL, ← hn4, List.take_length])
        have HP1 : Hid (TT ++ [r] <+: LL) := Lib.hid ⟨DD, hLL⟩
        have HP2 : Hid (TT ++ [r] ++ DD <+: LL) := Lib.hid ⟨[], by rw [← hLL, List.append_nil]⟩
        have HMP : Hid ((P.take k ++ (r, (k + 1, Ar.zeros q)) :: P.drop k).map Prod.fst = TT ++ [r] ++ DD) := Lib.hid (by rw [List.map_append, List.map_cons, List.map_take, List.map_drop, hTT, hDD]; simp)
        have HEA : Hid (∀ W', Below W2.heap.size W2 W' → ∀ p ∈ P.take k ++ (r, (k + 1, Ar.zeros q)) :: P.drop k, p.1.h = p.2.1 ∧ RK encC (plus x w W') p.1.v p.2.2 W') := Lib.hid fun W' hb p hp => by
          have hwW : Below w.heap.size w W' := HB2.out.trans (hb.mono HB2.out.size)
          have hold : p ∈ P → p.1.h = p.2.1 ∧ RK encC (plus x w W') p.1.v p.2.2 W' := fun hp2 => by
            have h9 := HM.out.each p hp2
            exact ⟨h9.1, (h9.2.below hwW).mono fun b hb => .inl hb⟩
          rcases List.mem_append.1 hp with h | h
          · exact hold (List.mem_of_mem_take h)
          · rcases List.mem_cons.1 h with rfl | h
            · rw [hr]
              refine ⟨rfl, ?_⟩
              have hb3 := hby2.kept (hb.block _ hby2.lt)
              exact rk_zeros hb3 (.inr ⟨HB1.out.size, hb3.lt⟩)
            · exact hold (List.mem_of_mem_drop h)
        have HIDR := Lib.hid (And.intro hr hbx2)
        clear hTT hDD hLL hn1 hn3 hn4 hmn hbbe hr hbx2 hby2 hW2 hB2 HT2 HD2 c1 c0 e1 hmk
        refine wp_region_slotsTL (by simp) (leRow1 encRw 2 52 W2.heap.size LL r) (slotPhi ((fun v _ => v = ?g46) :: (fun v W' => ∃ g, v = .slice (some ⟨g, 0, none⟩) 0 0 ∧ OwnK encRw 2 52 W2.heap.size v (LL.take 0) W') :: (fun v _ => v = ?g48) :: (fun v _ => v = ?g49) :: (fun v _ => v = ?g50) :: (fun v _ => v = ?g51) :: (fun v _ => v = ?g52) :: (fun v _ => v = ?g53) :: (fun v W' => OwnK encRw 2 52 W2.heap.size v (LL.take n1) W') :: (fun v _ => v = ?g55) :: (fun v W' => ∃ g, v = .slice (some ⟨g, 0, none⟩) 1 1 ∧ Blk W' g (encRw r) 52) :: (fun v W' => OwnK encRw 2 52 W2.heap.size v (LL.take n3) W') :: (fun v _ => v = ?g58) :: (fun v _ => v = ?g59) :: (fun v _ => v = ?g60) :: (fun v _ => v = ?g61) :: (fun v _ => v = ?g62) :: (fun v _ => v = ?g63) :: (fun v W' => OwnK encRw 2 52 W2.heap.size v (LL.take n4) W') :: (fun v _ => v = ?g65) :: (fun v _ => v = ?g66) :: [])) leRow1_refl (fun h g => leRow1_trans h g) (slotPhi_by ?stb) (by kernel_rfl) (by kernel_rfl) (by kernel_rfl) (by kernel_rfl) (by kernel_rfl) ?steps ?fin
        case stb =>
          refine ⟨by intro _ _ _ _ h; exact h, ?_⟩
          refine ⟨by intro v x y hle ⟨g, e, h⟩; exact ⟨g, e, hle.1.2 v _ h⟩, ?_⟩
          refine ⟨by intro _ _ _ _ h; exact h, ?_⟩
          refine ⟨by intro _ _ _ _ h; exact h, ?_⟩
          refine ⟨by intro _ _ _ _ h; exact h, ?_⟩
          refine ⟨by intro _ _ _ _ h; exact h, ?_⟩
          refine ⟨by intro _ _ _ _ h; exact h, ?_⟩
          refine ⟨by intro _ _ _ _ h; exact h, ?_⟩
          refine ⟨by intro v x y hle h; exact hle.1.2 v _ h, ?_⟩
          refine ⟨by intro _ _ _ _ h; exact h, ?_⟩
          refine ⟨by intro v x y hle ⟨g, e, h⟩; exact ⟨g, e, hle.2 g h⟩, ?_⟩
          refine ⟨by intro v x y hle h; exact hle.1.2 v _ h, ?_⟩
          refine ⟨by intro _ _ _ _ h; exact h, ?_⟩
          refine ⟨by intro _ _ _ _ h; exact h, ?_⟩
          refine ⟨by intro _ _ _ _ h; exact h, ?_⟩
          refine ⟨by intro _ _ _ _ h; exact h, ?_⟩
          refine ⟨by intro _ _ _ _ h; exact h, ?_⟩
          refine ⟨by intro _ _ _ _ h; exact h, ?_⟩
          refine ⟨by intro v x y hle h; exact hle.1.2 v _ h, ?_⟩
          refine ⟨by intro _ _ _ _ h; exact h, ?_⟩
          refine ⟨by intro _ _ _ _ h; exact h, ?_⟩
          exact trivial
        case steps =>
          refine ⟨?_, ?_⟩
          · intro a W K N hK
            have e0 : a.tmps[0]?.getD undef = .pointer (some ⟨m, 0, none⟩) := N.was' 0 _ (by kernel_rfl) rfl
            rw [if_pos (wanted_no rfl)]
            go_simp
            refine hK _ _ (leRow1_refl _) ?_
            exact rfl
          refine ⟨?_, ?_⟩
          · intro a W K N hK
            rw [if_pos (wanted_no rfl)]
            go_simp
            refine hK _ _ (leRow1_of ((Below.refl _ _).alloc (Nat.le_refl _) _) N.le.1.1.size) ?_
            exact ⟨_, rfl, own_lit0 W N.le.1.1.size⟩
          refine ⟨?_, ?_⟩
          · intro a W K N hK
            have e0 : a.tmps[0]?.getD undef = .pointer (some ⟨m, 0, none⟩) := N.was' 0 _ (by kernel_rfl) rfl
            rw [if_pos (wanted_no rfl)]
            go_simp
            refine hK _ _ (leRow1_refl _) ?_
            exact rfl
          refine ⟨?_, ?_⟩
          · intro a W K N hK
            have e48 : a.tmps[48]?.getD undef = _ := N.dep' 2 48 (by kernel_rfl)
            rw [if_pos (wanted_no rfl)]
            go_simp
            refine hK _ _ (leRow1_refl _) ?_
            exact rfl
          refine ⟨?_, ?_⟩
          · intro a W K N hK
            have e49 : a.tmps[49]?.getD undef = _ := N.dep' 3 49 (by kernel_rfl)
            rw [if_pos (wanted_no rfl)]
            go_simp
            refine hK _ _ (leRow1_refl _) ?_
            exact rfl
          refine ⟨?_, ?_⟩
          · intro a W K N hK
            have e50 : a.tmps[50]?.getD undef = _ := N.dep' 4 50 (by kernel_rfl)
            rw [if_pos (wanted_no rfl)]
            have z := (N.le.1.1.cell (p := ⟨m, 1, none⟩) hm2).trans c2
            go_simp
            refine hK _ _ (leRow1_refl _) ?_
            exact rfl
          refine ⟨?_, ?_⟩
          · intro a W K N hK
            have e7 : a.tmps[7]?.getD undef = .int .i64 (k : Int) := N.was' 7 _ (by kernel_rfl) rfl
            rw [if_pos (wanted_no rfl)]
            go_simp
            refine hK _ _ (leRow1_refl _) ?_
            exact rfl
          refine ⟨?_, ?_⟩
          · intro a W K N hK
            have e51 : a.tmps[51]?.getD undef = _ := N.dep' 5 51 (by kernel_rfl)
            have e52 : a.tmps[52]?.getD undef = _ := N.dep' 6 52 (by kernel_rfl)
            rw [if_pos (wanted_no rfl)]
            go_simp
            refine hK _ _ (leRow1_refl _) ?_
            exact rfl
          refine ⟨?_, ?_⟩
          · intro a W K N hK
            have e47 := Lib.hid (show (fun v W' => ∃ g, v = .slice (some ⟨g, 0, none⟩) 0 0 ∧ OwnK encRw 2 52 W2.heap.size v (LL.take 0) W') (a.tmps[47]?.getD undef) W from N.dep' 1 47 (by kernel_rfl))
            have e53 : a.tmps[53]?.getD undef = _ := N.dep' 7 53 (by kernel_rfl)
            rw [if_pos (wanted_no rfl)]
            refine wp_litRK (base := W2.heap.size) encRw_len (by omega) rw_under infoRw rfl (by omega) (.tmp 47) (.tmp 53) rfl (by obtain ⟨g, e, h⟩ := e47.out; exact ⟨g, (eval_tmp a 47).trans e, by rw [e] at h; exact h⟩) _ TT ((eval_tmp a 53).trans e53) (HRT.out _ (below_undr N.le.1.1)) (by omega) N.le.1.1.size ?_
            intro v5 w5 ho5 hle5
            refine hK _ _ (leRow1_of hle5 N.le.1.1.size) ?_
            exact HN1.out ▸ ho5
          refine ⟨?_, ?_⟩
          · intro a W K N hK
            have e8 : a.tmps[8]?.getD undef = .pointer (some ⟨bb, 0, none⟩) := N.was' 8 _ (by kernel_rfl) rfl
            rw [if_pos (wanted_no rfl)]
            have z0 := (N.le.1.1.cell (p := ⟨bb, 0, none⟩) hbb2).trans d1
            have z1 := (N.le.1.1.cell (p := ⟨bb, 1, none⟩) hbb2).trans d2
            go_simp
            refine hK _ _ (leRow1_refl _) ?_
            exact rfl
          refine ⟨?_, ?_⟩
          · intro a W K N hK
            have e55 : a.tmps[55]?.getD undef = _ := N.dep' 9 55 (by kernel_rfl)
            rw [if_pos (wanted_no rfl)]
            go_simp
            refine hK _ _ (leRow1_of ((Below.refl _ _).alloc (Nat.le_refl _) _) N.le.1.1.size) ?_
            exact ⟨_, rfl, by rw [HER.out]; exact Blk.new W _ _⟩
          refine ⟨?_, ?_⟩
          · intro a W K N hK
            have e54 := Lib.hid (show (fun v W' => OwnK encRw 2 52 W2.heap.size v (LL.take n1) W') (a.tmps[54]?.getD undef) W from N.dep' 8 54 (by kernel_rfl))
            have e56 := Lib.hid (show (fun v W' => ∃ g, v = .slice (some ⟨g, 0, none⟩) 1 1 ∧ Blk W' g (encRw r) 52) (a.tmps[56]?.getD undef) W from N.dep' 10 56 (by kernel_rfl))
            rw [if_pos (wanted_no rfl)]
            obtain ⟨g6, e6, hb6⟩ := e56.out
            refine wp_apKeep (L := LL) (base := W2.heap.size) encRw_len (by omega) encRw_one rw_under infoRw rfl (by omega) (.tmp 54) (.tmp 56) rfl _ (TT) (eval_tmp a 54) (by exact (HN1.out ▸ e54.out)) _ ([r]) ((eval_tmp a 56).trans e6) (RK.blk hb6) (by first | omega | (simp only [List.length_singleton]; omega)) N.le.1.1.size HP1.out ?_
            intro v5 w5 ho5 hle5 hlit5
            refine hK _ _ ⟨hle5, fun g hB => hlit5 r (fun _ b hb => by cases hb; rfl) g hB⟩ ?_
            exact HN3.out ▸ ho5
          refine ⟨?_, ?_⟩
          · intro a W K N hK
            have e0 : a.tmps[0]?.getD undef = .pointer (some ⟨m, 0, none⟩) := N.was' 0 _ (by kernel_rfl) rfl
            rw [if_pos (wanted_no rfl)]
            go_simp
            refine hK _ _ (leRow1_refl _) ?_
            exact rfl
          refine ⟨?_, ?_⟩
          · intro a W K N hK
            have e58 : a.tmps[58]?.getD undef = _ := N.dep' 12 58 (by kernel_rfl)
            rw [if_pos (wanted_no rfl)]
            go_simp
            refine hK _ _ (leRow1_refl _) ?_
            exact rfl
          refine ⟨?_, ?_⟩
          · intro a W K N hK
            have e59 : a.tmps[59]?.getD undef = _ := N.dep' 13 59 (by kernel_rfl)
            rw [if_pos (wanted_no rfl)]
            go_simp
            refine hK _ _ (leRow1_refl _) ?_
            exact rfl
          refine ⟨?_, ?_⟩
          · intro a W K N hK
            have e60 : a.tmps[60]?.getD undef = _ := N.dep' 14 60 (by kernel_rfl)
            rw [if_pos (wanted_no rfl)]
            have z := (N.le.1.1.cell (p := ⟨m, 1, none⟩) hm2).trans c2
            go_simp
            refine hK _ _ (leRow1_refl _) ?_
            exact rfl
          refine ⟨?_, ?_⟩
          · intro a W K N hK
            have e7 : a.tmps[7]?.getD undef = .int .i64 (k : Int) := N.was' 7 _ (by kernel_rfl) rfl
            rw [if_pos (wanted_no rfl)]
            go_simp
            refine hK _ _ (leRow1_refl _) ?_
            exact rfl
          refine ⟨?_, ?_⟩
          · intro a W K N hK
            have e61 : a.tmps[61]?.getD undef = _ := N.dep' 15 61 (by kernel_rfl)
            have e62 : a.tmps[62]?.getD undef = _ := N.dep' 16 62 (by kernel_rfl)
            rw [if_pos (wanted_no rfl)]
            go_simp
            refine hK _ _ (leRow1_refl _) ?_
            exact rfl
          refine ⟨?_, ?_⟩
          · intro a W K N hK
            have e57 := Lib.hid (show (fun v W' => OwnK encRw 2 52 W2.heap.size v (LL.take n3) W') (a.tmps[57]?.getD undef) W from N.dep' 11 57 (by kernel_rfl))
            have e63 : a.tmps[63]?.getD undef = _ := N.dep' 17 63 (by kernel_rfl)
            rw [if_pos (wanted_no rfl)]
            refine wp_apKeep (L := LL) (base := W2.heap.size) encRw_len (by omega) encRw_one rw_under infoRw rfl (by omega) (.tmp 57) (.tmp 63) rfl _ (TT ++ [r]) (eval_tmp a 57) (by exact (HN3.out ▸ e57.out)) _ (DD) ((eval_tmp a 63).trans e63) (HRD.out _ (below_undr N.le.1.1)) (by first | omega | (simp only [List.length_append, List.length_singleton]; omega)) N.le.1.1.size HP2.out ?_
            intro v5 w5 ho5 hle5 hlit5
            refine hK _ _ ⟨hle5, fun g hB => hlit5 r (fun h => absurd h (by simp)) g hB⟩ ?_
            exact HN4.out ▸ ho5
          refine ⟨?_, ?_⟩
          · intro a W K N hK
            have e46 : a.tmps[46]?.getD undef = _ := N.dep' 0 46 (by kernel_rfl)
            rw [if_pos (wanted_no rfl)]
            go_simp
            refine hK _ _ (leRow1_refl _) ?_
            exact rfl
          refine ⟨?_, ?_⟩
          · intro a W K N hK
            have e65 : a.tmps[65]?.getD undef = _ := N.dep' 19 65 (by kernel_rfl)
            rw [if_pos (wanted_no rfl)]
            go_simp
            refine hK _ _ (leRow1_refl _) ?_
            exact rfl
          exact trivial
        case fin =>
          intro V hV
          simp only [FinAll, slotPhi, List.dropLast, List.getLast_cons_cons, List.getLast_singleton, List.getD_cons_zero, List.getD_cons_succ, forall_eq, Act.put, List.setIfInBounds_toArray, List.set_cons_zero, List.set_cons_succ]
          intro v47 h47
          intro v54 h54
          intro v56 h56
          intro v57 h57
          intro v64 h64
          have hVb := below_undr hV.1.1
          have cl := (hVb.cell (p := ⟨m, 1, none⟩) hm2).trans c2
          have fz := (HM2.out.kept (hVb.block m hm2)).frozen 1
          rw [HN4.out, ← HMP.out] at h64
          have H64 := Lib.hid h64
          obtain ⟨a5, n5, c5, e5⟩ : ∃ a n c, v64 = .slice a n c := by obtain ⟨a5, c5, e5, _⟩ := ownK_form h64; exact ⟨_, _, _, e5⟩
          subst e5
          have HVB := Lib.hid (HB2.out.trans (hVb.mono HB2.out.size))
          have HEV := Lib.hid (HEA.out V hVb)
          clear hV hVb h47 h54 h56 h57 h64
          go_wp2
          go_ret2
          exact .inr (.inr ⟨HZ.out.1, HZ.out.2, k, r, hk, HN.out, HGO.out, rfl, HM.out.put HVB.out (World.ownsRow.mono H64.out HB2.out.size) HEV.out⟩)
          
end Go.Proofs.YtagjjpmhacknpaaDoor
