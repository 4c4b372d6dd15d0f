/- Less. -/
import Derived.Test.YtiodfiegknkceaaDoorSeqInt
namespace Go.Proofs.YtiodfiegknkceaaDoor
open Go.RowKit Go.Shelf
attribute [local go_sem] Oper.semAt_some

theorem own_slice {α : Type} {enc : α → Value} {e base : Nat} {v : Value} {L : List α} {W : World} (h : OwnE enc e base v L W) : ∃ ao cap, v = .slice ao L.length cap ∧ ∀ j (hj : j < L.length), ∃ g, ao = some ⟨g, 0, none⟩ ∧ W.cell? ⟨g, 0 + j, none⟩ = some (enc L[j]) := by
  rcases ownE_form h with ⟨rfl, rfl⟩ | ⟨g, cap, rfl⟩
  · exact ⟨none, 0, rfl, fun j hj => by simp at hj⟩
  · exact ⟨some ⟨g, 0, none⟩, cap, rfl, fun j hj => ⟨g, rfl, ownE_cell h hj⟩⟩

theorem labelAt_any {n : List UInt8} (hs : n.length ≤ 100000) {i : Nat} (hi : i < (Nm.placesN n).length) (W : World) :
    Calls Tryd.prog 48 #[.string ⟨n.toArray⟩, .int .i64 (((Nm.placesN n)[i] : Nat) : Int)] W fun e w' => e = .returned (.string ⟨((Nm.labsD n)[i]'(by rw [← Nm.places_length]; exact hi)).toArray⟩) ∧ w' = W := by
  obtain ⟨h1, h2⟩ := Nm.places_ok (List.getElem_mem hi)
  rw [← Nm.lab_get hi, Nm.labAt_of h1]
  exact (label_any n _ W hs h1 h2).mono fun _ _ ⟨a, b⟩ => ⟨a, b.symm⟩

theorem Drew.cell {w w' : World} (h : Drew w w') (a : Addr) : w'.cell? a = w.cell? a := by
  obtain ⟨n, rfl⟩ := h
  rfl
structure LabFact (n : List UInt8) (x : Int) (l : List UInt8) : Prop where
  out : ∀ W, Calls Tryd.prog 48 #[.string ⟨n.toArray⟩, .int .i64 x] W fun e w' => e = .returned (.string ⟨l.toArray⟩) ∧ w' = W
theorem labFact_quiet {n l : List UInt8} {x : Int} {r k : Nat} {w : World} (h : LabFact n x l) : CallsIn Fence.wide r Tryd.prog 48 #[.string ⟨n.toArray⟩, .int .i64 x] (w.drewN k) fun e w'' => e = .returned (.string ⟨l.toArray⟩) ∧ ∃ m, w'' = w.drewN m :=
  CallsIn.quiet_of_same (callsIn_wide.2 (h.out _))

set_option maxRecDepth 100000 in
set_option maxHeartbeats 8000000 in
theorem less_any (a b : List UInt8) (w : World) (ha : a.length ≤ 100000) (hb : b.length ≤ 100000) :
    Calls Tryd.prog 32 #[.string ⟨a.toArray⟩, .string ⟨b.toArray⟩] w fun e w' => e = .returned (.bool (Nm.less a b)) ∧ Below w.heap.size w w' := by
  cases hva : Nm.valid a
  · have H := Lib.hid (show Nm.less a b = false by simp [Nm.less, hva])
    have HA := Lib.hid hva
    clear hva
    go_enter Tryd.func32, Tryd.ntmps32
    go_wp2_with (go_at_call 15; (with_reducible refine (valid_any a _ ha).mono ?_); rw [HA.out]; rintro e w' ⟨rfl, rfl⟩)
    go_ret
    exact ⟨ret_bool H.out.symm, Below.refl _ _⟩
  cases hvb : Nm.valid b
  · have H := Lib.hid (show Nm.less a b = false by simp [Nm.less, hvb])
    have HA := Lib.hid hva
    have HB := Lib.hid hvb
    clear hva hvb
    go_enter Tryd.func32, Tryd.ntmps32
    go_wp2_with (go_at_call 15; first | ((with_reducible refine (valid_any a _ ha).mono ?_); rw [HA.out]; rintro e w' ⟨rfl, rfl⟩) | ((with_reducible refine (valid_any b _ hb).mono ?_); rw [HB.out]; rintro e w' ⟨rfl, rfl⟩))
    go_ret
    exact ⟨ret_bool H.out.symm, Below.refl _ _⟩
  have H := Lib.hid (show Nm.less a b = Nm.lessR (Nm.labsD a).reverse (Nm.labsD b).reverse by simp [Nm.less, hva, hvb])
  have HA := Lib.hid hva
  have HB := Lib.hid hvb
  clear hva hvb
  refine (callsIn_wide (n := 9)).1 ?_
  refine callsIn_of_wp Tryd.func32 rfl trivial ?_ rfl
  simp only [Tryd.ntmps32, List.size_toArray, List.length_cons, List.length_nil, Nat.reduceAdd, Nat.reduceSub, Array.replicate_succ, Array.replicate_zero, List.push_toArray, List.append_toArray, List.nil_append, List.cons_append]
  obtain ⟨cur, hmk, hcs⟩ := run_make0_all (P := Tryd.prog) Tryd.underlying47 infoInt 127 (by omega) (by omega) rfl
  have hmk' : ∀ W : World, (Instr.makeSlice 47 (.int .i64 0) (.int .i64 127)).run Tryd.prog W = .ok (.slice (some ⟨W.heap.size, 0, none⟩) 0 127) (W.alloc (.cells cur 3)) := hmk
  have hmade : ∀ (W : World) (base : Nat), base ≤ W.heap.size → OwnE encI 3 base (.slice (some ⟨W.heap.size, 0, none⟩) 0 127) [] (W.alloc (.cells cur 3)) := fun W base h => World.ownsRow_made W cur 127 h (by unfold maxLen; omega) hcs
  have PA := Lib.hid (show ∀ (W : World) (n : List UInt8) (base : Nat), base ≤ W.heap.size → OwnE encI 3 base (.slice (some ⟨W.heap.size, 0, none⟩) 0 127) [] (((W.alloc (.cells cur 3)).alloc (.cells #[.string ⟨n.toArray⟩] 9)).drew) ∧ Boxed (((W.alloc (.cells cur 3)).alloc (.cells #[.string ⟨n.toArray⟩] 9)).drew) (W.heap.size + 1) 9 (.string ⟨n.toArray⟩) from fun W n base h =>
    ⟨ownE_alloc (hmade W base h) _, by have := Boxed.new (W.alloc (.cells cur 3)) 9 (.string ⟨n.toArray⟩); rw [World.size_alloc] at this; exact this⟩)
  have PB := Lib.hid (show ∀ (W : World) (n : List UInt8) (base : Nat), base ≤ W.heap.size → OwnE encI 3 base (.slice (some ⟨W.heap.size + 1, 0, none⟩) 0 127) [] (((W.alloc (.cells #[.string ⟨n.toArray⟩] 9)).alloc (.cells cur 3)).drew) ∧ Boxed (((W.alloc (.cells #[.string ⟨n.toArray⟩] 9)).alloc (.cells cur 3)).drew) W.heap.size 9 (.string ⟨n.toArray⟩) from fun W n base h =>
    ⟨by have := hmade (W.alloc (.cells #[.string ⟨n.toArray⟩] 9)) base (by simp; omega); rw [World.size_alloc] at this; exact this, (Boxed.new W 9 (.string ⟨n.toArray⟩)).alloc _⟩)
  clear hmade
  clear hmk hcs
  have hF0 : Fence.wide.fn 15 := trivial
  have hF1 : Fence.wide.fn 40 := trivial
  have hF2 : Fence.wide.fn 47 := trivial
  have hF3 : Fence.wide.fn 48 := trivial
  have hF4 : Fence.wide.fn 46 := trivial
  have hmx : Tryd.prog.follows .mixedOrders = true := by kernel_rfl
  gi_wp2_with (gi_at_call 15; first | ((with_reducible refine (callsIn_wide.2 (valid_any a _ ha)).mono ?_); rw [HA.out]; rintro e w' ⟨rfl, rfl⟩) | ((with_reducible refine (callsIn_wide.2 (valid_any b _ hb)).mono ?_); rw [HB.out]; rintro e w' ⟨rfl, rfl⟩))
  gi_region_with_o (first
    | (gi_at_call 40; refine (callsIn_wide.2 (places_any a _)).mono ?_; rintro e w' ⟨rfl, rfl⟩)
    | (gi_at_call 47; refine (callsIn_wide.2 (appendSeq_any a ha w.heap.size _ _ _ (by first | exact (PA.out w a _ (Nat.le_refl _)).1 | exact (PB.out w a _ (Nat.le_refl _)).1) (by simp; omega) (by first | exact (PA.out w a _ (Nat.le_refl _)).2 | exact (PB.out w a _ (Nat.le_refl _)).2) ⟨_, _, rfl⟩)).mono ?_; rintro e w1 ⟨v1, rfl, ho1, hb1⟩))
  all_goals
    have hbw : Below w.heap.size w w1 := ((((Below.refl _ w).alloc (Nat.le_refl _) _).alloc (by simp) _).drew).trans hb1
    clear hb1
    gi_wp2
    gi_region_with_o (first
      | (gi_at_call 40; refine (callsIn_wide.2 (places_any b _)).mono ?_; rintro e w' ⟨rfl, rfl⟩)
      | (gi_at_call 47; refine (callsIn_wide.2 (appendSeq_any b hb w1.heap.size _ _ _ (by first | exact (PA.out w1 b _ (Nat.le_refl _)).1 | exact (PB.out w1 b _ (Nat.le_refl _)).1) (by simp; omega) (by first | exact (PA.out w1 b _ (Nat.le_refl _)).2 | exact (PB.out w1 b _ (Nat.le_refl _)).2) ⟨_, _, rfl⟩)).mono ?_; rintro e w2 ⟨v2, rfl, ho2, hb2⟩))
  all_goals
    have hbw2 : Below w1.heap.size w1 w2 := ((((Below.refl _ w1).alloc (Nat.le_refl _) _).alloc (by simp) _).drew).trans hb2
    clear hb2
    have hbb := below_trans hbw hbw2
    have ho1' := ownE_below ho1 hbw2
    obtain ⟨ao, cp, rfl, hca⟩ := own_slice ho1'
    obtain ⟨bo, cp2, rfl, hcb⟩ := own_slice ho2
    have hla := Nm.labsD_len a
    have hlb := Nm.labsD_len b
    rw [← Nm.places_length] at hla hlb
    have HCA := Lib.hid hca
    have HCB := Lib.hid hcb
    clear hca hcb ho1 ho1' ho2
    gi_wp2
    gi_loopw [7, 8] (fun s7 s8 wr => ∃ (i k : Nat), i ≤ (Nm.placesN a).length ∧ k ≤ (Nm.placesN b).length ∧ s7 = .int .i64 (i : Int) ∧ s8 = .int .i64 (k : Int) ∧ Drew w2 wr ∧ Hid (Nm.lessR ((Nm.labsD a).take i).reverse ((Nm.labsD b).take k).reverse = Nm.lessR (Nm.labsD a).reverse (Nm.labsD b).reverse)) (fun s7 _ _ => (intOf s7).toNat)
    case atStart => exact ⟨_, _, Nat.le_refl _, Nat.le_refl _, rfl, rfl, Drew.refl _, Lib.hid (by rw [Nm.places_length, Nm.places_length, List.take_length, List.take_length])⟩
    case round =>
      obtain ⟨i, k, hi, hk, rfl, rfl, hdr, hr⟩ := hrel
      cases i with
      | zero =>
        have hfin : Nm.lessR (Nm.labsD a).reverse (Nm.labsD b).reverse = decide (0 < k) := by
          rw [← hr.out, List.take_zero, List.reverse_nil]
          cases k with
          | zero => rfl
          | succ k => rw [Nm.take_rev (by rw [← Nm.places_length]; exact hk)]; rfl
        have HF := Lib.hid hfin
        clear hfin
        gi_wp2
        go_ret
        exact ⟨ret_bool (by simp [H.out, HF.out]), hbb.trans hdr.below⟩
      | succ i =>
        cases k with
        | zero =>
          have hfin : Nm.lessR (Nm.labsD a).reverse (Nm.labsD b).reverse = false := by
            rw [← hr.out, Nm.take_rev (by rw [← Nm.places_length]; exact hi), List.take_zero, List.reverse_nil]; rfl
          have HF := Lib.hid hfin
          clear hfin
          gi_wp2
          go_ret
          exact ⟨ret_bool (by rw [H.out, HF.out]; simp; omega), hbb.trans hdr.below⟩
        | succ k =>
          obtain ⟨ga, rfl, ca⟩ := HCA.out i hi
          obtain ⟨gb, rfl, cb⟩ := HCB.out k hk
          have hta := Nm.take_rev (l := Nm.labsD a) (i := i) (by rw [← Nm.places_length]; exact hi)
          have htb := Nm.take_rev (l := Nm.labsD b) (i := k) (by rw [← Nm.places_length]; exact hk)
          have hst := hr.out
          rw [hta, htb] at hst
          have HLa : LabFact a _ _ := ⟨fun W => labelAt_any ha (i := i) hi W⟩
          have HLb : LabFact b _ _ := ⟨fun W => labelAt_any hb (i := k) hk W⟩
          obtain ⟨la, hla'⟩ : ∃ l, l = (Nm.labsD a)[i]'(by rw [← Nm.places_length]; exact hi) := ⟨_, rfl⟩
          obtain ⟨lb, hlb'⟩ : ∃ l, l = (Nm.labsD b)[k]'(by rw [← Nm.places_length]; exact hk) := ⟨_, rfl⟩
          rw [← hla'] at hst HLa
          rw [← hlb'] at hst HLb
          have hlla : la.length ≤ 100000 := by have := (Nm.labsD_good a la (by rw [hla']; exact List.getElem_mem _)).2; omega
          have hllb : lb.length ≤ 100000 := by have := (Nm.labsD_good b lb (by rw [hlb']; exact List.getElem_mem _)).2; omega
          rw [show (0 + i) = i by omega] at ca
          rw [show (0 + k) = k by omega] at cb
          simp only [encI] at ca cb
          replace ca := (hdr.cell _).trans ca
          replace cb := (hdr.cell _).trans cb
          clear hla' hlb' hta htb
          have hcmp := fun W => compare_any la lb W hlla hllb
          have HCmp := Lib.hid hcmp
          clear hcmp
          by_cases hz : Nm.cmpN la lb = 0
          · have hst2 : Nm.lessR ((Nm.labsD a).take i).reverse ((Nm.labsD b).take k).reverse = Nm.lessR (Nm.labsD a).reverse (Nm.labsD b).reverse := by
              rw [← hst, Nm.lessR, if_neg (by simp [hz])]
            have HS2 := Lib.hid hst2
            have HZ := Lib.hid hz
            clear hst hst2 hz
            gi_wp2
            gi_big_quiet_th ((first
              | (gi_at_call 48; exact labFact_quiet (by assumption))
              | (gi_at_call 46; exact CallsIn.quiet_of (v := .int .i64 0) ((callsIn_wide.2 (HCmp.out _)).mono (fun _ _ h => ⟨by rw [h.1, HZ.out], h.2⟩)))))
            gi_wp2
            go_roundw
            case rel => exact ⟨i, k, by omega, by omega, by first | rfl | go_num, by first | rfl | go_num, hdr.drewN _, HS2⟩
            case measure => simp [intOf]
          · have hst2 : Nm.lessR (Nm.labsD a).reverse (Nm.labsD b).reverse = decide (Nm.cmpN la lb < 0) := by
              rw [← hst, Nm.lessR, if_pos hz]
            have HS2 := Lib.hid hst2
            obtain ⟨z, hzz⟩ : ∃ z, z = Nm.cmpN la lb := ⟨_, rfl⟩
            rw [← hzz] at hz
            have HZ := Lib.hid hzz
            have t1 : (z != 0) = true := by rw [bne_iff_ne]; exact hz
            clear hst hst2 hz hzz
            gi_wp2
            gi_big_quiet_th ((first
              | (gi_at_call 48; exact labFact_quiet (by assumption))
              | (gi_at_call 46; exact CallsIn.quiet_of (v := .int .i64 z) ((callsIn_wide.2 (HCmp.out _)).mono (fun _ _ h => ⟨by rw [h.1, HZ.out], h.2⟩)))))
            gi_wp2
            go_ret
            exact ⟨ret_bool (by rw [H.out, HS2.out, HZ.out]), hbb.trans (hdr.drewN _).below⟩
end Go.Proofs.YtiodfiegknkceaaDoor
