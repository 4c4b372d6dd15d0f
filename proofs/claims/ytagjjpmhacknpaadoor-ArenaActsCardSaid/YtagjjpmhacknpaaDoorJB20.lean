/- 5 texts put together: Mfr, Round, RdI, Rul, Mvl. -/
import Derived.IntWalk
import Derived.Maps.AppendAt
import Derived.Deep.CutBlock
import Derived.Test.YtagjjpmhacknpaaDoorJB15
import Derived.Test.YtagjjpmhacknpaaDoorJB16
import Derived.Test.YtagjjpmhacknpaaDoorJB17
import Derived.Test.YtagjjpmhacknpaaDoorJB18
import Derived.Test.YtagjjpmhacknpaaDoorJB19
/- The document's own arena: Free. -/
set_option maxRecDepth 100000
namespace Go.Proofs.YtagjjpmhacknpaaDoor
open Go Go.RowKit Go.Shelf
attribute [local go_sem] Oper.semAt_some
def MFreeRet (x : Nat → Prop) (m B : Nat) (P : List Rp) (z : Int) (w : World) (e : Ending) (w' : World) : Prop :=
  (e = .returned (.int .i64 5) ∧ (∀ p ∈ P, (p.2.1 : Int) ≠ z) ∧ w = w') ∨ (e = .returned (.int .i64 0) ∧ ∃ P1 p P2, P = P1 ++ p :: P2 ∧ (p.2.1 : Int) = z ∧ MRet x m B (P1 ++ P2) w w')
theorem rw_under : Tryd.prog.underlying 31 = some (.slice 52) := by kernel_rfl
theorem own_lit0 {n : Nat} (W : World) (h : n ≤ W.heap.size) : OwnK encRw 2 52 n (.slice (some ⟨W.heap.size, 0, none⟩) 0 0) [] (W.alloc (.cells #[] 52)) :=
  World.ownsRow_lit (base := n) (e := 52) (size := 2) W #[] 0 h (by simp) rfl
theorem below_undr {n : Nat} {w W : World} (h : Below n w.drew W) : Below n w W := ((Below.refl n w).drew).trans h
set_option maxHeartbeats 8000000 in
theorem mfree_any (x : Nat → Prop) (m B : Nat) (P : List Rp) (z : Int) (w : World) (h : MA x m B P w) (hl : P.length ≤ 900000) :
    Calls Tryd.prog 11 #[.pointer (some ⟨m, 0, none⟩), .int .i64 z] w (MFreeRet x m B P z w) := by
  have HAT := Lib.hid (mat_any x m B P z w h (by omega))
  have HM := Lib.hid h
  obtain ⟨ao, cap, c0, c1, hcap, hrk, hrow⟩ := h.box
  obtain ⟨v0, hm1, _⟩ := h.ex
  have hml := hm1.lt
  clear hrow h
  go_enter Tryd.func11, Tryd.ntmps11
  go_wp2_with fail
  refine HAT.out.mono ?_
  rintro e w' ⟨⟨i, hi, rfl, hz⟩ | ⟨rfl, hn⟩, rfl⟩
  · obtain ⟨vt, ht1, ht2⟩ := run_takeK (P := Tryd.prog) encRw_len rw_under infoRw hrk (m := i) (by rw [List.length_map]; omega)
    obtain ⟨vd, hd1, hd2⟩ := run_dropK (P := Tryd.prog) encRw_len rw_under infoRw hrk (m := i + 1) (by rw [List.length_map]; omega)
    rw [show ((i + 1 : Nat) : Int) = (i : Int) + 1 by norm_cast] at hd1
    have HRT := Lib.hid (fun W' (hb : Below w.heap.size w W') => ht2.below hb)
    have HRD := Lib.hid (fun W' (hb : Below w.heap.size w W') => hd2.below hb)
    have hl1 : ((P.map Prod.fst).take i).length ≤ 900000 := by rw [List.length_take, List.length_map]; omega
    have hl2 : ((P.map Prod.fst).drop (i + 1)).length + ((P.map Prod.fst).take i).length ≤ 900000 := by rw [List.length_drop, List.length_take, List.length_map]; omega
    have HSPL : Hid (P = P.take i ++ P[i] :: P.drop (i + 1)) := Lib.hid (by rw [← List.drop_eq_getElem_cons hi, List.take_append_drop])
    have HZ := Lib.hid hz
    obtain ⟨TT, hTT⟩ : ∃ T, (P.map Prod.fst).take i = T := ⟨_, rfl⟩
    obtain ⟨DD, hDD⟩ : ∃ D, (P.map Prod.fst).drop (i + 1) = D := ⟨_, rfl⟩
    have HMP : Hid ((P.take i ++ P.drop (i + 1)).map Prod.fst = TT ++ DD) := Lib.hid (by rw [List.map_append, List.map_take, List.map_drop, hTT, hDD])
    rw [hTT] at HRT hl1 hl2
    rw [hDD] at HRD hl2
    obtain ⟨LL, hLL⟩ : ∃ LL, TT ++ DD = LL := ⟨_, rfl⟩
    obtain ⟨n1, hn1⟩ : ∃ n, TT.length = n := ⟨_, rfl⟩
    obtain ⟨n2, hn2⟩ : ∃ n, (TT ++ DD).length = n := ⟨_, rfl⟩
    have HN1 : Hid (LL.take n1 = TT) := Lib.hid (by rw [← hLL, ← hn1, List.take_left' rfl])
    have HN2 : Hid (LL.take n2 = TT ++ DD) := Lib.hid (by rw [← hLL, ← hn2, List.take_length])
    have HP1 : Hid (([] : List Rw) ++ TT <+: LL) := Lib.hid ⟨DD, by rw [← hLL]; rfl⟩
    have HP2 : Hid (TT ++ DD <+: LL) := Lib.hid ⟨[], by rw [← hLL, List.append_nil]⟩
    have HEA : Hid (∀ W', Below w.heap.size w W' → ∀ p ∈ P.take i ++ P.drop (i + 1), p.1.h = p.2.1 ∧ RK encC (plus x w W') p.1.v p.2.2 W') := Lib.hid fun W' hb p hp => by
      have hp2 : p ∈ P := by
        rcases List.mem_append.1 hp with h | h
        · exact List.mem_of_mem_take h
        · exact List.mem_of_mem_drop h
      have h9 := HM.out.each p hp2
      exact ⟨h9.1, (h9.2.below hb).mono fun b hb => .inl hb⟩
    clear ht2 hd2 hz hrk hTT hDD hLL hn1 hn2
    have hwi : IntKind.i64.wrap ((i : Int) + 1) = (i : Int) + 1 := IntWalk.i64_in _ (by omega)
    have HCL : Hid (∀ W', Below w.heap.size w W' → W'.cell? ⟨m, 1, none⟩ = some (.slice ao P.length cap)) := Lib.hid fun W' hb => (hb.cell hml).trans c1
    have HFZ : Hid (∀ W', Below w.heap.size w W' → W'.frozen? ⟨m, 1, none⟩ = false) := Lib.hid fun W' hb => (hm1.kept (hb.block m hml)).frozen 1
    go_wp2
    refine wp_region_slotsTL (by simp) (leRow encRw 2 52 w.heap.size LL) (slotPhi ((fun v _ => v = ?f11) :: (fun v W' => OwnK encRw 2 52 w.heap.size v (LL.take 0) W') :: (fun v _ => v = ?f13) :: (fun v _ => v = ?f14) :: (fun v _ => v = ?f15) :: (fun v _ => v = ?f16) :: (fun v _ => v = ?f17) :: (fun v _ => v = ?f18) :: (fun v W' => OwnK encRw 2 52 w.heap.size v (LL.take n1) W') :: (fun v _ => v = ?f20) :: (fun v _ => v = ?f21) :: (fun v _ => v = ?f22) :: (fun v _ => v = ?f23) :: (fun v _ => v = ?f24) :: (fun v _ => v = ?f25) :: (fun v _ => v = ?f26) :: (fun v W' => OwnK encRw 2 52 w.heap.size v (LL.take n2) W') :: (fun v _ => v = ?f28) :: (fun v _ => v = ?f29) :: [])) leRow_refl (fun h g => leRow_trans h g) (slotPhi_by ?stb) (by kernel_rfl) (by kernel_rfl) (by kernel_rfl) (by kernel_rfl) (by kernel_rfl) ?steps ?fin
    case stb =>
      refine ⟨by intro _ _ _ _ h; exact h, ?_⟩
      refine ⟨by intro v x y hle h; exact hle.2 v _ h, ?_⟩
      refine ⟨by intro _ _ _ _ h; exact h, ?_⟩
      refine ⟨by intro _ _ _ _ h; exact h, ?_⟩
      refine ⟨by intro _ _ _ _ h; exact h, ?_⟩
      refine ⟨by intro _ _ _ _ h; exact h, ?_⟩
      refine ⟨by intro _ _ _ _ h; exact h, ?_⟩
      refine ⟨by intro _ _ _ _ h; exact h, ?_⟩
      refine ⟨by intro v x y hle h; exact hle.2 v _ h, ?_⟩
      refine ⟨by intro _ _ _ _ h; exact h, ?_⟩
      refine ⟨by intro _ _ _ _ h; exact h, ?_⟩
      refine ⟨by intro _ _ _ _ h; exact h, ?_⟩
      refine ⟨by intro _ _ _ _ h; exact h, ?_⟩
      refine ⟨by intro _ _ _ _ h; exact h, ?_⟩
      refine ⟨by intro _ _ _ _ h; exact h, ?_⟩
      refine ⟨by intro _ _ _ _ h; exact h, ?_⟩
      refine ⟨by intro v x y hle h; exact hle.2 v _ h, ?_⟩
      refine ⟨by intro _ _ _ _ h; exact h, ?_⟩
      refine ⟨by intro _ _ _ _ h; exact h, ?_⟩
      exact trivial
    case steps =>
      refine ⟨?_, ?_⟩
      · intro a W K N hK
        have e0 : a.tmps[0]?.getD undef = .pointer (some ⟨m, 0, none⟩) := N.was' 0 _ (by kernel_rfl) rfl
        rw [if_pos (wanted_no rfl)]
        go_simp
        refine hK _ _ (leRow_refl _) ?_
        exact rfl
      refine ⟨?_, ?_⟩
      · intro a W K N hK
        rw [if_pos (wanted_no rfl)]
        go_simp
        refine hK _ _ (leRow_of ((Below.refl _ _).alloc (Nat.le_refl _) _) N.le.1.size) ?_
        exact own_lit0 W N.le.1.size
      refine ⟨?_, ?_⟩
      · intro a W K N hK
        have e0 : a.tmps[0]?.getD undef = .pointer (some ⟨m, 0, none⟩) := N.was' 0 _ (by kernel_rfl) rfl
        rw [if_pos (wanted_no rfl)]
        go_simp
        refine hK _ _ (leRow_refl _) ?_
        exact rfl
      refine ⟨?_, ?_⟩
      · intro a W K N hK
        have e13 : a.tmps[13]?.getD undef = _ := N.dep' 2 13 (by kernel_rfl)
        rw [if_pos (wanted_no rfl)]
        go_simp
        refine hK _ _ (leRow_refl _) ?_
        exact rfl
      refine ⟨?_, ?_⟩
      · intro a W K N hK
        have e14 : a.tmps[14]?.getD undef = _ := N.dep' 3 14 (by kernel_rfl)
        rw [if_pos (wanted_no rfl)]
        go_simp
        refine hK _ _ (leRow_refl _) ?_
        exact rfl
      refine ⟨?_, ?_⟩
      · intro a W K N hK
        have e15 : a.tmps[15]?.getD undef = _ := N.dep' 4 15 (by kernel_rfl)
        rw [if_pos (wanted_no rfl)]
        have z := (N.le.1.cell (p := ⟨m, 1, none⟩) hml).trans c1
        go_simp
        refine hK _ _ (leRow_refl _) ?_
        exact rfl
      refine ⟨?_, ?_⟩
      · intro a W K N hK
        have e5 : a.tmps[5]?.getD undef = .int .i64 (i : Int) := N.was' 5 _ (by kernel_rfl) rfl
        rw [if_pos (wanted_no rfl)]
        go_simp
        refine hK _ _ (leRow_refl _) ?_
        exact rfl
      refine ⟨?_, ?_⟩
      · intro a W K N hK
        have e16 : a.tmps[16]?.getD undef = _ := N.dep' 5 16 (by kernel_rfl)
        have e17 : a.tmps[17]?.getD undef = _ := N.dep' 6 17 (by kernel_rfl)
        rw [if_pos (wanted_no rfl)]
        go_simp
        refine hK _ _ (leRow_refl _) ?_
        exact rfl
      refine ⟨?_, ?_⟩
      · intro a W K N hK
        have e12 := Lib.hid (show (fun v W' => OwnK encRw 2 52 w.heap.size v (LL.take 0) W') (a.tmps[12]?.getD undef) W from N.dep' 1 12 (by kernel_rfl))
        have e18 : a.tmps[18]?.getD undef = _ := N.dep' 7 18 (by kernel_rfl)
        rw [if_pos (wanted_no rfl)]
        refine wp_apKeep (L := LL) (base := w.heap.size) encRw_len (by omega) encRw_one rw_under infoRw rfl (by omega) (.tmp 12) (.tmp 18) rfl _ ([]) (eval_tmp a 12) (by exact e12.out) _ (TT) ((eval_tmp a 18).trans e18) (HRT.out _ (below_undr N.le.1)) (by first | omega | (simp only [List.length_nil]; omega)) N.le.1.size (by first | exact HP1.out | exact HP2.out) ?_
        intro v5 w5 ho5 hle5 _
        refine hK _ _ hle5 ?_
        exact HN1.out ▸ ho5
      refine ⟨?_, ?_⟩
      · intro a W K N hK
        have e0 : a.tmps[0]?.getD undef = .pointer (some ⟨m, 0, none⟩) := N.was' 0 _ (by kernel_rfl) rfl
        rw [if_pos (wanted_no rfl)]
        go_simp
        refine hK _ _ (leRow_refl _) ?_
        exact rfl
      refine ⟨?_, ?_⟩
      · intro a W K N hK
        have e20 : a.tmps[20]?.getD undef = _ := N.dep' 9 20 (by kernel_rfl)
        rw [if_pos (wanted_no rfl)]
        go_simp
        refine hK _ _ (leRow_refl _) ?_
        exact rfl
      refine ⟨?_, ?_⟩
      · intro a W K N hK
        have e21 : a.tmps[21]?.getD undef = _ := N.dep' 10 21 (by kernel_rfl)
        rw [if_pos (wanted_no rfl)]
        go_simp
        refine hK _ _ (leRow_refl _) ?_
        exact rfl
      refine ⟨?_, ?_⟩
      · intro a W K N hK
        have e22 : a.tmps[22]?.getD undef = _ := N.dep' 11 22 (by kernel_rfl)
        rw [if_pos (wanted_no rfl)]
        have z := (N.le.1.cell (p := ⟨m, 1, none⟩) hml).trans c1
        go_simp
        refine hK _ _ (leRow_refl _) ?_
        exact rfl
      refine ⟨?_, ?_⟩
      · intro a W K N hK
        have e5 : a.tmps[5]?.getD undef = .int .i64 (i : Int) := N.was' 5 _ (by kernel_rfl) rfl
        rw [if_pos (wanted_no rfl)]
        go_simp
        refine hK _ _ (leRow_refl _) ?_
        exact rfl
      refine ⟨?_, ?_⟩
      · intro a W K N hK
        have e24 : a.tmps[24]?.getD undef = _ := N.dep' 13 24 (by kernel_rfl)
        rw [if_pos (wanted_no rfl)]
        go_simp
        refine hK _ _ (leRow_refl _) ?_
        exact rfl
      refine ⟨?_, ?_⟩
      · intro a W K N hK
        have e23 : a.tmps[23]?.getD undef = _ := N.dep' 12 23 (by kernel_rfl)
        have e25 : a.tmps[25]?.getD undef = _ := N.dep' 14 25 (by kernel_rfl)
        rw [if_pos (wanted_no rfl)]
        go_simp
        refine hK _ _ (leRow_refl _) ?_
        exact rfl
      refine ⟨?_, ?_⟩
      · intro a W K N hK
        have e19 := Lib.hid (show (fun v W' => OwnK encRw 2 52 w.heap.size v (LL.take n1) W') (a.tmps[19]?.getD undef) W from N.dep' 8 19 (by kernel_rfl))
        have e26 : a.tmps[26]?.getD undef = _ := N.dep' 15 26 (by kernel_rfl)
        rw [if_pos (wanted_no rfl)]
        refine wp_apKeep (L := LL) (base := w.heap.size) encRw_len (by omega) encRw_one rw_under infoRw rfl (by omega) (.tmp 19) (.tmp 26) rfl _ (TT) (eval_tmp a 19) (by exact (HN1.out ▸ e19.out)) _ (DD) ((eval_tmp a 26).trans e26) (HRD.out _ (below_undr N.le.1)) (by first | omega | (simp only [List.length_nil]; omega)) N.le.1.size (by first | exact HP1.out | exact HP2.out) ?_
        intro v5 w5 ho5 hle5 _
        refine hK _ _ hle5 ?_
        exact HN2.out ▸ ho5
      refine ⟨?_, ?_⟩
      · intro a W K N hK
        have e11 : a.tmps[11]?.getD undef = _ := N.dep' 0 11 (by kernel_rfl)
        rw [if_pos (wanted_no rfl)]
        go_simp
        refine hK _ _ (leRow_refl _) ?_
        exact rfl
      refine ⟨?_, ?_⟩
      · intro a W K N hK
        have e28 : a.tmps[28]?.getD undef = _ := N.dep' 17 28 (by kernel_rfl)
        rw [if_pos (wanted_no rfl)]
        go_simp
        refine hK _ _ (leRow_refl _) ?_
        exact rfl
      exact trivial
    case fin =>
      intro V hV
      simp only [FinAll, slotPhi, List.dropLast, List.getLast_cons_cons, List.getLast_singleton, List.getD_cons_zero, List.getD_cons_succ, forall_eq, Act.put, List.setIfInBounds_toArray, List.set_cons_zero, List.set_cons_succ]
      intro v12 h12
      intro v19 h19
      intro v27 h27
      have hVb := below_undr hV.1
      have cl := HCL.out _ hVb
      have fz := HFZ.out _ hVb
      rw [HN2.out, ← HMP.out] at h27
      have H27 := Lib.hid h27
      obtain ⟨a5, n5, c5, e5⟩ : ∃ a n c, v27 = .slice a n c := by obtain ⟨a5, c5, e5, _⟩ := ownK_form h27; exact ⟨_, _, _, e5⟩
      subst e5
      have HVB := Lib.hid hVb
      clear hV hVb h12 h19 h27
      go_wp2
      go_ret
      exact .inr ⟨rfl, _, P[i], _, HSPL.out, HZ.out, HM.out.put HVB.out H27.out fun p hp => HEA.out _ HVB.out p hp⟩
  · have HN := Lib.hid hn
    clear hn
    go_wp2
    go_ret
    exact .inl ⟨rfl, HN.out, rfl⟩
end Go.Proofs.YtagjjpmhacknpaaDoor

/- Round. -/
namespace Go.Proofs.YtagjjpmhacknpaaDoor
open Go.RowKit Go.Shelf

def roundI (k n : Int) : Int := (k.tmod n + n).tmod n
theorem roundI_bounds (k n : Int) (h : 0 < n) : 0 ≤ roundI k n ∧ roundI k n < n := by
  unfold roundI
  have h1 : -n < k.tmod n := Int.lt_tmod_of_pos k h
  have h2 : 0 ≤ k.tmod n + n := by omega
  exact ⟨Int.tmod_nonneg _ h2, Int.tmod_lt_of_pos _ h⟩

end Go.Proofs.YtagjjpmhacknpaaDoor

/- A slice of numbers that is read. -/
set_option maxRecDepth 100000
namespace Go.Proofs.YtagjjpmhacknpaaDoor
open Go.RowKit Go.Shelf
theorem readI_below {v : Value} {l : List Int} {W W' : World} (h : ReadI v l W) (hb : Below W.heap.size W W') : ReadI v l W' := by
  obtain ⟨ao, cap, rfl, hc⟩ := h.form
  exact ⟨ao, cap, rfl, fun j hj => by
    obtain ⟨b, off, e, c⟩ := hc j hj
    exact ⟨b, off, e, (hb.cell (cell_lt c)).trans c⟩⟩
theorem ReadI.form_at {ao : Option Addr} {cap n : Nat} {l : List Int} {W : World} (h : ReadI (.slice ao n cap) l W) {k : Nat} (hk : k < l.length) : ∃ b off, ao = some ⟨b, off, none⟩ ∧ W.cell? ⟨b, off + k, none⟩ = some (.int .i64 l[k]) := by
  obtain ⟨ao', cap', e, hc⟩ := h.form
  cases e
  exact hc k hk
end Go.Proofs.YtagjjpmhacknpaaDoor

/- ArenaReuse: what its calls do. -/
set_option maxRecDepth 100000
namespace Go.Proofs.YtagjjpmhacknpaaDoor
open Go.RowKit Go.Shelf
attribute [local go_sem] Oper.semAt_some
/-- The handles from 1 on, one behind the other. -/
structure Cs (m q : Nat) (L : List Bl) : Prop where
  len : L.length = m
  at_ : ∀ i (h : i < L.length), L[i].1 = i + 1
  sz : ∀ b ∈ L, b.2.length ≤ q
theorem Cs.nil (q : Nat) : Cs 0 q [] := ⟨rfl, (fun i h => by cases h), (fun b h => by cases h)⟩
theorem Cs.add {m q : Nat} {L : List Bl} (h : Cs m q L) {d : List UInt8} (hd : d.length ≤ q) : Cs (m + 1) q (L ++ [(m + 1, d)]) := by
  refine ⟨by simp [h.len], fun i hi => ?_, fun b hb => ?_⟩
  · by_cases e : i < L.length
    · rw [List.getElem_append_left e]; exact h.at_ i e
    · have : i = L.length := by simp at hi; omega
      subst this
      rw [List.getElem_append_right (Nat.le_refl _)]
      simp [h.len]
  · rcases List.mem_append.1 hb with hb | hb
    · exact h.sz b hb
    · rw [List.mem_singleton] at hb
      subst hb
      exact hd
theorem Cs.cut {m q : Nat} {L1 L2 : List Bl} (h : Cs m q (L1 ++ L2)) (hl : Least L1 L2) : L2 = [] ∧ L1.length = m := by
  have h2 : L2 = [] := by
    cases L2 with
    | nil => rfl
    | cons b r =>
      have h1 := h.at_ L1.length (by simp)
      have h2 := hl.2 b (by simp)
      simp at h1
      omega
  subst h2
  have := h.len
  simp at this
  exact ⟨rfl, this⟩
theorem Cs.le {m q : Nat} {L : List Bl} (h : Cs m q L) : ∀ b ∈ L, b.1 ≤ m := fun b hb => by
  obtain ⟨i, hi, rfl⟩ := List.mem_iff_getElem.1 hb
  have := h.at_ i hi
  have := h.len
  omega
theorem Cs.sum {q c : Nat} (hc : ∀ k, k ≤ q → Ar.cost k ≤ c) : ∀ {L : List Bl}, (∀ b ∈ L, b.2.length ≤ q) → sumC L ≤ c * L.length
  | [], _ => by simp [sumC]
  | b :: L, h => by
    rw [sumC_cons, List.length_cons]
    have h1 := hc _ (h b (by simp))
    have h2 := Cs.sum hc (fun x hx => h x (List.mem_cons_of_mem _ hx)) (L := L)
    rw [Nat.mul_succ]
    omega
theorem cost_248 : ∀ k, k ≤ 248 → Ar.cost k ≤ 256 := fun k hk => by unfold Ar.cost; (repeat' split) <;> omega
theorem ru_alloc (x : Nat → Prop) (A m n : Nat) (L : List Bl) (n0 : Nat) (w : World) (h : HX x A 4096 L n0 w) (hc : Cs m 248 L) (hm : m ≤ 12) (hn : n ≤ 248) (hm2 : m < 12) :
    Calls Tryd.prog 8 #[.pointer (some ⟨A, 0, none⟩), .int .i64 (n : Int)] w fun e w' => e = .returned (.tuple #[.int .i64 ((m : Int) + 1), .int .i64 0]) ∧ LX x A 4096 (L ++ [(m + 1, Ar.zeros n)]) n0 w w' := by
  have hs := Cs.sum cost_248 hc.sz
  have hcn := cost_248 n hn
  have hlen := hc.len
  refine (alloc_ok x A 4096 L n0 _ n w rfl h (by omega) (by omega)).mono fun e w' ⟨L1, L2, e1, hl, he, hL⟩ => ?_
  subst e1
  obtain ⟨rfl, e2⟩ := hc.cut hl
  rw [List.append_nil]
  rw [e2] at he hL
  exact ⟨by rw [he]; norm_cast, hL⟩
theorem ru_free (x : Nat → Prop) (A B : Nat) (L : List Bl) (n0 : Nat) (z : Int) (w : World) (h : HX x A B L n0 w) :
    Calls Tryd.prog 10 #[.pointer (some ⟨A, 0, none⟩), .int .i64 z] w fun e w' => ∃ (r : Int) (L' : List Bl), e = .returned (.int .i64 r) ∧ LX x A B L' n0 w w' ∧ ∀ b ∈ L', b ∈ L ∧ (b.1 : Int) ≠ z := by
  refine (free_x x A B L n0 z w h).mono fun e w' hk => ?_
  rcases hk with ⟨k1, he, hL⟩ | ⟨L1, b, L2, rfl, e2, he, hL⟩
  · exact ⟨5, L, he, hL, fun b hb => ⟨hb, k1 b hb⟩⟩
  · refine ⟨0, L1 ++ L2, he, hL, fun c hc => ⟨by rcases List.mem_append.1 hc with hc | hc <;> simp [hc], fun e => ?_⟩⟩
    have hs := h.each.1
    rw [List.pairwise_append, List.pairwise_cons] at hs
    rcases List.mem_append.1 hc with hc | hc
    · have := hs.2.2 c hc b (by simp); omega
    · have := hs.2.1.1 c hc; omega
theorem rdB_row {x : Nat → Prop} {n0 : Nat} {v : Value} {l : List UInt8} {w : World} (h : RowIn x n0 5 v (l.map encB) w) : RdB v l w := by
  have := h.own
  rw [List.length_map] at this
  exact RdB.own this
/-- A slice of so many bytes 0 that was just made. -/
def MkZ (n : Nat) (v : Value) (W : World) : Prop := ∃ B, v = .slice (some ⟨B, 0, none⟩) n n ∧ RdB (.slice (some ⟨B, 0, none⟩) n n) (Ar.zeros n) W
theorem MkZ.below {n : Nat} {v : Value} {x y : World} (h : MkZ n v x) (hb : slotLe x y) : MkZ n v y := by
  obtain ⟨B, e, hr⟩ := h
  exact ⟨B, e, hr.below hb⟩
theorem MkZ.new (n : Nat) (W : World) : MkZ n (.slice (some ⟨W.heap.size, 0, none⟩) n n) (W.alloc (.cells (Array.replicate n (.int .u8 0)) 5)) :=
  ⟨W.heap.size, rfl, rdB_block (l := Ar.zeros n) (by have := Blk.new W ((Ar.zeros n).map encB) 5; unfold Ar.zeros at this ⊢; rw [List.map_replicate, List.toArray_replicate] at this; rw [List.map_replicate]; exact this) (zeros_len n).symm⟩
theorem zz_step {k n : Nat} {u : UInt8} (h : k < n) : ((List.replicate k u ++ List.replicate (n - k) 0).map encB).set k (encB u) = (List.replicate (k + 1) u ++ List.replicate (n - (k + 1)) 0).map encB := by
  rw [← List.map_set]
  congr 1
  rw [List.set_append_right _ _ (by simp)]
  obtain ⟨m, hm⟩ : ∃ m, n - k = m + 1 := ⟨n - k - 1, by omega⟩
  rw [hm, show n - (k + 1) = m by omega, List.replicate_succ (n := m)]
  simp [List.replicate_succ']
theorem zz_at {k n : Nat} {u : UInt8} (h : k < n) : ((List.replicate k u ++ List.replicate (n - k) 0).map encB)[k]? = some (.int .u8 0) := by
  rw [List.getElem?_map, List.getElem?_append_right (by simp), List.getElem?_replicate, if_pos (by simp; omega)]
  rfl
theorem rg_at {k m : Nat} (h : k < m) : ((List.range' 1 m).map encI)[k]? = some (.int .i64 ((k : Int) + 1)) := by
  rw [List.getElem?_map, List.getElem?_range' (by omega)]
  show some (encI _) = _
  unfold encI
  congr 2
  omega
theorem rg_len (m : Nat) : ((List.range' 1 m).map encI).length = m := by simp
theorem rg_add (m : Nat) : List.range' 1 m ++ [m + 1] = List.range' 1 (m + 1) := by rw [List.range'_1_concat, Nat.add_comm 1 m]
theorem ru_new (w : World) (hT : TabOk w) : Calls Tryd.prog 6 #[.int .i64 4096] w fun e w' => ∃ A, e = .returned (.tuple #[.pointer (some ⟨A, 0, none⟩), .int .i64 0]) ∧ HX (fun _ => False) A 4096 [] w.heap.size w' ∧ Below w.heap.size w w' :=
  new_x 4096 w (by decide) (by decide) hT
theorem ru_read (x : Nat → Prop) (A m n : Nat) (L : List Bl) (n0 : Nat) (z : Int) (w : World) (hz : z = (m : Int) + 1) (h : HX x A 4096 (L ++ [(m + 1, Ar.zeros n)]) n0 w) :
    Calls Tryd.prog 12 #[.pointer (some ⟨A, 0, none⟩), .int .i64 z, .int .i64 0, .int .i64 (n : Int)] w fun e w' => ∃ (v : Value) (y : Nat → Prop), e = .returned (.tuple #[v, .int .i64 0]) ∧ HX y A 4096 (L ++ [(m + 1, Ar.zeros n)]) n0 w' ∧ RowIn y n0 5 v ((Ar.zeros n).map encB) w' ∧ (∀ k, x k → y k) ∧ Below w.heap.size w w' := by
  refine (read_ok x A 4096 _ (m + 1, Ar.zeros n) n0 z 0 (n : Int) 0 n w (by rw [hz]; norm_cast) rfl rfl (by simp) h (by rw [zeros_len]; omega)).mono fun e w' ⟨v, he, hr, hL, hb⟩ => ?_
  have e1 : ((Ar.zeros n).drop 0).take n = Ar.zeros n := by rw [List.drop_zero, List.take_of_length_le (by rw [zeros_len]; omega)]
  rw [e1] at hr
  obtain ⟨h1, h2⟩ := h.take hb hr (by rw [List.length_map, zeros_len])
  exact ⟨v, _, he, h1, h2, fun k hk => .inl hk, hb⟩
theorem put_all (d l : List UInt8) (h : l.length = d.length) : Ar.put d 0 l = l := by
  unfold Ar.put
  rw [Nat.zero_add, h, List.drop_length]
  simp
theorem ru_write (x : Nat → Prop) (A m n : Nat) (L : List Bl) (n0 : Nat) (z : Int) (v : Value) (l : List UInt8) (w : World) (hz : z = (m : Int) + 1) (h : HX x A 4096 (L ++ [(m + 1, Ar.zeros n)]) n0 w) (hv : RowIn x n0 5 v (l.map encB) w) (hl : l.length = n) :
    Calls Tryd.prog 14 #[.pointer (some ⟨A, 0, none⟩), .int .i64 z, .int .i64 0, v] w fun e w' => e = .returned (.int .i64 0) ∧ LX x A 4096 (L ++ [(m + 1, l)]) n0 w w' := by
  refine (write_ok x A 4096 L [] (m + 1, Ar.zeros n) n0 z 0 0 v l w (by rw [hz]; norm_cast) rfl h (rdB_row hv) (by rw [zeros_len]; omega)).mono fun e w' ⟨he, hL⟩ => ⟨he, ?_⟩
  rw [put_all _ _ (by rw [zeros_len, hl])] at hL
  exact hL
end Go.Proofs.YtagjjpmhacknpaaDoor

/- ArenaMoves: what its calls do. -/
set_option maxRecDepth 100000
namespace Go.Proofs.YtagjjpmhacknpaaDoor
open Go.RowKit Go.Shelf
attribute [local go_sem] Oper.semAt_some
def chr (s : Nat) : UInt8 := UInt8.ofNat (97 + s)
theorem chr_nat {s : Nat} (h : s ≤ 60) : (chr s).toNat = 97 + s := by unfold chr; rw [UInt8.toNat_ofNat']; omega
theorem encB_chr {s : Nat} (h : s ≤ 60) : encB (chr s) = .int .u8 (97 + (s : Int)) := by unfold encB; rw [chr_nat h]; norm_cast
/-- The blocks of these sizes, from a handle on. -/
def mvL : Nat → List Nat → List Bl
  | _, [] => []
  | s, n :: N => (s + 1, List.replicate n (chr s)) :: mvL (s + 1) N
theorem mvL_add : ∀ (N : List Nat) (s n : Nat), mvL s (N ++ [n]) = mvL s N ++ [(s + N.length + 1, List.replicate n (chr (s + N.length)))]
  | [], s, n => by simp [mvL]
  | m :: N, s, n => by
    simp only [List.cons_append, mvL, List.length_cons]
    rw [mvL_add N (s + 1) n]
    rw [show s + 1 + N.length = s + (N.length + 1) by omega]
theorem mvL_len : ∀ (N : List Nat) (s : Nat), (mvL s N).length = N.length
  | [], _ => rfl
  | _ :: N, s => by simp [mvL, mvL_len N]
theorem mvL_at : ∀ (N : List Nat) (s i : Nat) (h : i < N.length), (mvL s N)[i]? = some (s + i + 1, List.replicate N[i] (chr (s + i)))
  | n :: N, s, 0, _ => by simp [mvL]
  | n :: N, s, i + 1, h => by
    simp only [mvL, List.getElem?_cons_succ, List.getElem_cons_succ]
    rw [mvL_at N (s + 1) i (by simpa using h)]
    rw [show s + 1 + i = s + (i + 1) by omega]
theorem mvL_cs {N : List Nat} (h : ∀ n ∈ N, n ≤ 119) : Cs N.length 119 (mvL 0 N) := by
  refine ⟨mvL_len N 0, fun i hi => ?_, fun b hb => ?_⟩
  · have hi' : i < N.length := by rwa [mvL_len] at hi
    have := mvL_at N 0 i hi'
    rw [List.getElem?_eq_getElem hi] at this
    rw [Option.some.inj this]
    simp
  · obtain ⟨i, hi, rfl⟩ := List.mem_iff_getElem.1 hb
    have hi' : i < N.length := by rwa [mvL_len] at hi
    have e := mvL_at N 0 i hi'
    rw [List.getElem?_eq_getElem hi] at e
    rw [Option.some.inj e]
    simp only [List.length_replicate]
    exact h _ (List.getElem_mem _)
/-- An Alloc of what is small: there is room, or there is none. -/
theorem mv_alloc (x : Nat → Prop) (A n : Nat) (N : List Nat) (n0 : Nat) (w : World) (h : HX x A 2048 (mvL 0 N) n0 w) (hN : ∀ n ∈ N, n ≤ 119) (hn : n ≤ 119) :
    Calls Tryd.prog 8 #[.pointer (some ⟨A, 0, none⟩), .int .i64 (n : Int)] w fun e w' => (e = .returned (.tuple #[.int .i64 0, .int .i64 4]) ∧ w = w') ∨ (e = .returned (.tuple #[.int .i64 ((N.length : Int) + 1), .int .i64 0]) ∧ LX x A 2048 (mvL 0 N ++ [(N.length + 1, Ar.zeros n)]) n0 w w') := by
  by_cases hc : sumC (mvL 0 N) + Ar.cost n ≤ 2048
  · refine (alloc_ok x A 2048 _ n0 _ n w rfl h (by omega) hc).mono fun e w' ⟨L1, L2, e1, hl, he, hL⟩ => .inr ?_
    obtain ⟨rfl, e2⟩ := (e1 ▸ mvL_cs hN : Cs N.length 119 (L1 ++ L2)).cut hl
    rw [List.append_nil] at e1
    subst e1
    rw [e2] at he hL
    exact ⟨by rw [he]; norm_cast, hL⟩
  · exact (alloc_no x A 2048 _ n0 _ n w rfl h (by omega) (by omega)).mono fun e w' hk => .inl hk
theorem mv_write (x : Nat → Prop) (A n : Nat) (N : List Nat) (n0 : Nat) (z : Int) (v : Value) (l : List UInt8) (w : World) (hz : z = (N.length : Int) + 1) (h : HX x A 2048 (mvL 0 N ++ [(N.length + 1, Ar.zeros n)]) n0 w) (hv : RowIn x n0 5 v (l.map encB) w) (hl : l = List.replicate n (chr N.length)) :
    Calls Tryd.prog 14 #[.pointer (some ⟨A, 0, none⟩), .int .i64 z, .int .i64 0, v] w fun e w' => e = .returned (.int .i64 0) ∧ LX x A 2048 (mvL 0 (N ++ [n])) n0 w w' := by
  have hlen : l.length = n := by rw [hl, List.length_replicate]
  refine (write_ok x A 2048 (mvL 0 N) [] (N.length + 1, Ar.zeros n) n0 z 0 0 v l w (by rw [hz]; norm_cast) rfl h (rdB_row hv) (by rw [zeros_len]; omega)).mono fun e w' ⟨he, hL⟩ => ⟨he, ?_⟩
  rw [put_all _ _ (by rw [zeros_len, hlen])] at hL
  rw [mvL_add, Nat.zero_add, ← hl]
  exact hL
/-- What is left of the blocks: those that were not given back. -/
def Stays (gone : List Bool) (k : Nat) (j : Nat) : Prop := ¬ (j < k ∧ gone[j]? = some true)
structure Rest (N : List Nat) (gone : List Bool) (k : Nat) (L : List Bl) : Prop where
  mem : ∀ b, b ∈ L ↔ ∃ j, j < N.length ∧ Stays gone k j ∧ (mvL 0 N)[j]? = some b
theorem Rest.start (N : List Nat) (gone : List Bool) : Rest N gone 0 (mvL 0 N) := by
  refine ⟨fun b => ?_⟩
  constructor
  · intro hb
    obtain ⟨j, hj, rfl⟩ := List.mem_iff_getElem.1 hb
    exact ⟨j, by rwa [mvL_len] at hj, fun h => by have := h.1; omega, List.getElem?_eq_getElem hj⟩
  · rintro ⟨j, _, _, h⟩
    exact List.mem_of_getElem? h
theorem Rest.skip {N : List Nat} {gone : List Bool} {k : Nat} {L : List Bl} (h : Rest N gone k L) (hk : gone[k]? ≠ some true) : Rest N gone (k + 1) L := by
  refine ⟨fun b => (h.mem b).trans ⟨?_, ?_⟩⟩
  · rintro ⟨j, h1, h2, h3⟩
    refine ⟨j, h1, fun e => ?_, h3⟩
    by_cases e2 : j = k
    · subst e2; exact hk e.2
    · exact h2 ⟨by have := e.1; omega, e.2⟩
  · rintro ⟨j, h1, h2, h3⟩
    exact ⟨j, h1, fun e => h2 ⟨by have := e.1; omega, e.2⟩, h3⟩
theorem mvL_fst {N : List Nat} {j : Nat} {b : Bl} (h : (mvL 0 N)[j]? = some b) : b.1 = j + 1 ∧ j < N.length := by
  have hj : j < N.length := by rw [← mvL_len N 0]; exact (List.getElem?_eq_some_iff.1 h).1
  rw [mvL_at N 0 j hj] at h
  cases h
  exact ⟨by simp, hj⟩
theorem Rest.free {N : List Nat} {gone : List Bool} {k : Nat} {L1 L2 : List Bl} {b : Bl} (h : Rest N gone k (L1 ++ b :: L2)) (hs : (L1 ++ b :: L2).Pairwise (fun x y => x.1 < y.1)) (hk : gone[k]? = some true) (hb : b.1 = k + 1) : Rest N gone (k + 1) (L1 ++ L2) := by
  have hne : ∀ c ∈ L1 ++ L2, c.1 ≠ b.1 := fun c hc e => by
    rw [List.pairwise_append, List.pairwise_cons] at hs
    rcases List.mem_append.1 hc with hc | hc
    · have := hs.2.2 c hc b (by simp); omega
    · have := hs.2.1.1 c hc; omega
  refine ⟨fun c => ⟨fun hc => ?_, ?_⟩⟩
  · obtain ⟨j, h1, h2, h3⟩ := (h.mem c).1 (by rcases List.mem_append.1 hc with hc | hc <;> simp [hc])
    refine ⟨j, h1, fun e => h2 ⟨?_, e.2⟩, h3⟩
    have := (mvL_fst h3).1
    have := hne c hc
    have := e.1
    omega
  · rintro ⟨j, h1, h2, h3⟩
    have hc := (h.mem c).2 ⟨j, h1, fun e => h2 ⟨by have := e.1; omega, e.2⟩, h3⟩
    have hjk : j ≠ k := fun e => h2 ⟨by omega, by rw [e]; exact hk⟩
    have := (mvL_fst h3).1
    rcases List.mem_append.1 hc with hc | hc
    · simp [hc]
    · rcases List.mem_cons.1 hc with rfl | hc
      · omega
      · simp [hc]
theorem mv_free (x : Nat → Prop) (A : Nat) (N : List Nat) (gone : List Bool) (k : Nat) (L : List Bl) (n0 : Nat) (z : Int) (w : World) (hz : z = (k : Int) + 1) (h : HX x A 2048 L n0 w) (hr : Rest N gone k L) (hk : k < N.length) (hg : gone[k]? = some true) :
    Calls Tryd.prog 10 #[.pointer (some ⟨A, 0, none⟩), .int .i64 z] w fun e w' => e = .returned (.int .i64 0) ∧ ∃ L', LX x A 2048 L' n0 w w' ∧ Rest N gone (k + 1) L' := by
  obtain ⟨b, hb⟩ : ∃ b, (mvL 0 N)[k]? = some b := ⟨_, mvL_at N 0 k hk⟩
  have hmem := (hr.mem b).2 ⟨k, hk, fun e => by have := e.1; omega, hb⟩
  have hb1 := (mvL_fst hb).1
  obtain ⟨L1, L2, rfl⟩ := List.append_of_mem hmem
  refine (free_ok x A 2048 L1 L2 b n0 z w (by rw [hz, hb1]; norm_cast) h).mono fun e w' ⟨he, hL⟩ => ⟨he, L1 ++ L2, hL, hr.free h.each.1 hg hb1⟩
theorem mv_new (w : World) (hT : TabOk w) : Calls Tryd.prog 6 #[.int .i64 2048] w fun e w' => ∃ A, e = .returned (.tuple #[.pointer (some ⟨A, 0, none⟩), .int .i64 0]) ∧ HX (fun _ => False) A 2048 [] w.heap.size w' ∧ Below w.heap.size w w' :=
  new_x 2048 w (by decide) (by decide) hT
end Go.Proofs.YtagjjpmhacknpaaDoor
