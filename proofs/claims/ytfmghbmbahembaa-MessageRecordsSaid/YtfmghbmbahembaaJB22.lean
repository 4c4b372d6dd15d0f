/- 2 texts put together: MData2, Set. -/
import Derived.BigRegion
import Derived.Test.YtfmghbmbahembaaJB10
import Derived.Test.YtfmghbmbahembaaJB13
import Derived.Test.YtfmghbmbahembaaJB21
/- writeData: the walk. -/
namespace Go.Proofs.Ytfmghbmbahembaa
open Go.RowKit Go.Shelf Go.Maps
attribute [local go_sem] Oper.semAt_some

def WdJ (B : Nat) (S : WS) (sq : Bool) (d : List UInt8) (ps : List (Nat × Nat)) (f : Nat → Prop) (w : World) (Bb Bd : Nat) (pre : List (Nat × Nat)) (W : World) : Prop := WdI B S sq d ps f w Bb pre W ∧ Boxed W Bd 9 (.string ⟨d.toArray⟩)
theorem boxed_bk {B base : Nat} {t : TypeId} {v : Value} : OwnBk (β := List (Nat × Nat)) base (fun _ W => Boxed W B t v) := by
  intro pre A C row h hg hr
  exact boxed_book h hg (fun r e => (hr r e).2)
theorem kb_boxed {Bd : Nat} {t : TypeId} {v : Value} {W W' : World} (h : Boxed W Bd t v) (h' : Boxed W' Bd t v) : KB Bd W W' := fun u hu => by
  rw [h.cell] at hu
  cases hu
  exact h'.cell

theorem turn_undrew {f : Nat → Prop} {W W' : World} (h : Turn f W.drew W') : Turn f W W' := ⟨h.os, h.tape, h.output, h.size, h.block, h.book, h.boxed⟩
theorem grow_base {f : Nat → Prop} {w w0 W : World} (h : w.heap.size ≤ w0.heap.size) (k : Nat) (hk : grow f w0 W k) : grow f w W k := hk.imp id (fun h' => ⟨by omega, h'.2⟩)
theorem grow_undrew {f : Nat → Prop} {W W' : World} (k : Nat) (h : grow f W.drew W' k) : grow f W W' k := h
set_option maxRecDepth 100000 in
set_option maxHeartbeats 8000000 in
theorem wdata_any (B : Nat) (S : WS) (f : Nat → Prop) (r : Rd.RR) (w : World) (h : WrE B S f w) (hf : ∀ k, f k → k < w.heap.size) (hd : r.data.length ≤ 100000) (hl : S.size ≤ 700000) (htb : S.tab.length ≤ 700000) (hT : TabOk S) :
    Calls Try.prog 67 #[.pointer (some ⟨B, 0, none⟩), rrV r] w (ActRet B (Ms.wD S r) f w) := by
  obtain ⟨n, t, c, l, d⟩ := r
  have hWD : Ms.wD S ⟨n, t, c, l, d⟩ = Ms.wParts (t != 33) d 0 (Rd.partsD t d) S := rfl
  obtain ⟨sq, hsq⟩ : ∃ sq, ((t : Int) != 33) = sq := ⟨_, rfl⟩
  rw [hWD, hsq]
  simp only at hd
  have HT := Lib.hid hT
  have HW := Lib.hid h
  clear h hT hWD
  unfold rrV
  simp only
  refine (callsIn_wide (n := 20)).1 ?_
  refine callsIn_of_wp_marks Try.func67 rfl trivial ?_ rfl
  simp only [Try.ntmps67, List.size_toArray, List.length_cons, List.length_nil, Nat.reduceAdd, Nat.reduceSub, Array.replicate_succ, Array.replicate_zero, List.push_toArray, List.append_toArray, List.nil_append, List.cons_append]
  gi_wp2_with (refine ⟨trivial, ?_⟩; gi_at_call 82; refine (callsIn_wide.2 (names_any t d _)).mono ?_; rintro e w' ⟨rfl, rfl⟩)
  obtain ⟨w0, hw0⟩ : ∃ w0, (w.alloc (.cells #[.pointer (some ⟨B, 0, none⟩)] 76)).alloc (.cells #[.string ⟨n.toArray⟩, .int .i64 t, .int .i64 c, .int .i64 l, .string ⟨d.toArray⟩] 45) = w0 := ⟨_, rfl⟩
  have hsz0 : w0.heap.size = w.heap.size + 2 := by rw [← hw0]; simp
  have hbw0 : Below w.heap.size w w0 := by rw [← hw0]; exact ((Below.refl _ _).alloc (Nat.le_refl _) _).alloc (by simp) _
  have hbw : Boxed w0 w.heap.size 76 (.pointer (some ⟨B, 0, none⟩)) := by rw [← hw0]; exact (Boxed.new w 76 (.pointer (some ⟨B, 0, none⟩))).alloc _
  have hbr : Block w0 (w.heap.size + 1) #[.string ⟨n.toArray⟩, .int .i64 t, .int .i64 c, .int .i64 l, .string ⟨d.toArray⟩] 45 := by
    rw [← hw0]
    have := Block.new (w.alloc (.cells #[.pointer (some ⟨B, 0, none⟩)] 76)) #[.string ⟨n.toArray⟩, .int .i64 t, .int .i64 c, .int .i64 l, .string ⟨d.toArray⟩] 45
    rw [World.size_alloc] at this
    exact this
  rw [hw0]
  clear hw0
  have hb4 := ((Boxed.new w0 3 (.int .i64 0)).alloc (.cells #[.int .i64 t] 3)).alloc (.cells #[.string ⟨d.toArray⟩] 9)
  have hbt := (Boxed.new (w0.alloc (.cells #[.int .i64 0] 3)) 3 (.int .i64 t)).alloc (.cells #[.string ⟨d.toArray⟩] 9)
  have hbd := Boxed.new ((w0.alloc (.cells #[.int .i64 0] 3)).alloc (.cells #[.int .i64 t] 3)) 9 (.string ⟨d.toArray⟩)
  have hbl : Below w0.heap.size w0 (((w0.alloc (.cells #[.int .i64 0] 3)).alloc (.cells #[.int .i64 t] 3)).alloc (.cells #[.string ⟨d.toArray⟩] 9)) := (((Below.refl _ _).alloc (Nat.le_refl _) _).alloc (by simp) _).alloc (by simp; omega) _
  have hszW : (((w0.alloc (.cells #[.int .i64 0] 3)).alloc (.cells #[.int .i64 t] 3)).alloc (.cells #[.string ⟨d.toArray⟩] 9)).heap.size = w0.heap.size + 3 := by simp
  simp only [World.size_alloc] at hbt hbd
  rw [hsz0] at hb4 hbt hbd
  generalize ((w0.alloc (.cells #[.int .i64 0] 3)).alloc (.cells #[.int .i64 t] 3)).alloc (.cells #[.string ⟨d.toArray⟩] 9) = W0 at *
  have hfR : ¬ f (w.heap.size + 1) := fun e => by have := hf _ e; omega
  have HFIN : Hid (∀ S' W', Turn f w0 W' → WrE B S' (grow f w0 W') W' → ActRet B S' f w (.returned (.tuple #[])) W') := Lib.hid (fun S' W' h1 h2 => ⟨rfl, (Turn.of_below hbw0).trans (h1.mono fun _ _ => .inl), h2.widen fun k _ hk => grow_base (by omega) k hk⟩)
  have hbd0 := hbd
  refine wpIn_rangeFunc_ownB rfl (by omega) (gf := 97) (lb := #[.pointer (some ⟨w.heap.size + 1 + 1 + 1, 0, none⟩), .pointer (some ⟨w.heap.size + 1 + 1 + 1 + 1, 0, none⟩)]) (by rfl) trivial (enters_of Try.func97 (by kernel_rfl) rfl)
    (names_stops _ (by omega) (w.heap.size + 1 + 1 + 1) (w.heap.size + 1 + 1 + 1 + 1) t d hd _ hbt.cell hbd.cell) kb_t kb_b (Below.refl _ _) (fun _ => rfl)
    (WdJ B S sq d (Rd.partsD t d) f w0 (w.heap.size + 1 + 1) (w.heap.size + 1 + 1 + 1 + 1)) (fun c pre W => False)
    (OwnBk.and (wdI_own (by omega)) boxed_bk) (fun c s A B row hs hg hr => hs)
    ⟨⟨S, WdAt.start S sq d _ HT.out, hb4, Turn.of_below hbl, ((HW.out.below hbw0).below hbl).widen fun _ _ => .inl⟩, hbd⟩
    (fun x => { tmps := #[.pointer (some ⟨B, 0, none⟩), .agg #[.string ⟨n.toArray⟩, .int .i64 t, .int .i64 c, .int .i64 l, .string ⟨d.toArray⟩], .pointer (some ⟨w.heap.size, 0, none⟩), .pointer (some ⟨w.heap.size + 1, 0, none⟩), .pointer (some ⟨w.heap.size + 1 + 1, 0, none⟩), .int .i64 (x.1 : Int), .int .i64 (x.2 : Int), .pointer (some ⟨w.heap.size + 1, 1, none⟩), .int .i64 t, .pointer (some ⟨w.heap.size + 1, 4, none⟩), .string ⟨d.toArray⟩, (.func (.func 97) #[] #[.pointer (some ⟨w.heap.size + 1 + 1 + 1, 0, none⟩), .pointer (some ⟨w.heap.size + 1 + 1 + 1 + 1, 0, none⟩)]), .int .i64 (x.1 : Int), .int .i64 (x.2 : Int), undef, undef, undef, undef, undef, undef, undef, undef, undef, undef, undef, undef, undef, undef, undef, undef, undef, undef, undef, undef, undef, undef, undef, undef, undef, undef, undef, undef], defers := [] }) ?assign ?body ?done ?stop
  case assign =>
    intro l x W K hK
    gi_wp2
    exact hK
  case body =>
    rintro l1 pre x W ⟨⟨Sk, hP, hb4, ht, hw⟩, hbd⟩ hlen hsp
    obtain ⟨hc1, hc2⟩ := Rd.partsD_chain hsp
    have hnx := hP.next hsp hc1 hc2
    have hsk := hP.size
    have htk := hP.tab
    have hok := hP.ok
    obtain ⟨e, he⟩ : ∃ e, Rd.endOf 0 pre = e := ⟨_, rfl⟩
    rw [he] at hc1 hnx hsk htk hb4
    have hx2 := ht.boxed _ _ _ hbw
    have kR := hbr.turnF ht hfR
    have c2 := hx2.cell
    have c34 := kR.cell (i := 4) (v := .string ⟨d.toArray⟩) rfl
    have c4 := hb4.cell
    obtain ⟨A, hA⟩ : ∃ A, (d.drop e).take (x.1 - e) = A := ⟨_, rfl⟩
    obtain ⟨N, hN⟩ : ∃ N, (d.drop x.1).take x.2 = N := ⟨_, rfl⟩
    have hAl : A.length ≤ x.1 - e := by rw [← hA, List.length_take, List.length_drop]; omega
    have hNl : N.length ≤ 100000 := by rw [← hN, List.length_take, List.length_drop]; omega
    have hs1 := fun W => run_cut (P := Try.prog) Try.underlying9 (l := d) (l' := A) (lo := (e : Int)) (hi := (x.1 : Int)) (by omega) (by omega) (by omega) (by rw [← hA]; congr 1) W
    have hs2 := fun W => run_cut (P := Try.prog) Try.underlying9 (l := d) (l' := N) (lo := (x.1 : Int)) (hi := (x.1 : Int) + (x.2 : Int)) (by omega) (by omega) (by omega) (by rw [← hN]; congr 1; omega) W
    rw [hA, hN] at hnx
    have HNX := Lib.hid hnx
    have HX2 := Lib.hid hx2
    have HKR := Lib.hid kR
    have HB4 := Lib.hid hb4
    have HBD := Lib.hid hbd
    have HTT := Lib.hid ht
    have HWW := Lib.hid hw
    have HOK := Lib.hid hok
    have HS1 := Lib.hid hs1
    have HS2 := Lib.hid hs2
    replace c2 := Lib.hid c2
    replace c34 := Lib.hid c34
    replace c4 := Lib.hid c4
    clear hnx hx2 kR hb4 hbd ht hw hsp hP hA hN he hok hs1 hs2
    have hmp : Try.prog.follows .mixedOrders = true := by kernel_rfl
    have hF1 : Fence.wide.fn 64 := trivial
    have hF2 : Fence.wide.fn 37 := trivial
    gi_wp2_with fail
    refine wpIn_region_slotsTL (by kernel_rfl) (by simp) slotLe (slotPhi ((fun v _ => v = ?a14) :: (fun v _ => v = ?a15) :: (fun v _ => v = ?a16) :: (fun v _ => v = ?a17) :: (fun v _ => v = ?a18) :: (fun v _ => v = ?a19) :: (fun v W' => ReadB v A W') :: [])) slotLe_refl slotLe_trans (slotPhi_stable ?stb) (by kernel_rfl) (by kernel_rfl) (by kernel_rfl) (by kernel_rfl) (by kernel_rfl) ?steps ?fin
    case stb =>
      refine ⟨by intro _ _ _ _ h; exact h, ?_⟩
      refine ⟨by intro _ _ _ _ h; exact h, ?_⟩
      refine ⟨by intro _ _ _ _ h; exact h, ?_⟩
      refine ⟨by intro _ _ _ _ h; exact h, ?_⟩
      refine ⟨by intro _ _ _ _ h; exact h, ?_⟩
      refine ⟨by intro _ _ _ _ h; exact h, ?_⟩
      refine ⟨by intro _ _ _ h k; exact readB_below k h, ?_⟩
      exact trivial
    case steps =>
      refine ⟨?_, ?_⟩
      · intro a W K N hK
        have e2 : a.tmps[2]?.getD undef = .pointer (some ⟨w.heap.size, 0, none⟩) := N.was' 2 _ (by kernel_rfl) rfl
        rw [if_pos (wanted_no rfl)]
        have z := keep_cell N.le c2.out
        go_simp
        refine hK _ _ (slotLe_refl _) ?_
        exact rfl
      refine ⟨?_, ?_⟩
      · intro a W K N hK
        have e3 : a.tmps[3]?.getD undef = .pointer (some ⟨w.heap.size + 1, 0, none⟩) := N.was' 3 _ (by kernel_rfl) rfl
        rw [if_pos (wanted_no rfl)]
        go_simp
        refine hK _ _ (slotLe_refl _) ?_
        exact rfl
      refine ⟨?_, ?_⟩
      · intro a W K N hK
        have e15 : a.tmps[15]?.getD undef = _ := N.dep' 1 15 (by kernel_rfl)
        rw [if_pos (wanted_no rfl)]
        have z := keep_cell N.le c34.out
        go_simp
        refine hK _ _ (slotLe_refl _) ?_
        exact rfl
      refine ⟨?_, ?_⟩
      · intro a W K N hK
        have e4 : a.tmps[4]?.getD undef = .pointer (some ⟨w.heap.size + 1 + 1, 0, none⟩) := N.was' 4 _ (by kernel_rfl) rfl
        rw [if_pos (wanted_no rfl)]
        have z := keep_cell N.le c4.out
        go_simp
        refine hK _ _ (slotLe_refl _) ?_
        exact rfl
      refine ⟨?_, ?_⟩
      · intro a W K N hK
        have e5 : a.tmps[5]?.getD undef = .int .i64 (x.1 : Int) := N.was' 5 _ (by kernel_rfl) rfl
        rw [if_pos (wanted_no rfl)]
        go_simp
        refine hK _ _ (slotLe_refl _) ?_
        exact rfl
      refine ⟨?_, ?_⟩
      · intro a W K N hK
        have e16 : a.tmps[16]?.getD undef = _ := N.dep' 2 16 (by kernel_rfl)
        have e17 : a.tmps[17]?.getD undef = _ := N.dep' 3 17 (by kernel_rfl)
        have e18 : a.tmps[18]?.getD undef = _ := N.dep' 4 18 (by kernel_rfl)
        rw [if_pos (wanted_no rfl)]
        have z := HS1.out W
        go_simp
        refine hK _ _ (slotLe_refl _) ?_
        exact rfl
      refine ⟨?_, ?_⟩
      · intro a W K N hK
        have e19 : a.tmps[19]?.getD undef = _ := N.dep' 5 19 (by kernel_rfl)
        rw [if_pos (wanted_no rfl)]
        obtain ⟨cp, w3, hcv, hrd, hb3⟩ := conv_bytes W A
        go_simp
        refine hK _ _ hb3 ?_
        exact hrd
      exact trivial
    case fin =>
      intro V hV
      simp only [FinAll, slotPhi, List.dropLast, List.getLast_cons_cons, List.getLast_singleton, List.getD_cons_zero, List.getD_cons_succ, forall_eq, Act.put, List.setIfInBounds_toArray, List.set_cons_zero, List.set_cons_succ]
      intro v20 h20
      have HV := Lib.hid (below_undrew hV)
      clear hV
      gi_wp2_with fail
      gi_at_call 64
      refine (CallsIn.inRound l1 (callsIn_wide.2 (bytes_any B Sk (grow f w0 W) A _ V (HWW.out.below HV.out) h20 (by omega)))).mono ?_
      rintro e4 w4 ⟨rfl, ht4, hw4⟩
      have hs1 := HTT.out.size
      have T4 : Turn (grow f w0 W) W w4 := (Turn.of_below HV.out).then ht4
      have hs4 := T4.size
      have T4' := HTT.out.trans T4
      have hb44 := T4.boxed _ _ _ HB4.out
      have c44 := hb44.cell
      have f44 := hb44.frozen
      obtain ⟨w5, hw5e⟩ : ∃ w5, w4.setCell ⟨w.heap.size + 1 + 1, 0, none⟩ (.int .i64 ((x.1 : Int) + (x.2 : Int))) = w5 := ⟨_, rfl⟩
      have hsz5 : w5.heap.size = w4.heap.size := by rw [← hw5e]; simp [World.setCell]
      have hw5 : WrE B (Sk.put A) (grow f w0 w5) w5 := by
        rw [← hw5e]
        refine ((hw4.widen (g := grow f w0 w4) fun k _ hk => ?_).setBox hb44 (by decide) _).widen fun k _ hk => grow_le (by simp [World.setCell]) k hk
        have hb3s := HV.out.size
        rcases hk with (hk | hk) | hk
        · exact .inl hk
        · exact .inr ⟨hk.1, by omega⟩
        · exact .inr ⟨by omega, hk.2⟩
      have ht5 : Turn f w0 w5 := by rw [← hw5e]; exact T4'.setNew (b := w.heap.size + 1 + 1) (by omega) (.int .i64 ((x.1 : Int) + (x.2 : Int)))
      have hb45 : Boxed w5 (w.heap.size + 1 + 1) 3 (.int .i64 ((x.1 : Int) + (x.2 : Int))) := by rw [← hw5e]; exact hb44.set (.int .i64 ((x.1 : Int) + (x.2 : Int)))
      have hbd5 : Boxed w5 (w.heap.size + 1 + 1 + 1 + 1) 9 (.string ⟨d.toArray⟩) := by rw [← hw5e]; exact (T4.boxed _ _ _ HBD.out).other (B' := w.heap.size + 1 + 1) (by omega) (.int .i64 ((x.1 : Int) + (x.2 : Int)))
      have hk5 : KeepsBk W0.heap.size W w5 := by
        rw [← hw5e]
        exact (keepsBk_turn T4 W0.heap.size).trans (keepsFrom_book ((KeepsOthers.setCell w4 ⟨w.heap.size + 1 + 1, 0, none⟩ (.int .i64 ((x.1 : Int) + (x.2 : Int)))).from _))
      have d2 := Lib.hid (ht5.boxed _ _ _ hbw).cell
      have d34 := Lib.hid ((hbr.turnF ht5 hfR).cell (i := 4) (v := .string ⟨d.toArray⟩) rfl)
      have d31 := Lib.hid ((hbr.turnF ht5 hfR).cell (i := 1) (v := .int .i64 t) rfl)
      have d4 := Lib.hid hb45.cell
      have HW5E := Lib.hid hw5e
      have HT5 := Lib.hid ht5
      have HW5 := Lib.hid hw5
      have HB45 := Lib.hid hb45
      have HBD5 := Lib.hid hbd5
      have HK5 := Lib.hid hk5
      clear T4 T4' hb44 ht4 hw4 hw5e ht5 hw5 hb45 hbd5 hk5
      gi_wp2_with fail
      rw [HW5E.out]
      clear HW5E c44 f44 c2 c34 c4 HS1
      refine wpIn_region_slotsTL (by kernel_rfl) (by simp) slotLe (slotPhi ((fun v _ => v = ?b25) :: (fun v _ => v = ?b26) :: (fun v _ => v = ?b27) :: (fun v _ => v = ?b28) :: (fun v _ => v = ?b29) :: (fun v _ => v = ?b30) :: (fun v _ => v = ?b31) :: (fun v _ => v = ?b32) :: (fun v _ => v = ?b33) :: [])) slotLe_refl slotLe_trans (slotPhi_stable ?stb) (by kernel_rfl) (by kernel_rfl) (by kernel_rfl) (by kernel_rfl) (by kernel_rfl) ?steps ?fin
      case stb =>
        refine ⟨by intro _ _ _ _ h; exact h, ?_⟩
        refine ⟨by intro _ _ _ _ h; exact h, ?_⟩
        refine ⟨by intro _ _ _ _ h; exact h, ?_⟩
        refine ⟨by intro _ _ _ _ h; exact h, ?_⟩
        refine ⟨by intro _ _ _ _ h; exact h, ?_⟩
        refine ⟨by intro _ _ _ _ h; exact h, ?_⟩
        refine ⟨by intro _ _ _ _ h; exact h, ?_⟩
        refine ⟨by intro _ _ _ _ h; exact h, ?_⟩
        refine ⟨by intro _ _ _ _ h; exact h, ?_⟩
        exact trivial
      case steps =>
        refine ⟨?_, ?_⟩
        · intro a W K N hK
          have e2 : a.tmps[2]?.getD undef = .pointer (some ⟨w.heap.size, 0, none⟩) := N.was' 2 _ (by kernel_rfl) rfl
          rw [if_pos (wanted_no rfl)]
          have z := keep_cell N.le d2.out
          go_simp
          refine hK _ _ (slotLe_refl _) ?_
          exact rfl
        refine ⟨?_, ?_⟩
        · intro a W K N hK
          have e3 : a.tmps[3]?.getD undef = .pointer (some ⟨w.heap.size + 1, 0, none⟩) := N.was' 3 _ (by kernel_rfl) rfl
          rw [if_pos (wanted_no rfl)]
          go_simp
          refine hK _ _ (slotLe_refl _) ?_
          exact rfl
        refine ⟨?_, ?_⟩
        · intro a W K N hK
          have e26 : a.tmps[26]?.getD undef = _ := N.dep' 1 26 (by kernel_rfl)
          rw [if_pos (wanted_no rfl)]
          have z := keep_cell N.le d34.out
          go_simp
          refine hK _ _ (slotLe_refl _) ?_
          exact rfl
        refine ⟨?_, ?_⟩
        · intro a W K N hK
          have e5 : a.tmps[5]?.getD undef = .int .i64 (x.1 : Int) := N.was' 5 _ (by kernel_rfl) rfl
          rw [if_pos (wanted_no rfl)]
          go_simp
          refine hK _ _ (slotLe_refl _) ?_
          exact rfl
        refine ⟨?_, ?_⟩
        · intro a W K N hK
          have e4 : a.tmps[4]?.getD undef = .pointer (some ⟨w.heap.size + 1 + 1, 0, none⟩) := N.was' 4 _ (by kernel_rfl) rfl
          rw [if_pos (wanted_no rfl)]
          have z := keep_cell N.le d4.out
          go_simp
          refine hK _ _ (slotLe_refl _) ?_
          exact rfl
        refine ⟨?_, ?_⟩
        · intro a W K N hK
          have e27 : a.tmps[27]?.getD undef = _ := N.dep' 2 27 (by kernel_rfl)
          have e28 : a.tmps[28]?.getD undef = _ := N.dep' 3 28 (by kernel_rfl)
          have e29 : a.tmps[29]?.getD undef = _ := N.dep' 4 29 (by kernel_rfl)
          rw [if_pos (wanted_no rfl)]
          have z := HS2.out W
          go_simp
          refine hK _ _ (slotLe_refl _) ?_
          exact rfl
        refine ⟨?_, ?_⟩
        · intro a W K N hK
          have e3 : a.tmps[3]?.getD undef = .pointer (some ⟨w.heap.size + 1, 0, none⟩) := N.was' 3 _ (by kernel_rfl) rfl
          rw [if_pos (wanted_no rfl)]
          go_simp
          refine hK _ _ (slotLe_refl _) ?_
          exact rfl
        refine ⟨?_, ?_⟩
        · intro a W K N hK
          have e31 : a.tmps[31]?.getD undef = _ := N.dep' 6 31 (by kernel_rfl)
          rw [if_pos (wanted_no rfl)]
          have z := keep_cell N.le d31.out
          go_simp
          refine hK _ _ (slotLe_refl _) ?_
          exact rfl
        refine ⟨?_, ?_⟩
        · intro a W K N hK
          have e32 : a.tmps[32]?.getD undef = _ := N.dep' 7 32 (by kernel_rfl)
          rw [if_pos (wanted_no rfl)]
          go_simp
          refine hK _ _ (slotLe_refl _) ?_
          exact rfl
        exact trivial
      case fin =>
        intro V hV
        simp only [FinAll, slotPhi, List.dropLast, List.getLast_cons_cons, List.getLast_singleton, List.getD_cons_zero, List.getD_cons_succ, forall_eq, Act.put, List.setIfInBounds_toArray, List.set_cons_zero, List.set_cons_succ]
        have HV2 := Lib.hid (below_undrew hV)
        clear hV
        gi_wp2_with fail
        gi_at_call 37
        refine (CallsIn.inRound l1 (callsIn_wide.2 (name_any B (Sk.put A) (grow f w0 w5) N sq V (HW5.out.below HV2.out) hNl (by simp only [WS.put]; omega) (by simp only [WS.put]; omega) (tabOk_put HOK.out A)))).mono ?_
        rintro e6 w6 ⟨rfl, ht6, hw6⟩
        gi_wp2_with fail
        have T6 : Turn (grow f w0 w5) w5 w6 := (Turn.of_below HV2.out).then ht6
        have h5 := HV2.out.size
        have h6 := ht6.size
        have h7 := HT5.out.size
        refine ⟨HK5.out.trans (keepsBk_turn T6 _), kb_boxed HBD.out (T6.boxed _ _ _ HBD5.out), ⟨_, HNX.out, ?_, HT5.out.trans T6, hw6.widen fun k _ hk => ?_⟩, T6.boxed _ _ _ HBD5.out⟩
        · rw [Rd.endOf_snoc]; push_cast; exact T6.boxed _ _ _ HB45.out
        · rcases hk with (hk | hk) | hk
          · exact .inl hk
          · exact .inr ⟨hk.1, by omega⟩
          · exact .inr ⟨by omega, hk.2⟩
  case done =>
    rintro D ys W hD hS ⟨⟨Sk, hP, hb4, ht, hw⟩, hbd⟩ hK
    obtain rfl : ys = Rd.partsD t d := hS
    have hdn := hP.done
    have hsk := hP.size
    have htk := hP.tab
    have hle := Rd.endOf_le (t := t) (d := d) (List.prefix_rfl)
    obtain ⟨e, he⟩ : ∃ e, Rd.endOf 0 (Rd.partsD t d) = e := ⟨_, rfl⟩
    rw [he] at hdn hsk htk hle hb4
    have c2 := Lib.hid (ht.boxed _ _ _ hbw).cell
    have c34 := Lib.hid ((hbr.turnF ht hfR).cell (i := 4) (v := .string ⟨d.toArray⟩) rfl)
    have c4 := Lib.hid hb4.cell
    obtain ⟨A, hA⟩ : ∃ A, d.drop e = A := ⟨_, rfl⟩
    rw [hA] at hdn
    have hAl : A.length ≤ d.length - e := by rw [← hA, List.length_drop]; omega
    have hs1 := fun W => run_from (P := Try.prog) Try.underlying9 (l := d) (l' := A) (lo := (e : Int)) (by omega) (by omega) (by rw [← hA]; congr 1) W
    have HS1 := Lib.hid hs1
    have HDN := Lib.hid hdn
    have HTT := Lib.hid ht
    have HWW := Lib.hid hw
    have HDK := Lib.hid hK
    clear hs1 hdn ht hw hb4 hbd hP he hA hK
    have hmp : Try.prog.follows .mixedOrders = true := by kernel_rfl
    gi_wp2_with fail
    refine wpIn_wide.2 ?_
    refine wp_region_slotsTL (by simp) slotLe (slotPhi ((fun v _ => v = ?c35) :: (fun v _ => v = ?c36) :: (fun v _ => v = ?c37) :: (fun v _ => v = ?c38) :: (fun v _ => v = ?c39) :: (fun v W' => ReadB v A W') :: [])) slotLe_refl slotLe_trans (slotPhi_stable ?stb) (by kernel_rfl) (by kernel_rfl) (by kernel_rfl) (by kernel_rfl) (by kernel_rfl) ?steps ?fin
    case stb =>
      refine ⟨by intro _ _ _ _ h; exact h, ?_⟩
      refine ⟨by intro _ _ _ _ h; exact h, ?_⟩
      refine ⟨by intro _ _ _ _ h; exact h, ?_⟩
      refine ⟨by intro _ _ _ _ h; exact h, ?_⟩
      refine ⟨by intro _ _ _ _ h; exact h, ?_⟩
      refine ⟨by intro _ _ _ h k; exact readB_below k h, ?_⟩
      exact trivial
    case steps =>
      refine ⟨?_, ?_⟩
      · intro a W K N hK
        have e2 : a.tmps[2]?.getD undef = .pointer (some ⟨w.heap.size, 0, none⟩) := N.was' 2 _ (by kernel_rfl) rfl
        rw [if_pos (wanted_no rfl)]
        have z := keep_cell N.le c2.out
        go_simp
        refine hK _ _ (slotLe_refl _) ?_
        exact rfl
      refine ⟨?_, ?_⟩
      · intro a W K N hK
        have e3 : a.tmps[3]?.getD undef = .pointer (some ⟨w.heap.size + 1, 0, none⟩) := N.was' 3 _ (by kernel_rfl) rfl
        rw [if_pos (wanted_no rfl)]
        go_simp
        refine hK _ _ (slotLe_refl _) ?_
        exact rfl
      refine ⟨?_, ?_⟩
      · intro a W K N hK
        have e36 : a.tmps[36]?.getD undef = _ := N.dep' 1 36 (by kernel_rfl)
        rw [if_pos (wanted_no rfl)]
        have z := keep_cell N.le c34.out
        go_simp
        refine hK _ _ (slotLe_refl _) ?_
        exact rfl
      refine ⟨?_, ?_⟩
      · intro a W K N hK
        have e4 : a.tmps[4]?.getD undef = .pointer (some ⟨w.heap.size + 1 + 1, 0, none⟩) := N.was' 4 _ (by kernel_rfl) rfl
        rw [if_pos (wanted_no rfl)]
        have z := keep_cell N.le c4.out
        go_simp
        refine hK _ _ (slotLe_refl _) ?_
        exact rfl
      refine ⟨?_, ?_⟩
      · intro a W K N hK
        have e37 : a.tmps[37]?.getD undef = _ := N.dep' 2 37 (by kernel_rfl)
        have e38 : a.tmps[38]?.getD undef = _ := N.dep' 3 38 (by kernel_rfl)
        rw [if_pos (wanted_no rfl)]
        have z := HS1.out W
        go_simp
        refine hK _ _ (slotLe_refl _) ?_
        exact rfl
      refine ⟨?_, ?_⟩
      · intro a W K N hK
        have e39 : a.tmps[39]?.getD undef = _ := N.dep' 4 39 (by kernel_rfl)
        rw [if_pos (wanted_no rfl)]
        obtain ⟨cp, w3, hcv, hrd, hb3⟩ := conv_bytes W A
        go_simp
        refine hK _ _ hb3 ?_
        exact hrd
      exact trivial
    case fin =>
      intro V hV
      simp only [FinAll, slotPhi, List.dropLast, List.getLast_cons_cons, List.getLast_singleton, List.getD_cons_zero, List.getD_cons_succ, forall_eq, Act.put, List.setIfInBounds_toArray, List.set_cons_zero, List.set_cons_succ]
      intro v40 h40
      have HV := Lib.hid (below_undrew hV)
      clear hV
      go_wp2_with fail
      refine (bytes_any B Sk (grow f w0 W) A _ V (HWW.out.below HV.out) h40 (by omega)).mono ?_
      rintro e6 w6 ⟨rfl, ht6, hw6⟩
      go_wp2_with fail
      have T6 : Turn (grow f w0 W) W w6 := (Turn.of_below HV.out).then ht6
      have hK6 := T6.book D _ HDK.out rfl
      have h5 := HV.out.size
      have h6 := ht6.size
      have h7 := HTT.out.size
      refine ⟨by simp, .inl ⟨_, _, rfl, run_takeDeferred hK6, ?_⟩⟩
      refine ⟨_, results_none rfl _ _ _, ?_⟩
      rw [HDN.out]
      refine HFIN.out _ _ ((HTT.out.trans T6).grown (grownBy_putObj' w6 D _) (fun r e => by cases e; omega)) ?_
      have hw7 : WrE B (Sk.put A) (grow f w0 w6) w6 := hw6.widen fun k _ hk => by
        rcases hk with (hk | hk) | hk
        · exact .inl hk
        · exact .inr ⟨hk.1, by omega⟩
        · exact .inr ⟨by omega, hk.2⟩
      exact (hw7.book (grownBy_putObj' w6 D _) (fun r e => by cases e; exact ⟨_, hK6, rfl⟩)).widen fun k _ => grow_le (by simp [World.putObj]) k
  case stop =>
    rintro D c pre W hD hSp h hK
    exact h.elim
end Go.Proofs.Ytfmghbmbahembaa

/- Set: two bytes are others. -/
namespace Go.Proofs.Ytfmghbmbahembaa
open Go.RowKit Go.Shelf Go.Maps
attribute [local go_sem] Oper.semAt_some

theorem ownE_setElem {base g cap n : Nat} {l : List UInt8} {W : World} (h : OwnE encB 5 base (.slice (some ⟨g, 0, none⟩) n cap) l W) {j : Nat} (_hj : j < l.length) (c : UInt8) : OwnE encB 5 base (.slice (some ⟨g, 0, none⟩) n cap) (l.set j c) (W.setCell ⟨g, j, none⟩ (encB c)) := by
  obtain ⟨h1, h2⟩ := h
  rcases h2 with ⟨e, _⟩ | ⟨g', cap', cur, e, hbg, hh, hnc, hcm, hcs, htake⟩
  · cases e
  · obtain ⟨rfl, rfl, rfl⟩ : g = g' ∧ n = l.length ∧ cap = cap' := by
      injection e with e1 e2 e3
      injection e1 with e1
      injection e1 with e1
      exact ⟨e1, e2, e3⟩
    refine ⟨by simp, .inr ⟨g, cap, cur.setIfInBounds j (encB c), by rw [List.length_set], hbg, blk_set hh j _, by rw [List.length_set]; exact hnc, hcm, by rw [Array.size_setIfInBounds]; exact hcs, ?_⟩⟩
    rw [List.length_set, Nat.mul_one, List.map_set, Array.toList_setIfInBounds, List.take_set, ← htake, Nat.mul_one]
theorem own_lit {base : Nat} {v : Value} {l : List UInt8} {W : World} (h : OwnE encB 5 base v l W) (hl : l ≠ []) : ∃ g cap, v = .slice (some ⟨g, 0, none⟩) l.length cap ∧ (∀ j, j < l.length → W.frozen? ⟨g, j, none⟩ = false) ∧ (∃ cur, W.heap[g]? = some (.cells cur 5 (0, 0)) ∧ cur.size = cap ∧ l.length ≤ cap) := by
  rcases h.2 with ⟨rfl, hn⟩ | ⟨g, cap, cur, rfl, hbg, hh, hnc, hcm, hcs, htake⟩
  · exact absurd (List.length_eq_zero_iff.1 hn) hl
  · exact ⟨g, cap, rfl, fun j _ => blk_frozen hh j, cur, hh, by omega, hnc⟩
/-- A store into a row of bytes that is no box: that a box stays one. -/
theorem boxed_setByte {W : World} {g j : Nat} {cur : Array Value} (hh : W.heap[g]? = some (.cells cur 5 (0, 0))) (hs : 1 < cur.size) {k : Nat} {t : TypeId} {u v : Value} (hb : Boxed W k t u) : Boxed (W.setCell ⟨g, j, none⟩ v) k t u := by
  refine (Below.heap_setCell W ⟨g, j, none⟩ v k (fun e => ?_)).trans hb
  have e' : k = g := e
  subst e'
  rw [show W.heap[k]? = _ from hb] at hh
  cases hh
  simp at hs
theorem byteOf_mod (z : Int) : ((byteOf z).toNat : Int) = z % 256 := byteOf_int z

set_option maxRecDepth 100000 in
set_option maxHeartbeats 4000000 in
theorem set_any (B : Nat) (S : WS) (f : Nat → Prop) (z n : Int) (w : World) (h : WrE B S f w) (hl : S.size ≤ 1000000) (hz1 : -9223372036854775808 ≤ z) (hz2 : z ≤ 9223372036854775807) :
    Calls Try.prog 68 #[.pointer (some ⟨B, 0, none⟩), .int .i64 z, .int .i64 n] w (ActRet B (S.set z n) f w) := by
  obtain ⟨vo, vm, h⟩ := h
  have hlen := h.len
  obtain ⟨ao, n0, c0, rfl⟩ := own_shape h.own
  have hn0 : n0 = S.out.length := by
    obtain ⟨_, _, e, _⟩ := (ownB_read h.own).1.form
    injection e
  subst hn0
  have c2 := blk_cell h.heap 2 (v := .slice ao S.out.length c0) rfl
  by_cases hbad : z < 0 ∨ (S.out.length : Int) < z + 2
  · have HS : Hid (S.set z n = S) := Lib.hid (by unfold WS.set; rw [if_pos hbad])
    have HH := Lib.hid h
    have hcase : z < 0 ∨ (0 ≤ z ∧ (S.out.length : Int) - 2 < z) := by omega
    clear h hbad
    rcases hcase with h1 | ⟨h1, h2⟩
    all_goals
      go_enter Try.func68, Try.ntmps68
      go_wp2
      refine bodyPost_ret (results_none rfl _ _ _) rfl ?_
      rw [HS.out]
      exact ⟨rfl, Turn.refl _ _, WrE.widen ⟨_, _, HH.out⟩ fun _ _ => .inl⟩
  · obtain ⟨k, rfl⟩ := Int.eq_ofNat_of_zero_le (by omega : 0 ≤ z)
    have hk : k + 2 ≤ S.out.length := by omega
    have HS : Hid (S.set (k : Int) n = { S with out := (S.out.set k (byteOf (n / 256))).set (k + 1) (byteOf n) }) := Lib.hid (by unfold WS.set; rw [if_neg hbad]; rfl)
    obtain ⟨g, cap, e, hfr, cur, hcur, hcs, hcl⟩ := own_lit h.own (by intro e; rw [e] at hk; simp at hk)
    cases e
    have f1 := hfr k (by omega)
    have f2 := hfr (k + 1) (by omega)
    obtain ⟨x1, d1⟩ : ∃ x, w.cell? ⟨g, k, none⟩ = some x := ⟨_, by have := ownE_cell h.own (j := k) (by omega); rwa [Nat.zero_add] at this⟩
    obtain ⟨x2, d2⟩ : ∃ x, w.cell? ⟨g, k + 1, none⟩ = some x := ⟨_, by have := ownE_cell h.own (j := k + 1) (by omega); rwa [Nat.zero_add] at this⟩
    have hgB : B ≠ g := by rintro rfl; exact h.out_ne rfl
    have hk0 : (0 : Int) ≤ (k : Int) := by omega
    have hk1 : (k : Int) < (S.out.length : Int) := by omega
    have hk2 : (k : Int) + 1 < (S.out.length : Int) := by omega
    have hk3 : (k : Int) ≤ (S.out.length : Int) - 2 := by omega
    have HH := Lib.hid h
    have HC := Lib.hid hcur
    clear h hbad hcur hfr
    go_enter Try.func68, Try.ntmps68
    go_wp2
    go_region
    all_goals go_end0
    have h := HH.out
    have e1 : Value.int .u8 (n / 256 % 256) = encB (byteOf (n / 256)) := by unfold encB; rw [byteOf_int]
    have e2 : Value.int .u8 (n % 256) = encB (byteOf n) := by unfold encB; rw [byteOf_int]
    rw [e1, e2]
    have hb1 := blk_set HC.out k (encB (byteOf (n / 256)))
    have hT1 : Turn f w (w.setCell ⟨g, k, none⟩ (encB (byteOf (n / 256)))) := turn_setCell HC.out (by omega) (h.mine g rfl) k _
    have hT2 : Turn f (w.setCell ⟨g, k, none⟩ (encB (byteOf (n / 256)))) ((w.setCell ⟨g, k, none⟩ (encB (byteOf (n / 256)))).setCell ⟨g, k + 1, none⟩ (encB (byteOf n))) := turn_setCell hb1 (by rw [Array.size_setIfInBounds]; omega) (h.mine g rfl) (k + 1) _
    have ho1 := ownE_setElem h.own (j := k) (by omega) (byteOf (n / 256))
    have ho2 := ownE_setElem ho1 (j := k + 1) (by rw [List.length_set]; omega) (byteOf n)
    have hoth : ∀ i, i ≠ g → (((w.setCell ⟨g, k, none⟩ (encB (byteOf (n / 256)))).setCell ⟨g, k + 1, none⟩ (encB (byteOf n))).drew).heap[i]? = w.heap[i]? := fun i hi => (Below.heap_setCell _ ⟨g, k + 1, none⟩ _ i hi).trans (Below.heap_setCell _ ⟨g, k, none⟩ _ i hi)
    refine ⟨rfl, (hT1.then hT2).then (Turn.of_below ((Below.refl _ _).drew)), ?_⟩
    rw [HS.out]
    refine h.again (vo' := .slice (some ⟨g, 0, none⟩) S.out.length c0) ((hoth B hgB).trans h.heap) (show OwnE encB 5 0 _ _ _ from ho2) (.inr ?_) (fun g' hg' => .inl (h.mine g' hg')) (by simpa using h.len) rfl (fun i es ck hi => hoth i (by rintro rfl; rw [HC.out] at hi; cases hi))
    intro e
    have := congrArg List.length e
    simp at this
    rw [this] at hk
    simp at hk
end Go.Proofs.Ytfmghbmbahembaa
