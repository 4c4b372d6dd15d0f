/- whatever names are used and dropped, each act tells, and all names, their uses and what the arena has are as the document says
   Conditions: those of the row and of its card, none beside. -/
import Derived.BigQuiet
import Derived.Deep.Slices
import Derived.Deep.Fields
import Derived.Test.YtdbaocphglijbaaDoorJB18
import Derived.Test.YtdbaocphglijbaaDoorJInternActs1
/- shows of chapter 7's laws: a table shows what the document's own has. -/
set_option maxRecDepth 100000
namespace Go.Proofs.YtdbaocphglijbaaDoor
open Go Go.RowKit Go.Shelf
attribute [local go_sem] Oper.semAt_some
set_option maxHeartbeats 16000000 in
theorem shows7_any (x y : Nat → Prop) (A T F tm m B : Nat) (E : List Ent) (P : List Rp) (n0 : Nat) (w : World) (h : TV x ⟨A, T, F⟩ B E n0 w) (hm : MT y tm m B E P w) (hB : B ≤ 1048576) (hf : ∀ e ∈ E, Nm.fold e.name = e.name) :
    Calls Tryd.prog 40 #[.pointer (some ⟨T, 0, none⟩), .pointer (some ⟨A, 0, none⟩), .pointer (some ⟨tm, 0, none⟩)] w fun e w' => e = .returned (.bool true) ∧ Below w.heap.size w w' := by
  have hE := hm.few hB
  have HT := Lib.hid (fun W (hb : Below w.heap.size w W) => (h.after hb).1)
  have HM := Lib.hid hm
  have HF := Lib.hid hf
  obtain ⟨cu, hcu⟩ : ∃ cu, costE E = cu := ⟨_, rfl⟩
  have HCN := Lib.hid (fun n => tv_count x ⟨A, T, F⟩ B E n0 (w.drewN n) (HT.out _ (below_drewN _ _ n)))
  have HUS1 := Lib.hid (fun n => (by have k := tv_used x ⟨A, T, F⟩ B E n0 (w.drewN n) (HT.out _ (below_drewN _ _ n)); rw [hcu] at k; exact k))
  have HUS2 := Lib.hid (fun n => (by have k := mused_any y m B P (w.drewN n) (hm.ma.same fun _ _ => rfl) (by rw [hm.sum]; have := hm.room; omega) (by rw [hm.len]; omega) hm.bytes; rw [hm.sum, hcu] at k; exact k))
  obtain ⟨ao, cap, hbx, c0, c1, hcap, hrk, hrow⟩ := hm.mn.box
  have HROW := Lib.hid hrow
  have HC1 := Lib.hid c1
  clear hm hf h hcu hrow hrk hbx
  go_enter Tryd.func40, Tryd.ntmps40
  go_wp2
  go_quiet ((first
    | (go_at_call 48; exact Calls.quiet_of_same ((HCN.out _).mono fun _ _ h => ⟨h.1, h.2.symm⟩))
    | (go_at_call 31; exact Calls.quiet_of_same ((HUS1.out _).mono fun _ _ h => ⟨h.1, h.2.symm⟩))
    | (go_at_call 67; exact Calls.quiet_of_same ((HUS2.out _).mono fun _ _ h => ⟨h.1, h.2.symm⟩))))
  have HB0 : Hid (Below w.heap.size w (w.drewN nq)) := Lib.hid (below_drewN _ _ nq)
  generalize w.drewN nq = w1 at HB0 ⊢
  go_wp2
  go_loopw [7] (fun i wr => ∃ k : Nat, i = .int .i64 (k : Int) ∧ k ≤ E.length ∧ Hid (Below w.heap.size w wr)) (fun i _ => E.length + 1 - (intOf i).toNat)
  case atStart => exact ⟨0, rfl, Nat.zero_le _, HB0⟩
  case round =>
    obtain ⟨k, rfl, hk, HBR⟩ := hrel
    clear HB0
    have k1 := (HBR.out.cell (p := ⟨tm, 1, none⟩) (cell_lt HC1.out)).trans HC1.out
    by_cases hlt : k < E.length
    · obtain ⟨b, off, rfl, _, d0, d1, d2⟩ := HROW.out k hlt
      obtain ⟨id, hid⟩ : ∃ q, E[k].id = q := ⟨_, rfl⟩
      obtain ⟨nm, hnm⟩ : ∃ q, E[k].name = q := ⟨_, rfl⟩
      obtain ⟨us, hus⟩ : ∃ q, E[k].uses = q := ⟨_, rfl⟩
      have hfo := HF.out _ (List.getElem_mem hlt)
      have hnl := HM.out.small _ (List.getElem_mem hlt)
      rw [hnm] at hfo hnl
      have HNA := Lib.hid (fun W (hb : Below w.heap.size w W) => (by have z := tvb_name x ⟨A, T, F⟩ B E E[k] n0 (id : Int) W (HT.out W hb) (List.getElem_mem hlt) (by rw [hid]); rw [hnm] at z; exact z))
      have HFI := Lib.hid (fun W (hb : Below w.heap.size w W) => (by have z := tvb_find x ⟨A, T, F⟩ B E E[k] n0 nm W (HT.out W hb) (List.getElem_mem hlt) (by rw [hnm, hfo]) (by omega); rw [hid] at z; exact z))
      have HUS := Lib.hid (fun W (hb : Below w.heap.size w W) => (by have z := tvb_uses x ⟨A, T, F⟩ B E E[k] n0 (id : Int) W (HT.out W hb) (List.getElem_mem hlt) (by rw [hid]); rw [hus] at z; exact z))
      have HRW := Lib.hid (fun W (hb : Below w.heap.size w W) => (show W.cell? ⟨b, off + k * 3, none⟩ = some (.int .i64 (id : Int)) ∧ W.cell? ⟨b, off + k * 3 + 1, none⟩ = some (.string ⟨nm.toArray⟩) ∧ W.cell? ⟨b, off + k * 3 + 2, none⟩ = some (.int .i64 (us : Int)) ∧ W.cell? ⟨tm, 1, none⟩ = some (.slice (some ⟨b, off, none⟩) E.length cap) from ⟨by rw [← hid]; exact (hb.cell (cell_lt d0)).trans d0, by rw [← hnm]; exact (hb.cell (cell_lt d1)).trans d1, by rw [← hus]; exact (hb.cell (cell_lt d2)).trans d2, (hb.cell (cell_lt HC1.out)).trans HC1.out⟩))
      obtain ⟨p2, p3, p4, p1⟩ := HRW.out _ HBR.out
      clear d0 d1 d2 hid hnm hus hfo
      go_wp2_with fail
      refine (HNA.out _ HBR.out).mono ?_
      rintro e w4 ⟨rfl, b4⟩
      have HB4 := Lib.hid (HBR.out.trans (b4.mono HBR.out.size))
      clear b4 p1 p2 p3 p4 HNA
      obtain ⟨p2, p3, p4, p1⟩ := HRW.out _ HB4.out
      go_wp2_with fail
      refine (HFI.out _ HB4.out).mono ?_
      rintro e w5 ⟨rfl, b5⟩
      have HB5 := Lib.hid (HB4.out.trans (b5.mono HB4.out.size))
      clear b5 p1 p2 p3 p4 HFI
      obtain ⟨q2, q3, q4, q1⟩ := HRW.out _ HB5.out
      go_wp2
      refine wp_region_slots slotLe (slotPhi ((fun v _ => v = ?h65) :: (fun v _ => v = ?h66) :: (fun v _ => v = ?h67) :: (fun v _ => v = ?h68) :: (fun v _ => v = ?h69) :: (fun v _ => v = ?h70) :: (fun v _ => v = ?h71) :: (fun v _ => v = ?h72) :: (fun v _ => v = ?h73) :: (fun v _ => v = ?h74) :: (fun v _ => v = ?h75) :: (fun v _ => v = ?h76) :: (fun v _ => v = ?h77) :: (fun v _ => v = ?h78) :: (fun v _ => v = ?h79) :: (fun v _ => v = ?h80) :: (fun v _ => v = ?h81) :: (fun v _ => v = ?h82) :: (fun v _ => v = ?h83) :: (fun v _ => v = ?h84) :: (fun v _ => v = ?h85) :: (fun v _ => v = ?h86) :: (fun v _ => v = ?h87) :: (fun v _ => v = ?h88) :: (fun v _ => v = ?h89) :: (fun v _ => v = ?h90) :: (fun v _ => v = ?h91) :: (fun v _ => v = ?h92) :: (fun v _ => v = ?h93) :: (fun v _ => v = ?h94) :: (fun v _ => v = ?h95) :: (fun v _ => v = ?h96) :: (fun v _ => v = ?h97) :: (fun v _ => v = ?h98) :: (fun v _ => v = ?h99) :: (fun v _ => v = ?h100) :: (fun v _ => v = ?h101) :: (fun v _ => v = ?h102) :: (fun v _ => v = ?h103) :: (fun v _ => v = ?h104) :: (fun v _ => v = ?h105) :: (fun v _ => v = ?h106) :: (fun v _ => v = ?h107) :: (fun v _ => v = ?h108) :: [])) slotLe_refl slotLe_trans (slotPhi_stable ?stb) (by kernel_rfl) (by kernel_rfl) (by kernel_rfl) ?steps ?fin
      case stb =>
        refine ⟨by intro _ _ _ _ h; exact h, ?_⟩
        refine ⟨by intro _ _ _ _ h; exact h, ?_⟩
        refine ⟨by intro _ _ _ _ h; exact h, ?_⟩
        refine ⟨by intro _ _ _ _ h; exact h, ?_⟩
        refine ⟨by intro _ _ _ _ h; exact h, ?_⟩
        refine ⟨by intro _ _ _ _ h; exact h, ?_⟩
        refine ⟨by intro _ _ _ _ h; exact h, ?_⟩
        refine ⟨by intro _ _ _ _ h; exact h, ?_⟩
        refine ⟨by intro _ _ _ _ h; exact h, ?_⟩
        refine ⟨by intro _ _ _ _ h; exact h, ?_⟩
        refine ⟨by intro _ _ _ _ h; exact h, ?_⟩
        refine ⟨by intro _ _ _ _ h; exact h, ?_⟩
        refine ⟨by intro _ _ _ _ h; exact h, ?_⟩
        refine ⟨by intro _ _ _ _ h; exact h, ?_⟩
        refine ⟨by intro _ _ _ _ h; exact h, ?_⟩
        refine ⟨by intro _ _ _ _ h; exact h, ?_⟩
        refine ⟨by intro _ _ _ _ h; exact h, ?_⟩
        refine ⟨by intro _ _ _ _ h; exact h, ?_⟩
        refine ⟨by intro _ _ _ _ h; exact h, ?_⟩
        refine ⟨by intro _ _ _ _ h; exact h, ?_⟩
        refine ⟨by intro _ _ _ _ h; exact h, ?_⟩
        refine ⟨by intro _ _ _ _ h; exact h, ?_⟩
        refine ⟨by intro _ _ _ _ h; exact h, ?_⟩
        refine ⟨by intro _ _ _ _ h; exact h, ?_⟩
        refine ⟨by intro _ _ _ _ h; exact h, ?_⟩
        refine ⟨by intro _ _ _ _ h; exact h, ?_⟩
        refine ⟨by intro _ _ _ _ h; exact h, ?_⟩
        refine ⟨by intro _ _ _ _ h; exact h, ?_⟩
        refine ⟨by intro _ _ _ _ h; exact h, ?_⟩
        refine ⟨by intro _ _ _ _ h; exact h, ?_⟩
        refine ⟨by intro _ _ _ _ h; exact h, ?_⟩
        refine ⟨by intro _ _ _ _ h; exact h, ?_⟩
        refine ⟨by intro _ _ _ _ h; exact h, ?_⟩
        refine ⟨by intro _ _ _ _ h; exact h, ?_⟩
        refine ⟨by intro _ _ _ _ h; exact h, ?_⟩
        refine ⟨by intro _ _ _ _ h; exact h, ?_⟩
        refine ⟨by intro _ _ _ _ h; exact h, ?_⟩
        refine ⟨by intro _ _ _ _ h; exact h, ?_⟩
        refine ⟨by intro _ _ _ _ h; exact h, ?_⟩
        refine ⟨by intro _ _ _ _ h; exact h, ?_⟩
        refine ⟨by intro _ _ _ _ h; exact h, ?_⟩
        refine ⟨by intro _ _ _ _ h; exact h, ?_⟩
        refine ⟨by intro _ _ _ _ h; exact h, ?_⟩
        refine ⟨by intro _ _ _ _ h; exact h, ?_⟩
        exact trivial
      case steps =>
        refine ⟨?_, ?_⟩
        · intro a W K N hK
          have e9 : a.tmps[9]?.getD undef = .bool true := N.was' 9 _ (by kernel_rfl) rfl
          rw [if_pos (wanted_no rfl)]
          go_simp
          refine hK _ _ (slotLe_refl _) ?_
          exact rfl
        refine ⟨?_, ?_⟩
        · intro a W K N hK
          have e65 : a.tmps[65]?.getD undef = _ := N.dep' 0 65 (by kernel_rfl)
          rw [if_pos (wanted_no rfl)]
          go_simp
          refine hK _ _ (slotLe_refl _) ?_
          exact rfl
        refine ⟨?_, ?_⟩
        · intro a W K N hK
          have e66 : a.tmps[66]?.getD undef = _ := N.dep' 1 66 (by kernel_rfl)
          rw [if_pos (wanted_no rfl)]
          go_simp
          refine hK _ _ (slotLe_refl _) ?_
          exact rfl
        refine ⟨?_, ?_⟩
        · intro a W K N hK
          have e11 : a.tmps[11]?.getD undef = .bool true := N.was' 11 _ (by kernel_rfl) rfl
          have eg : a.tmps[67]?.getD undef = .bool false := N.dep' 2 67 (by kernel_rfl)
          rw [if_pos (by rw [wanted_get (g := 2) (d := 67) rfl rfl eg]; decide)]
          clear eg
          go_simp
          refine hK _ _ (slotLe_refl _) ?_
          exact rfl
        refine ⟨?_, ?_⟩
        · intro a W K N hK
          have e68 : a.tmps[68]?.getD undef = _ := N.dep' 3 68 (by kernel_rfl)
          have eg : a.tmps[67]?.getD undef = .bool false := N.dep' 2 67 (by kernel_rfl)
          rw [if_pos (by rw [wanted_get (g := 2) (d := 67) rfl rfl eg]; decide)]
          clear eg
          go_simp
          refine hK _ _ (slotLe_refl _) ?_
          exact rfl
        refine ⟨?_, ?_⟩
        · intro a W K N hK
          have e67 : a.tmps[67]?.getD undef = _ := N.dep' 2 67 (by kernel_rfl)
          have e69 : a.tmps[69]?.getD undef = _ := N.dep' 4 69 (by kernel_rfl)
          rw [if_pos (wanted_no rfl)]
          go_simp
          refine hK _ _ (slotLe_refl _) ?_
          exact rfl
        refine ⟨?_, ?_⟩
        · intro a W K N hK
          have e70 : a.tmps[70]?.getD undef = _ := N.dep' 5 70 (by kernel_rfl)
          rw [if_pos (wanted_no rfl)]
          go_simp
          refine hK _ _ (slotLe_refl _) ?_
          exact rfl
        refine ⟨?_, ?_⟩
        · intro a W K N hK
          have e8 : a.tmps[8]?.getD undef = .string ⟨nm.toArray⟩ := N.was' 8 _ (by kernel_rfl) rfl
          have eg : a.tmps[71]?.getD undef = .bool false := N.dep' 6 71 (by kernel_rfl)
          rw [if_pos (by rw [wanted_get (g := 6) (d := 71) rfl rfl eg]; decide)]
          clear eg
          go_simp
          refine hK _ _ (slotLe_refl _) ?_
          exact rfl
        refine ⟨?_, ?_⟩
        · intro a W K N hK
          have e2 : a.tmps[2]?.getD undef = .pointer (some ⟨tm, 0, none⟩) := N.was' 2 _ (by kernel_rfl) rfl
          have eg : a.tmps[71]?.getD undef = .bool false := N.dep' 6 71 (by kernel_rfl)
          rw [if_pos (by rw [wanted_get (g := 6) (d := 71) rfl rfl eg]; decide)]
          clear eg
          go_simp
          refine hK _ _ (slotLe_refl _) ?_
          exact rfl
        refine ⟨?_, ?_⟩
        · intro a W K N hK
          have e73 : a.tmps[73]?.getD undef = _ := N.dep' 8 73 (by kernel_rfl)
          have eg : a.tmps[71]?.getD undef = .bool false := N.dep' 6 71 (by kernel_rfl)
          rw [if_pos (by rw [wanted_get (g := 6) (d := 71) rfl rfl eg]; decide)]
          clear eg
          go_simp
          refine hK _ _ (slotLe_refl _) ?_
          exact rfl
        refine ⟨?_, ?_⟩
        · intro a W K N hK
          have e74 : a.tmps[74]?.getD undef = _ := N.dep' 9 74 (by kernel_rfl)
          have eg : a.tmps[71]?.getD undef = .bool false := N.dep' 6 71 (by kernel_rfl)
          rw [if_pos (by rw [wanted_get (g := 6) (d := 71) rfl rfl eg]; decide)]
          clear eg
          go_simp
          refine hK _ _ (slotLe_refl _) ?_
          exact rfl
        refine ⟨?_, ?_⟩
        · intro a W K N hK
          have e75 : a.tmps[75]?.getD undef = _ := N.dep' 10 75 (by kernel_rfl)
          have eg : a.tmps[71]?.getD undef = .bool false := N.dep' 6 71 (by kernel_rfl)
          rw [if_pos (by rw [wanted_get (g := 6) (d := 71) rfl rfl eg]; decide)]
          clear eg
          have z := keep_cell N.le q1
          go_simp
          refine hK _ _ (slotLe_refl _) ?_
          exact rfl
        refine ⟨?_, ?_⟩
        · intro a W K N hK
          have e7 : a.tmps[7]?.getD undef = .int .i64 (k : Int) := N.was' 7 _ (by kernel_rfl) rfl
          have eg : a.tmps[71]?.getD undef = .bool false := N.dep' 6 71 (by kernel_rfl)
          rw [if_pos (by rw [wanted_get (g := 6) (d := 71) rfl rfl eg]; decide)]
          clear eg
          go_simp
          refine hK _ _ (slotLe_refl _) ?_
          exact rfl
        refine ⟨?_, ?_⟩
        · intro a W K N hK
          have e76 : a.tmps[76]?.getD undef = _ := N.dep' 11 76 (by kernel_rfl)
          have e77 : a.tmps[77]?.getD undef = _ := N.dep' 12 77 (by kernel_rfl)
          have eg : a.tmps[71]?.getD undef = .bool false := N.dep' 6 71 (by kernel_rfl)
          rw [if_pos (by rw [wanted_get (g := 6) (d := 71) rfl rfl eg]; decide)]
          clear eg
          go_simp
          refine hK _ _ (slotLe_refl _) ?_
          exact rfl
        refine ⟨?_, ?_⟩
        · intro a W K N hK
          have e78 : a.tmps[78]?.getD undef = _ := N.dep' 13 78 (by kernel_rfl)
          have eg : a.tmps[71]?.getD undef = .bool false := N.dep' 6 71 (by kernel_rfl)
          rw [if_pos (by rw [wanted_get (g := 6) (d := 71) rfl rfl eg]; decide)]
          clear eg
          go_simp
          refine hK _ _ (slotLe_refl _) ?_
          exact rfl
        refine ⟨?_, ?_⟩
        · intro a W K N hK
          have e79 : a.tmps[79]?.getD undef = _ := N.dep' 14 79 (by kernel_rfl)
          have eg : a.tmps[71]?.getD undef = .bool false := N.dep' 6 71 (by kernel_rfl)
          rw [if_pos (by rw [wanted_get (g := 6) (d := 71) rfl rfl eg]; decide)]
          clear eg
          have z := keep_cell N.le q3
          go_simp
          refine hK _ _ (slotLe_refl _) ?_
          exact rfl
        refine ⟨?_, ?_⟩
        · intro a W K N hK
          have e72 : a.tmps[72]?.getD undef = _ := N.dep' 7 72 (by kernel_rfl)
          have e80 : a.tmps[80]?.getD undef = _ := N.dep' 15 80 (by kernel_rfl)
          have eg : a.tmps[71]?.getD undef = .bool false := N.dep' 6 71 (by kernel_rfl)
          rw [if_pos (by rw [wanted_get (g := 6) (d := 71) rfl rfl eg]; decide)]
          clear eg
          go_simp
          refine hK _ _ (slotLe_refl _) ?_
          exact rfl
        refine ⟨?_, ?_⟩
        · intro a W K N hK
          have e71 : a.tmps[71]?.getD undef = _ := N.dep' 6 71 (by kernel_rfl)
          have e81 : a.tmps[81]?.getD undef = _ := N.dep' 16 81 (by kernel_rfl)
          rw [if_pos (wanted_no rfl)]
          go_simp
          refine hK _ _ (slotLe_refl _) ?_
          exact rfl
        refine ⟨?_, ?_⟩
        · intro a W K N hK
          have e82 : a.tmps[82]?.getD undef = _ := N.dep' 17 82 (by kernel_rfl)
          rw [if_pos (wanted_no rfl)]
          go_simp
          refine hK _ _ (slotLe_refl _) ?_
          exact rfl
        refine ⟨?_, ?_⟩
        · intro a W K N hK
          have e10 : a.tmps[10]?.getD undef = .int .i64 (id : Int) := N.was' 10 _ (by kernel_rfl) rfl
          have eg : a.tmps[83]?.getD undef = .bool false := N.dep' 18 83 (by kernel_rfl)
          rw [if_pos (by rw [wanted_get (g := 18) (d := 83) rfl rfl eg]; decide)]
          clear eg
          go_simp
          refine hK _ _ (slotLe_refl _) ?_
          exact rfl
        refine ⟨?_, ?_⟩
        · intro a W K N hK
          have e2 : a.tmps[2]?.getD undef = .pointer (some ⟨tm, 0, none⟩) := N.was' 2 _ (by kernel_rfl) rfl
          have eg : a.tmps[83]?.getD undef = .bool false := N.dep' 18 83 (by kernel_rfl)
          rw [if_pos (by rw [wanted_get (g := 18) (d := 83) rfl rfl eg]; decide)]
          clear eg
          go_simp
          refine hK _ _ (slotLe_refl _) ?_
          exact rfl
        refine ⟨?_, ?_⟩
        · intro a W K N hK
          have e85 : a.tmps[85]?.getD undef = _ := N.dep' 20 85 (by kernel_rfl)
          have eg : a.tmps[83]?.getD undef = .bool false := N.dep' 18 83 (by kernel_rfl)
          rw [if_pos (by rw [wanted_get (g := 18) (d := 83) rfl rfl eg]; decide)]
          clear eg
          go_simp
          refine hK _ _ (slotLe_refl _) ?_
          exact rfl
        refine ⟨?_, ?_⟩
        · intro a W K N hK
          have e86 : a.tmps[86]?.getD undef = _ := N.dep' 21 86 (by kernel_rfl)
          have eg : a.tmps[83]?.getD undef = .bool false := N.dep' 18 83 (by kernel_rfl)
          rw [if_pos (by rw [wanted_get (g := 18) (d := 83) rfl rfl eg]; decide)]
          clear eg
          go_simp
          refine hK _ _ (slotLe_refl _) ?_
          exact rfl
        refine ⟨?_, ?_⟩
        · intro a W K N hK
          have e87 : a.tmps[87]?.getD undef = _ := N.dep' 22 87 (by kernel_rfl)
          have eg : a.tmps[83]?.getD undef = .bool false := N.dep' 18 83 (by kernel_rfl)
          rw [if_pos (by rw [wanted_get (g := 18) (d := 83) rfl rfl eg]; decide)]
          clear eg
          have z := keep_cell N.le q1
          go_simp
          refine hK _ _ (slotLe_refl _) ?_
          exact rfl
        refine ⟨?_, ?_⟩
        · intro a W K N hK
          have e7 : a.tmps[7]?.getD undef = .int .i64 (k : Int) := N.was' 7 _ (by kernel_rfl) rfl
          have eg : a.tmps[83]?.getD undef = .bool false := N.dep' 18 83 (by kernel_rfl)
          rw [if_pos (by rw [wanted_get (g := 18) (d := 83) rfl rfl eg]; decide)]
          clear eg
          go_simp
          refine hK _ _ (slotLe_refl _) ?_
          exact rfl
        refine ⟨?_, ?_⟩
        · intro a W K N hK
          have e88 : a.tmps[88]?.getD undef = _ := N.dep' 23 88 (by kernel_rfl)
          have e89 : a.tmps[89]?.getD undef = _ := N.dep' 24 89 (by kernel_rfl)
          have eg : a.tmps[83]?.getD undef = .bool false := N.dep' 18 83 (by kernel_rfl)
          rw [if_pos (by rw [wanted_get (g := 18) (d := 83) rfl rfl eg]; decide)]
          clear eg
          go_simp
          refine hK _ _ (slotLe_refl _) ?_
          exact rfl
        refine ⟨?_, ?_⟩
        · intro a W K N hK
          have e90 : a.tmps[90]?.getD undef = _ := N.dep' 25 90 (by kernel_rfl)
          have eg : a.tmps[83]?.getD undef = .bool false := N.dep' 18 83 (by kernel_rfl)
          rw [if_pos (by rw [wanted_get (g := 18) (d := 83) rfl rfl eg]; decide)]
          clear eg
          go_simp
          refine hK _ _ (slotLe_refl _) ?_
          exact rfl
        refine ⟨?_, ?_⟩
        · intro a W K N hK
          have e91 : a.tmps[91]?.getD undef = _ := N.dep' 26 91 (by kernel_rfl)
          have eg : a.tmps[83]?.getD undef = .bool false := N.dep' 18 83 (by kernel_rfl)
          rw [if_pos (by rw [wanted_get (g := 18) (d := 83) rfl rfl eg]; decide)]
          clear eg
          have z := keep_cell N.le q2
          go_simp
          refine hK _ _ (slotLe_refl _) ?_
          exact rfl
        refine ⟨?_, ?_⟩
        · intro a W K N hK
          have e84 : a.tmps[84]?.getD undef = _ := N.dep' 19 84 (by kernel_rfl)
          have e92 : a.tmps[92]?.getD undef = _ := N.dep' 27 92 (by kernel_rfl)
          have eg : a.tmps[83]?.getD undef = .bool false := N.dep' 18 83 (by kernel_rfl)
          rw [if_pos (by rw [wanted_get (g := 18) (d := 83) rfl rfl eg]; decide)]
          clear eg
          go_simp
          refine hK _ _ (slotLe_refl _) ?_
          exact rfl
        refine ⟨?_, ?_⟩
        · intro a W K N hK
          have e83 : a.tmps[83]?.getD undef = _ := N.dep' 18 83 (by kernel_rfl)
          have e93 : a.tmps[93]?.getD undef = _ := N.dep' 28 93 (by kernel_rfl)
          rw [if_pos (wanted_no rfl)]
          go_simp
          refine hK _ _ (slotLe_refl _) ?_
          exact rfl
        refine ⟨?_, ?_⟩
        · intro a W K N hK
          have e94 : a.tmps[94]?.getD undef = _ := N.dep' 29 94 (by kernel_rfl)
          rw [if_pos (wanted_no rfl)]
          go_simp
          refine hK _ _ (slotLe_refl _) ?_
          exact rfl
        refine ⟨?_, ?_⟩
        · intro a W K N hK
          have e0 : a.tmps[0]?.getD undef = .pointer (some ⟨T, 0, none⟩) := N.was' 0 _ (by kernel_rfl) rfl
          have eg : a.tmps[95]?.getD undef = .bool false := N.dep' 30 95 (by kernel_rfl)
          rw [if_pos (by rw [wanted_get (g := 30) (d := 95) rfl rfl eg]; decide)]
          clear eg
          go_simp
          refine hK _ _ (slotLe_refl _) ?_
          exact rfl
        refine ⟨?_, ?_⟩
        · intro a W K N hK
          have e10 : a.tmps[10]?.getD undef = .int .i64 (id : Int) := N.was' 10 _ (by kernel_rfl) rfl
          have eg : a.tmps[95]?.getD undef = .bool false := N.dep' 30 95 (by kernel_rfl)
          rw [if_pos (by rw [wanted_get (g := 30) (d := 95) rfl rfl eg]; decide)]
          clear eg
          go_simp
          refine hK _ _ (slotLe_refl _) ?_
          exact rfl
        refine ⟨?_, ?_⟩
        · intro a W K N hK
          have e96 : a.tmps[96]?.getD undef = _ := N.dep' 31 96 (by kernel_rfl)
          have e97 : a.tmps[97]?.getD undef = _ := N.dep' 32 97 (by kernel_rfl)
          have eg : a.tmps[95]?.getD undef = .bool false := N.dep' 30 95 (by kernel_rfl)
          rw [if_pos (by rw [wanted_get (g := 30) (d := 95) rfl rfl eg]; decide)]
          clear eg
          go_simp
          go_at_call 47
          refine (HUS.out _ (HB5.out.trans ((below_undrew N.le).mono HB5.out.size))).mono ?_
          rintro e w9 ⟨rfl, hb9⟩
          refine hK _ _ hb9 ?_
          exact rfl
        refine ⟨?_, ?_⟩
        · intro a W K N hK
          have e2 : a.tmps[2]?.getD undef = .pointer (some ⟨tm, 0, none⟩) := N.was' 2 _ (by kernel_rfl) rfl
          have eg : a.tmps[95]?.getD undef = .bool false := N.dep' 30 95 (by kernel_rfl)
          rw [if_pos (by rw [wanted_get (g := 30) (d := 95) rfl rfl eg]; decide)]
          clear eg
          go_simp
          refine hK _ _ (slotLe_refl _) ?_
          exact rfl
        refine ⟨?_, ?_⟩
        · intro a W K N hK
          have e99 : a.tmps[99]?.getD undef = _ := N.dep' 34 99 (by kernel_rfl)
          have eg : a.tmps[95]?.getD undef = .bool false := N.dep' 30 95 (by kernel_rfl)
          rw [if_pos (by rw [wanted_get (g := 30) (d := 95) rfl rfl eg]; decide)]
          clear eg
          go_simp
          refine hK _ _ (slotLe_refl _) ?_
          exact rfl
        refine ⟨?_, ?_⟩
        · intro a W K N hK
          have e100 : a.tmps[100]?.getD undef = _ := N.dep' 35 100 (by kernel_rfl)
          have eg : a.tmps[95]?.getD undef = .bool false := N.dep' 30 95 (by kernel_rfl)
          rw [if_pos (by rw [wanted_get (g := 30) (d := 95) rfl rfl eg]; decide)]
          clear eg
          go_simp
          refine hK _ _ (slotLe_refl _) ?_
          exact rfl
        refine ⟨?_, ?_⟩
        · intro a W K N hK
          have e101 : a.tmps[101]?.getD undef = _ := N.dep' 36 101 (by kernel_rfl)
          have eg : a.tmps[95]?.getD undef = .bool false := N.dep' 30 95 (by kernel_rfl)
          rw [if_pos (by rw [wanted_get (g := 30) (d := 95) rfl rfl eg]; decide)]
          clear eg
          have z := keep_cell N.le q1
          go_simp
          refine hK _ _ (slotLe_refl _) ?_
          exact rfl
        refine ⟨?_, ?_⟩
        · intro a W K N hK
          have e7 : a.tmps[7]?.getD undef = .int .i64 (k : Int) := N.was' 7 _ (by kernel_rfl) rfl
          have eg : a.tmps[95]?.getD undef = .bool false := N.dep' 30 95 (by kernel_rfl)
          rw [if_pos (by rw [wanted_get (g := 30) (d := 95) rfl rfl eg]; decide)]
          clear eg
          go_simp
          refine hK _ _ (slotLe_refl _) ?_
          exact rfl
        refine ⟨?_, ?_⟩
        · intro a W K N hK
          have e102 : a.tmps[102]?.getD undef = _ := N.dep' 37 102 (by kernel_rfl)
          have e103 : a.tmps[103]?.getD undef = _ := N.dep' 38 103 (by kernel_rfl)
          have eg : a.tmps[95]?.getD undef = .bool false := N.dep' 30 95 (by kernel_rfl)
          rw [if_pos (by rw [wanted_get (g := 30) (d := 95) rfl rfl eg]; decide)]
          clear eg
          go_simp
          refine hK _ _ (slotLe_refl _) ?_
          exact rfl
        refine ⟨?_, ?_⟩
        · intro a W K N hK
          have e104 : a.tmps[104]?.getD undef = _ := N.dep' 39 104 (by kernel_rfl)
          have eg : a.tmps[95]?.getD undef = .bool false := N.dep' 30 95 (by kernel_rfl)
          rw [if_pos (by rw [wanted_get (g := 30) (d := 95) rfl rfl eg]; decide)]
          clear eg
          go_simp
          refine hK _ _ (slotLe_refl _) ?_
          exact rfl
        refine ⟨?_, ?_⟩
        · intro a W K N hK
          have e105 : a.tmps[105]?.getD undef = _ := N.dep' 40 105 (by kernel_rfl)
          have eg : a.tmps[95]?.getD undef = .bool false := N.dep' 30 95 (by kernel_rfl)
          rw [if_pos (by rw [wanted_get (g := 30) (d := 95) rfl rfl eg]; decide)]
          clear eg
          have z := keep_cell N.le q4
          go_simp
          refine hK _ _ (slotLe_refl _) ?_
          exact rfl
        refine ⟨?_, ?_⟩
        · intro a W K N hK
          have e98 : a.tmps[98]?.getD undef = _ := N.dep' 33 98 (by kernel_rfl)
          have e106 : a.tmps[106]?.getD undef = _ := N.dep' 41 106 (by kernel_rfl)
          have eg : a.tmps[95]?.getD undef = .bool false := N.dep' 30 95 (by kernel_rfl)
          rw [if_pos (by rw [wanted_get (g := 30) (d := 95) rfl rfl eg]; decide)]
          clear eg
          go_simp
          refine hK _ _ (slotLe_refl _) ?_
          exact rfl
        refine ⟨?_, ?_⟩
        · intro a W K N hK
          have e95 : a.tmps[95]?.getD undef = _ := N.dep' 30 95 (by kernel_rfl)
          have e107 : a.tmps[107]?.getD undef = _ := N.dep' 42 107 (by kernel_rfl)
          rw [if_pos (wanted_no rfl)]
          go_simp
          refine hK _ _ (slotLe_refl _) ?_
          exact rfl
        exact trivial
      case fin =>
        intro V hV
        simp only [FinAll, slotPhi, List.getD_cons_zero, List.getD_cons_succ, forall_eq, Act.put, List.setIfInBounds_toArray, List.set_cons_zero, List.set_cons_succ]
        have HV := Lib.hid (below_undrew hV)
        clear hV
        have HBV := Lib.hid (HB5.out.trans (HV.out.mono HB5.out.size))
        clear HV q1 q2 q3 q4
        go_wp2
        go_roundw
        case rel => exact ⟨k + 1, by go_num, by omega, HBV⟩
        case measure => simp [intOf]; omega
        
    · obtain rfl : k = E.length := by omega
      go_wp2
      go_ret
      exact ⟨rfl, HBR.out⟩
end Go.Proofs.YtdbaocphglijbaaDoor

/- InternActs: each act, by the code and by the document's own table. -/
set_option maxRecDepth 100000
namespace Go.Proofs.YtdbaocphglijbaaDoor
open Go Go.RowKit Go.Shelf
attribute [local go_sem] Oper.semAt_some
def encJ (k : Nat) : List Value := [.int .i64 (k : Int)]
theorem encJ_len (k : Nat) : (encJ k).length = 1 := rfl
theorem encJ_one (k : Nat) : ∀ u ∈ encJ k, u.oneCell' = true := fun u hu => by
  simp only [encJ, List.mem_cons, List.not_mem_nil, or_false] at hu
  rw [hu]; rfl
/-- The numbers that the law has gathered, in a row of its own. -/
structure JSt (x y : Nat → Prop) (T F n0 : Nat) (J : List Nat) (jv : Value) (w : World) : Prop where
  own : OwnK encJ 1 3 n0 jv J w
  isIn : ∀ b, jv.ownBlock = some b → x b ∧ b ≠ T ∧ b ≠ F ∧ ¬ y b
/-- A name and its table: what both have. -/
structure IaG (E : List Ent) (k : Nat) : Prop where
  each : ∀ e ∈ E, Nm.valid e.name = true ∧ Nm.fold e.name = e.name ∧ 1 ≤ e.uses ∧ e.uses ≤ k
  nd : (E.map Ent.name).Nodup
structure IaM (K : Nat → Prop) (A T F tm m B n0 : Nat) (E E' : List Ent) (J : List Nat) (jv : Value) (w wr : World) : Prop where
  ex : ∃ x y P, TV x ⟨A, T, F⟩ B E n0 wr ∧ MT y tm m B E' P wr ∧ (∀ b, y b → x b ∧ b ≠ T ∧ b ≠ F ∧ b < wr.heap.size) ∧ JSt x y T F n0 J jv wr ∧ (∀ b, K b → x b ∧ b ≠ T ∧ b ≠ F ∧ ¬ y b ∧ jv.ownBlock ≠ some b)
  bel : Below w.heap.size w wr
section
variable {K : Nat → Prop} {A T F tm m B n0 : Nat} {E E' : List Ent} {J : List Nat} {jv : Value} {w w1 w2 : World}
theorem IaM.after (h : IaM K A T F tm m B n0 E E' J jv w w1) (hb : Below w1.heap.size w1 w2) : IaM K A T F tm m B n0 E E' J jv w w2 := by
  obtain ⟨⟨x, y, P, h1, h2, h3, h4, h5⟩, hbel⟩ := h
  exact ⟨⟨x, y, P, (h1.after hb).1, h2.below hb, fun b hy => by have := h3 b hy; exact ⟨this.1, this.2.1, this.2.2.1, Nat.lt_of_lt_of_le this.2.2.2 hb.size⟩, ⟨ownK_below h4.own hb, h4.isIn⟩, h5⟩, hbel.trans (hb.mono hbel.size)⟩
/-- Behind a call of the code's table. -/
theorem IaM.code {E2 : List Ent} (hn : w.heap.size ≤ n0) {x y : Nat → Prop} {P : List Rp} (h2 : MT y tm m B E' P w1) (h3 : ∀ b, y b → x b ∧ b ≠ T ∧ b ≠ F ∧ b < w1.heap.size) (h4 : JSt x y T F n0 J jv w1) (h5 : ∀ b, K b → x b ∧ b ≠ T ∧ b ≠ F ∧ ¬ y b ∧ jv.ownBlock ≠ some b) (hbel : Below w.heap.size w w1) (k : AddRet x ⟨A, T, F⟩ B E2 n0 w1 w2) : IaM K A T F tm m B n0 E2 E' J jv w w2 ∧ ∀ b, K b → w2.heap[b]? = w1.heap[b]? := by
  obtain ⟨k1, k2⟩ := k
  refine ⟨?_, fun b hb => k2.own b (h5 b hb).1 (h5 b hb).2.1 (h5 b hb).2.2.1⟩
  refine ⟨⟨x, y, P, k1, h2.same fun b hb => k2.own b (h3 b hb).1 (h3 b hb).2.1 (h3 b hb).2.2.1, fun b hb => ?_, ⟨own_same h4.own fun b hb => ?_, h4.isIn⟩, h5⟩, hbel.trans (k2.below.mono hn)⟩
  · have := h3 b hb
    refine ⟨this.1, this.2.1, this.2.2.1, ?_⟩
    obtain ⟨nn, C, FF, L, ks⟩ := k1
    exact ks.hx.xlt b this.1
  · have := h4.isIn b hb
    exact k2.own b this.1 this.2.1 this.2.2.1
theorem grown_trn {row : Option Nat} {W W' : World} (h : W.grownBy W' row) (hc : ∀ b o, row = some b → W.heap[b]? = some o → isBook o = false) : Trn (fun b => row = some b) W W' :=
  ⟨h.os, h.tape, h.output, h.size, fun k hk hn => h.block k hk fun e => hn e.symm, fun k o ho hb => (h.block k (Array.getElem?_eq_some_iff.1 ho).1 (fun e => by rw [hc k o e.symm ho] at hb; cases hb)).trans ho⟩
theorem own_book {α : Type} {enc : α → List Value} {k : Nat} {e : TypeId} {base : Nat} {v : Value} {l : List α} {W : World} (h : OwnK enc k e base v l W) : ∀ b o, v.ownBlock = some b → W.heap[b]? = some o → isBook o = false := fun b o hb ho => by
  rcases h.2 with ⟨rfl, _⟩ | ⟨g, cap, cur, rfl, _, hg, _⟩
  · cases hb
  · have hbg : g = b := Option.some.inj hb
    subst hbg
    rw [hg] at ho
    cases ho
    rfl
/-- Behind an act of the document's own table. -/
theorem IaM.model {E2 : List Ent} (hn : w.heap.size ≤ n0) {x y : Nat → Prop} {P : List Rp} (h1 : TV x ⟨A, T, F⟩ B E n0 w1) (h2 : MT y tm m B E' P w1) (h3 : ∀ b, y b → x b ∧ b ≠ T ∧ b ≠ F ∧ b < w1.heap.size) (h4 : JSt x y T F n0 J jv w1) (h5 : ∀ b, K b → x b ∧ b ≠ T ∧ b ≠ F ∧ ¬ y b ∧ jv.ownBlock ≠ some b) (hbel : Below w.heap.size w w1) (k : MTR y tm m B E2 w1 w2) : IaM K A T F tm m B n0 E E2 J jv w w2 ∧ ∀ b, K b → w2.heap[b]? = w1.heap[b]? := by
  obtain ⟨⟨P', k1⟩, k2⟩ := k
  have hS : ∀ b, (b = tm ∨ b = m) → y b := fun b hb => hb.elim (fun e => e ▸ h2.mn.mine) (fun e => e ▸ h2.ma.mine)
  have hlow : ∀ b, x b → n0 ≤ b := by obtain ⟨nn, C, FF, L, ks⟩ := h1; exact ks.hx.xlow
  have hlt : ∀ b, x b → b < w1.heap.size := by obtain ⟨nn, C, FF, L, ks⟩ := h1; exact ks.hx.xlt
  have hTF : T < w1.heap.size ∧ F < w1.heap.size := by obtain ⟨nn, C, FF, L, ks⟩ := h1; exact ⟨ks.tb.box.lt, ks.tb.row.lt⟩
  have hn0 : n0 ≤ w1.heap.size := by obtain ⟨nn, C, FF, L, ks⟩ := h1; exact ks.hx.low
  refine ⟨?_, fun b hb => k2.block b (hlt b (h5 b hb).1) fun e => (h5 b hb).2.2.2.1 (hS b e)⟩
  refine ⟨⟨plus x w1 w2, plus y w1 w2, P', h1.turn k2 (fun b hb => ⟨(h3 b (hS b hb)).1, (h3 b (hS b hb)).2.1, (h3 b (hS b hb)).2.2.1⟩), k1, fun b hb => ?_, ⟨own_same h4.own fun b hb => ?_, fun b hb => ?_⟩, fun b hb => ?_⟩, hbel.trans (k2.below (fun b hb => Nat.le_trans hn (hlow b (h3 b (hS b hb)).1)) (Nat.le_trans hn hn0))⟩
  · rcases hb with hb | hb
    · have := h3 b hb
      exact ⟨.inl this.1, this.2.1, this.2.2.1, Nat.lt_of_lt_of_le this.2.2.2 k2.size⟩
    · exact ⟨.inr hb, by omega, by omega, hb.2⟩
  · have h9 := h4.isIn b hb
    exact k2.block b (hlt b h9.1) fun e => h9.2.2.2 (hS b e)
  · have h9 := h4.isIn b hb
    have h10 := hlt b h9.1
    exact ⟨.inl h9.1, h9.2.1, h9.2.2.1, fun e => e.elim h9.2.2.2 fun e => by omega⟩
  · have h9 := h5 b hb
    have h10 := hlt b h9.1
    exact ⟨.inl h9.1, h9.2.1, h9.2.2.1, fun e => e.elim h9.2.2.2.1 (fun e => by omega), h9.2.2.2.2⟩
/-- A number more in the law's row. -/
theorem IaM.more {u : Nat} {jv' : Value} (hn : w.heap.size ≤ n0) (h : IaM K A T F tm m B n0 E E' J jv w w1) (ho : OwnK encJ 1 3 n0 jv' (J ++ [u]) w2) (hg : w1.grownBy w2 jv.ownBlock) (hv : jv'.ownBlock = jv.ownBlock ∨ jv'.ownBlock = some w1.heap.size) : IaM K A T F tm m B n0 E E' (J ++ [u]) jv' w w2 ∧ ∀ b, K b → w2.heap[b]? = w1.heap[b]? := by
  obtain ⟨⟨x, y, P, h1, h2, h3, h4, h5⟩, hbel⟩ := h
  have hlow : ∀ b, x b → n0 ≤ b := by obtain ⟨nn, C, FF, L, ks⟩ := h1; exact ks.hx.xlow
  have hlt : ∀ b, x b → b < w1.heap.size := by obtain ⟨nn, C, FF, L, ks⟩ := h1; exact ks.hx.xlt
  have hTF : T < w1.heap.size ∧ F < w1.heap.size := by obtain ⟨nn, C, FF, L, ks⟩ := h1; exact ⟨ks.tb.box.lt, ks.tb.row.lt⟩
  have hn0 : n0 ≤ w1.heap.size := by obtain ⟨nn, C, FF, L, ks⟩ := h1; exact ks.hx.low
  have hT := grown_trn hg (own_book h4.own)
  refine ⟨?_, fun b hb => hT.block b (hlt b (h5 b hb).1) (h5 b hb).2.2.2.2⟩
  refine ⟨⟨plus x w1 w2, y, P, h1.turn hT (fun b hb => ⟨(h4.isIn b hb).1, (h4.isIn b hb).2.1, (h4.isIn b hb).2.2.1⟩), h2.same fun b hb => hT.block b (h3 b hb).2.2.2 fun e => (h4.isIn b e).2.2.2 hb, fun b hb => ?_, ⟨ho, fun b hb => ?_⟩, fun b hb => ?_⟩, hbel.trans (hT.below (fun b hb => Nat.le_trans hn (hlow b (h4.isIn b hb).1)) (Nat.le_trans hn hn0))⟩
  · have := h3 b hb
    exact ⟨.inl this.1, this.2.1, this.2.2.1, Nat.lt_of_lt_of_le this.2.2.2 hT.size⟩
  · rcases hv with hv | hv
    · have h9 := h4.isIn b (hv ▸ hb)
      exact ⟨.inl h9.1, h9.2.1, h9.2.2.1, h9.2.2.2⟩
    · rw [hv] at hb
      have hbg := Option.some.inj hb
      subst hbg
      have h10 := (ownBlock_in ho _ hv).2
      exact ⟨.inr ⟨Nat.le_refl _, h10⟩, by omega, by omega, fun e => by have := (h3 _ e).2.2.2; omega⟩
  · have h9 := h5 b hb
    have h10 := hlt b h9.1
    refine ⟨.inl h9.1, h9.2.1, h9.2.2.1, h9.2.2.2.1, fun e => ?_⟩
    rcases hv with hv | hv
    · exact h9.2.2.2.2 (hv ▸ e)
    · rw [hv] at e
      have := Option.some.inj e
      omega
/-- A box of the law's own. -/
theorem IaM.box (hn : w.heap.size ≤ n0) (h : IaM (fun _ => False) A T F tm m B n0 E E' J jv w w1) (o : Obj) : IaM (fun b => b = w1.heap.size) A T F tm m B n0 E E' J jv w (w1.alloc o) := by
  obtain ⟨⟨x, y, P, h1, h2, h3, h4, _⟩, hbel⟩ := h
  have hb : Below w1.heap.size w1 (w1.alloc o) := (Below.refl _ _).alloc (Nat.le_refl _) o
  have hs : (w1.alloc o).heap.size = w1.heap.size + 1 := World.size_alloc _ _
  have hTF : T < w1.heap.size ∧ F < w1.heap.size := by obtain ⟨nn, C, FF, L, ks⟩ := h1; exact ⟨ks.tb.box.lt, ks.tb.row.lt⟩
  refine ⟨⟨plus x w1 (w1.alloc o), y, P, h1.turn (S := fun _ => False) (Trn.of_below hb) (fun _ h => h.elim), h2.below hb, fun b hy => ?_, ⟨ownK_below h4.own hb, fun b hb => ?_⟩, fun b hb => ?_⟩, hbel.trans (hb.mono hbel.size)⟩
  · have := h3 b hy
    exact ⟨.inl this.1, this.2.1, this.2.2.1, by omega⟩
  · have := h4.isIn b hb
    exact ⟨.inl this.1, this.2.1, this.2.2.1, this.2.2.2⟩
  · subst hb
    refine ⟨.inr ⟨Nat.le_refl _, by rw [hs]; omega⟩, by omega, by omega, fun e => by have := (h3 _ e).2.2.2; omega, fun e => ?_⟩
    have := (ownBlock_in h4.own _ e).2
    omega
theorem IaM.bare (h : IaM K A T F tm m B n0 E E' J jv w w1) : IaM (fun _ => False) A T F tm m B n0 E E' J jv w w1 := by
  obtain ⟨⟨x, y, P, h1, h2, h3, h4, _⟩, hbel⟩ := h
  exact ⟨⟨x, y, P, h1, h2, h3, h4, fun b hb => hb.elim⟩, hbel⟩
end
/-- What Add does, of both. -/
inductive AddAct (B : Nat) (E : List Ent) (s : List UInt8) : List Ent → Nat → Nat → Prop
  | bad : Nm.valid s = false → AddAct B E s E 0 2
  | use (i : Nat) (hi : i < E.length) : Nm.valid s = true → E[i].name = Nm.fold s → AddAct B E s (E.set i ⟨E[i].id, E[i].uses + 1, E[i].name⟩) E[i].id 0
  | full : Nm.valid s = true → (∀ e ∈ E, e.name ≠ Nm.fold s) → B < costE E + Ar.cost ((Nm.fold s).length + 8) → AddAct B E s E 0 4
  | new (i : Nat) : Nm.valid s = true → (∀ e ∈ E, e.name ≠ Nm.fold s) → costE E + Ar.cost ((Nm.fold s).length + 8) ≤ B → LeastE E i → AddAct B E s (E ++ [⟨i, 1, Nm.fold s⟩]) i 0
theorem set_mid {E : List Ent} {i : Nat} (hi : i < E.length) (y : Ent) : E = E.take i ++ E[i] :: E.drop (i + 1) ∧ E.set i y = E.take i ++ y :: E.drop (i + 1) :=
  ⟨by rw [← List.drop_eq_getElem_cons hi, List.take_append_drop], List.set_eq_take_append_cons_drop .. |>.trans (by rw [if_pos hi])⟩
theorem ia_add1 (K : Nat → Prop) (A T F tm m B n0 : Nat) (E : List Ent) (J : List Nat) (jv : Value) (k : Nat) (s : List UInt8) (w W : World) (hn : w.heap.size ≤ n0) (hk : k < 100) (hs : s.length ≤ 300) (h : IaM K A T F tm m B n0 E E J jv w W) (hg : IaG E k) :
    Calls Tryd.prog 36 #[.pointer (some ⟨T, 0, none⟩), .string ⟨s.toArray⟩] W fun e w' => ∃ (E2 : List Ent) (r er : Nat), e = .returned (.tuple #[.int .i64 (r : Int), .int .i64 (er : Int)]) ∧ AddAct B E s E2 r er ∧ IaM K A T F tm m B n0 E2 E J jv w w' ∧ ∀ b, K b → w'.heap[b]? = W.heap[b]? := by
  cases hv : Nm.valid s with
  | false => exact (add_bad _ s W hv (by omega)).mono fun e w' ⟨he, hw⟩ => ⟨E, 0, 2, he, .bad hv, hw ▸ h, fun b _ => by rw [hw]⟩
  | true =>
    obtain ⟨⟨x, y, P, h1, h2, h3, h4, h5⟩, hbel⟩ := h
    by_cases hin : ∃ (i : Nat) (hi : i < E.length), E[i].name = Nm.fold s
    · obtain ⟨i, hi, hz⟩ := hin
      obtain ⟨e1, e2⟩ := set_mid hi ⟨E[i].id, E[i].uses + 1, E[i].name⟩
      have h1' := h1
      rw [e1] at h1'
      have hu := (hg.each _ (List.getElem_mem hi)).2.2.2
      refine (tv_use x ⟨A, T, F⟩ B _ _ E[i] n0 s W h1' hv hz.symm (by omega) (by omega)).mono fun e w' ⟨he, hk'⟩ => ?_
      rw [← e2] at hk'
      exact ⟨_, _, 0, he, .use i hi hv hz, IaM.code hn h2 h3 h4 h5 hbel hk'⟩
    · have hne : ∀ e ∈ E, e.name ≠ Nm.fold s := fun e he h => by
        obtain ⟨i, hi, rfl⟩ := List.mem_iff_getElem.1 he
        exact hin ⟨i, hi, h⟩
      have hfl := fold_len s
      by_cases hr : costE E + Ar.cost ((Nm.fold s).length + 8) ≤ B
      · exact (tv_new x ⟨A, T, F⟩ B E n0 s (Nm.fold s) W h1 hv rfl (by omega) (by omega) hne hr).mono fun e w' ⟨i, he, hi, hk'⟩ => ⟨_, i, 0, he, .new i hv hne hr hi, IaM.code hn h2 h3 h4 h5 hbel hk'⟩
      · exact (tv_full x ⟨A, T, F⟩ B E n0 s (Nm.fold s) W h1 hv rfl (by omega) (by omega) hne (by omega)).mono fun e w' ⟨he, hk'⟩ => ⟨E, 0, 4, he, .full hv hne (by omega), IaM.code hn h2 h3 h4 h5 hbel hk'⟩
theorem nodup_idx {E : List Ent} (h : (E.map Ent.name).Nodup) {i : Nat} (hi : i < E.length) {l : List UInt8} (hz : E[i].name = l) : ∀ j (hj : j < E.length), E[j].name = l → j = i := fun j hj e => by
  have h1 : (E.map Ent.name)[j]'(by simpa using hj) = (E.map Ent.name)[i]'(by simpa using hi) := by simp only [List.getElem_map]; rw [e, hz]
  exact (List.getElem_inj h).1 h1
theorem MT.set {x : Nat → Prop} {t m B : Nat} {E : List Ent} {P : List Rp} {w w' : World} {i : Nat} (hi : i < E.length) (u : Nat) (h : MT x t m B E P w) (k : TRet x t m (E.set i ⟨E[i].id, u, E[i].name⟩) w w') : MTR x t m B (E.set i ⟨E[i].id, u, E[i].name⟩) w w' := by
  obtain ⟨e1, e2⟩ := set_mid hi ⟨E[i].id, u, E[i].name⟩
  obtain ⟨ao, cap, hbx, _⟩ := h.mn.box
  have hid : idl (E.set i ⟨E[i].id, u, E[i].name⟩) = idl E := by
    rw [e2]
    conv => rhs; rw [e1]
    unfold idl
    rw [List.map_append, List.map_append, List.map_cons, List.map_cons]
  have hco : costE (E.set i ⟨E[i].id, u, E[i].name⟩) = costE E := by rw [costE_idl, costE_idl, hid]
  refine ⟨⟨P, ⟨(h.ma.past hbx (fun _ _ h => by cases h) (fun _ _ h => by cases h) k.2).mono fun _ => .inl, k.1, h.srt, h.pos, by rw [hid]; exact h.per, fun e he => ?_, by rw [hco]; exact h.room⟩⟩, k.2.mono fun _ _ e => .inl e⟩
  rcases List.mem_or_eq_of_mem_set he with he | rfl
  · exact h.small e he
  · have h9 := h.small _ (List.getElem_mem hi)
    exact h9
theorem IaG.set {E : List Ent} {k : Nat} (h : IaG E k) {i : Nat} (hi : i < E.length) (u : Nat) (h1 : 1 ≤ u) (h2 : u ≤ k + 1) : IaG (E.set i ⟨E[i].id, u, E[i].name⟩) (k + 1) := by
  obtain ⟨e1, e2⟩ := set_mid hi ⟨E[i].id, u, E[i].name⟩
  refine ⟨fun e he => ?_, ?_⟩
  · rcases List.mem_or_eq_of_mem_set he with he | rfl
    · have := h.each e he; exact ⟨this.1, this.2.1, this.2.2.1, by omega⟩
    · have := h.each _ (List.getElem_mem hi); exact ⟨this.1, this.2.1, h1, h2⟩
  · have h3 := h.nd
    rw [e1] at h3
    rw [e2]
    rw [List.map_append, List.map_cons] at h3 ⊢
    exact h3
theorem ia_add2 (K : Nat → Prop) (A T F tm m B n0 : Nat) (E E2 : List Ent) (J : List Nat) (jv : Value) (k r er : Nat) (s : List UInt8) (w W : World) (hn : w.heap.size ≤ n0) (hB : B ≤ 1048576) (hk : k < 100) (hs : s.length ≤ 300) (h : IaM K A T F tm m B n0 E2 E J jv w W) (hg : IaG E k) (ha : AddAct B E s E2 r er) :
    Calls Tryd.prog 37 #[.pointer (some ⟨tm, 0, none⟩), .string ⟨s.toArray⟩] W fun e w' => e = .returned (.tuple #[.int .i64 (r : Int), .int .i64 (er : Int)]) ∧ (IaM K A T F tm m B n0 E2 E2 J jv w w' ∧ ∀ b, K b → w'.heap[b]? = W.heap[b]?) ∧ IaG E2 (k + 1) := by
  have hg1 : IaG E (k + 1) := ⟨fun e he => by have := hg.each e he; exact ⟨this.1, this.2.1, this.2.2.1, by omega⟩, hg.nd⟩
  have hsafe := h
  obtain ⟨⟨x, y, P, h1, h2, h3, h4, h5⟩, hbel⟩ := h
  have hE := h2.few hB
  cases ha with
  | bad hv => exact (mtadd_bad _ s W hv (by omega)).mono fun e w' ⟨he, hb⟩ => ⟨he, ⟨hsafe.after hb, fun b hK => hb.block b (by obtain ⟨nn, C, FF, L, ks⟩ := h1; exact ks.hx.xlt b (h5 b hK).1)⟩, hg1⟩
  | use i hi hv hz =>
    have hge := hg.each _ (List.getElem_mem hi)
    refine (mtadd_use y tm m E s i hi W h2.mn (by omega) hv (by omega) hz (nodup_idx hg.nd hi hz) (by omega)).mono fun e w' ⟨he, hk'⟩ => ⟨he, IaM.model hn h1 h2 h3 h4 h5 hbel (h2.set hi _ hk'), hg.set hi _ (by omega) (by omega)⟩
  | full hv hne hr =>
    refine (mtadd_new y tm m B E P s (Nm.fold s) W h2 hB hv rfl hs hne).mono fun e w' hk' => ?_
    rcases hk' with ⟨_, he, hk'⟩ | ⟨hc, _⟩
    · exact ⟨he, IaM.model hn h1 h2 h3 h4 h5 hbel hk', hg1⟩
    · omega
  | new i hv hne hr hi =>
    refine (mtadd_new y tm m B E P s (Nm.fold s) W h2 hB hv rfl hs hne).mono fun e w' hk' => ?_
    rcases hk' with ⟨hc, _⟩ | ⟨_, i', he, hi', hk'⟩
    · omega
    · obtain rfl := hi.uniq hi'
      refine ⟨he, IaM.model hn h1 h2 h3 h4 h5 hbel hk', fun e he => ?_, ?_⟩
      · rcases List.mem_append.1 he with he | he
        · exact hg1.each e he
        · rw [List.mem_singleton] at he
          subst he
          exact ⟨valid_fold hv, fold_fold hv, Nat.le_refl _, by show 1 ≤ _; omega⟩
      · rw [List.map_append, List.nodup_append]
        refine ⟨hg.nd, by simp, fun a ha b hb => ?_⟩
        obtain ⟨e, he, rfl⟩ := List.mem_map.1 ha
        simp only [List.map_cons, List.map_nil, List.mem_singleton] at hb
        subst hb
        exact hne e he
end Go.Proofs.YtdbaocphglijbaaDoor

/- InternActs: Drop, by both; few; the start. -/
set_option maxRecDepth 100000
namespace Go.Proofs.YtdbaocphglijbaaDoor
open Go Go.RowKit Go.Shelf
attribute [local go_sem] Oper.semAt_some
inductive DropAct (E : List Ent) (z : Int) : List Ent → Nat → Prop
  | none : (∀ e ∈ E, (e.id : Int) ≠ z) → DropAct E z E 5
  | less (i : Nat) (hi : i < E.length) (u : Nat) : (E[i].id : Int) = z → E[i].uses = u + 1 → 1 ≤ u → DropAct E z (E.set i ⟨E[i].id, u, E[i].name⟩) 0
  | last (i : Nat) (hi : i < E.length) : (E[i].id : Int) = z → E[i].uses = 1 → DropAct E z (E.take i ++ E.drop (i + 1)) 0
theorem ia_drop1 (K : Nat → Prop) (A T F tm m B n0 : Nat) (E : List Ent) (J : List Nat) (jv : Value) (k : Nat) (z : Int) (w W : World) (hn : w.heap.size ≤ n0) (h : IaM K A T F tm m B n0 E E J jv w W) (hg : IaG E k) :
    Calls Tryd.prog 38 #[.pointer (some ⟨T, 0, none⟩), .int .i64 z] W fun e w' => ∃ (E2 : List Ent) (er : Nat), e = .returned (.int .i64 (er : Int)) ∧ DropAct E z E2 er ∧ IaM K A T F tm m B n0 E2 E J jv w w' ∧ ∀ b, K b → w'.heap[b]? = W.heap[b]? := by
  obtain ⟨⟨x, y, P, h1, h2, h3, h4, h5⟩, hbel⟩ := h
  by_cases hin : ∃ (i : Nat) (hi : i < E.length), (E[i].id : Int) = z
  · obtain ⟨i, hi, hz⟩ := hin
    have hu := (hg.each _ (List.getElem_mem hi)).2.2.1
    obtain ⟨u, hu2⟩ : ∃ u, E[i].uses = u + 1 := ⟨E[i].uses - 1, by omega⟩
    obtain ⟨e1, e2⟩ := set_mid hi ⟨E[i].id, u, E[i].name⟩
    have h1' := h1
    rw [e1] at h1'
    by_cases h0 : u = 0
    · subst h0
      exact (tv_last x ⟨A, T, F⟩ B _ _ E[i] n0 z W h1' hu2 hz.symm).mono fun e w' ⟨he, hk'⟩ => ⟨_, 0, he, .last i hi hz hu2, IaM.code hn h2 h3 h4 h5 hbel hk'⟩
    · refine (tv_less x ⟨A, T, F⟩ B _ _ E[i] u n0 z W h1' hu2 (by omega) hz.symm).mono fun e w' ⟨he, hk'⟩ => ?_
      rw [← e2] at hk'
      exact ⟨_, 0, he, .less i hi u hz hu2 (by omega), IaM.code hn h2 h3 h4 h5 hbel hk'⟩
  · have hne : ∀ e ∈ E, (e.id : Int) ≠ z := fun e he h => by
      obtain ⟨i, hi, rfl⟩ := List.mem_iff_getElem.1 he
      exact hin ⟨i, hi, h⟩
    exact (tv_none x ⟨A, T, F⟩ B E n0 z W h1 hne).mono fun e w' ⟨he, hk'⟩ => ⟨E, 5, he, .none hne, IaM.code hn h2 h3 h4 h5 hbel hk'⟩
theorem ia_drop2 (K : Nat → Prop) (A T F tm m B n0 : Nat) (E E2 : List Ent) (J : List Nat) (jv : Value) (k er : Nat) (z : Int) (w W : World) (hn : w.heap.size ≤ n0) (hB : B ≤ 1048576) (hk : k < 100) (h : IaM K A T F tm m B n0 E2 E J jv w W) (hg : IaG E k) (ha : DropAct E z E2 er) :
    Calls Tryd.prog 39 #[.pointer (some ⟨tm, 0, none⟩), .int .i64 z] W fun e w' => e = .returned (.int .i64 (er : Int)) ∧ (IaM K A T F tm m B n0 E2 E2 J jv w w' ∧ ∀ b, K b → w'.heap[b]? = W.heap[b]?) ∧ IaG E2 (k + 1) := by
  have hg1 : IaG E (k + 1) := ⟨fun e he => by have := hg.each e he; exact ⟨this.1, this.2.1, this.2.2.1, by omega⟩, hg.nd⟩
  have hsafe := h
  obtain ⟨⟨x, y, P, h1, h2, h3, h4, h5⟩, hbel⟩ := h
  have hE := h2.few hB
  cases ha with
  | none hne => exact (mtdrop_none y tm m E z W h2.mn (by omega) hne).mono fun e w' ⟨he, hw⟩ => ⟨he, ⟨hw ▸ hsafe, fun b _ => by rw [hw]⟩, hg1⟩
  | less i hi u hz hu hu1 =>
    have hge := hg.each _ (List.getElem_mem hi)
    have hnd : ∀ j (hj : j < E.length), (E[j].id : Int) = z → j = i := fun j hj e => by
      have h1 : (E.map Ent.id)[j]'(by simpa using hj) = (E.map Ent.id)[i]'(by simpa using hi) := by simp only [List.getElem_map]; omega
      exact (List.getElem_inj h2.ids).1 h1
    exact (mtdrop_less y tm m E z i u hi W h2.mn (by omega) hz hnd hu hu1 (by omega)).mono fun e w' ⟨he, hk'⟩ => ⟨he, IaM.model hn h1 h2 h3 h4 h5 hbel (h2.set hi _ hk'), hg.set hi _ hu1 (by omega)⟩
  | last i hi hz hu =>
    refine (mtdrop_last y tm m B E P z i hi W h2 (fun b hb => (h3 b hb).2.2.2) hB hz hu).mono fun e w' ⟨he, hk'⟩ => ⟨he, IaM.model hn h1 h2 h3 h4 h5 hbel hk', fun e he => ?_, ?_⟩
    · refine hg1.each e ?_
      rcases List.mem_append.1 he with h | h
      · exact List.mem_of_mem_take h
      · exact List.mem_of_mem_drop h
    · obtain ⟨e1, _⟩ := set_mid hi E[i]
      have h3 := hg.nd
      rw [e1] at h3
      refine h3.sublist ?_
      rw [List.map_append, List.map_append, List.map_cons]
      exact List.Sublist.append (List.Sublist.refl _) (List.sublist_cons_self ..)
/-- The law's acts. -/
structure Acx where
  kind : Int
  s : List UInt8
  n : Int
def encAc (a : Acx) : List Value := [.int .i64 a.kind, .string ⟨a.s.toArray⟩, .int .i64 a.n]
theorem encAc_len (a : Acx) : (encAc a).length = 3 := rfl
def fewB (l : List Acx) : Bool := decide (l.length ≤ 60 ∧ ∀ a ∈ l, a.s.length ≤ 300)
def FewRet (l : List Acx) (w : World) (e : Ending) (w' : World) : Prop := e = .returned (.bool (fewB l)) ∧ w = w'
set_option maxHeartbeats 4000000 in
theorem few7_any (l : List Acx) (v : Value) (w : World) (h : RK encAc (fun _ => True) v l w) (hl : l.length ≤ 9223372036854775807) (hs : ∀ a ∈ l, a.s.length ≤ 9223372036854775807) :
    Calls Tryd.prog 33 #[v] w (FewRet l w) := by
  obtain ⟨ao, cap, rfl, hcap, hf⟩ := h.form
  have HS := Lib.hid hs
  have HAT := Lib.hid (fun (i : Nat) (hi : i < l.length) => h.at_ encAc_len (i := i) (f := 1) hi (by omega))
  clear h hf hs
  go_enter Tryd.func33, Tryd.ntmps33
  go_wp2
  go_loop [3] (fun i => ∃ k : Nat, i = .int .i64 (k : Int) ∧ k ≤ l.length ∧ k ≤ 70 ∧ Hid (∀ i (h : i < l.length), i < k → l[i].s.length ≤ 300)) (fun i => l.length + 1 - (intOf i).toNat)
  case atStart => exact ⟨0, rfl, Nat.zero_le _, by omega, Lib.hid fun i h h2 => by omega⟩
  case round =>
    obtain ⟨k, rfl, hk, hk70, HN⟩ := hrel
    by_cases hgo : k < l.length ∧ k < 70
    · obtain ⟨hlt, h70⟩ := hgo
      obtain ⟨b, off, rfl, _, d1⟩ := HAT.out k hlt
      have hsl := HS.out _ (List.getElem_mem hlt)
      obtain ⟨q, hq⟩ : ∃ q, l[k].s = q := ⟨_, rfl⟩
      simp only [encAc, List.getElem?_cons_succ, List.getElem?_cons_zero, hq] at d1
      rw [← Nat.add_assoc] at d1
      rw [hq] at hsl
      by_cases hlong : 300 < q.length
      · have hfb : fewB l = false := decide_eq_false fun h => by have := h.2 _ (List.getElem_mem hlt); rw [hq] at this; omega
        clear hq HN
        go_wp2
        go_ret
        exact ⟨(show Ending.returned (.bool false) = Ending.returned (.bool (fewB l)) by rw [hfb]), rfl⟩
      · have HQ : Hid (∀ i (h : i < l.length), i < k + 1 → l[i].s.length ≤ 300) := Lib.hid fun i h h2 => by
          by_cases e : i = k
          · subst e; rw [hq]; omega
          · exact HN.out i h (by omega)
        clear hq HN
        go_wp2
        go_round
        case rel => exact ⟨k + 1, by go_num, by omega, by omega, HQ⟩
        case measure => simp [intOf]; omega
    · have HFIN : Hid (l.length ≤ 60 → ∀ a ∈ l, a.s.length ≤ 300) := Lib.hid fun h60 a ha => by
        obtain ⟨i, hi, rfl⟩ := List.mem_iff_getElem.1 ha
        exact HN.out i hi (by omega)
      by_cases hlt : k < l.length
      · have h70 : k = 70 := by omega
        subst h70
        have h60 : ¬ ((l.length : Int) ≤ 60) := by omega
        have hfb : fewB l = false := decide_eq_false fun h => by omega
        clear HN
        go_wp2
        go_ret
        exact ⟨(show Ending.returned (.bool false) = Ending.returned (.bool (fewB l)) by rw [hfb]), rfl⟩
      · have hfb : decide ((l.length : Int) ≤ 60) = fewB l := by
          by_cases h : l.length ≤ 60
          · rw [decide_eq_true (show (l.length : Int) ≤ 60 by omega)]
            exact (decide_eq_true ⟨h, HFIN.out h⟩).symm
          · rw [decide_eq_false (show ¬ (l.length : Int) ≤ 60 by omega)]
            exact (decide_eq_false fun h2 => h h2.1).symm
        clear HN HFIN
        go_wp2
        go_ret
        exact ⟨rfl, rfl⟩
end Go.Proofs.YtdbaocphglijbaaDoor

/- InternActs: its walk. -/
set_option maxRecDepth 100000
namespace Go.Proofs.YtdbaocphglijbaaDoor
open Go Go.RowKit Go.Shelf
attribute [local go_sem] Oper.semAt_some
/-- The start: the document's own table, just made. -/
theorem ia_start (A T F B n0 : Nat) (w w3 : World) (hn : w.heap.size ≤ n0) (hT : TV (xt ⟨A, T, F⟩) ⟨A, T, F⟩ B [] n0 w3) (hb : Below w.heap.size w w3) :
    IaM (fun _ => False) A T F (w3.heap.size + 1) w3.heap.size B n0 [] [] [] (.slice none 0 0) w ((w3.alloc (.cells #[.int .i64 (B : Int), .slice none 0 0] 33)).alloc (.cells #[.pointer (some ⟨w3.heap.size, 0, none⟩), .slice none 0 0] 70)) := by
  have hs1 : (w3.alloc (.cells #[.int .i64 (B : Int), .slice none 0 0] 33)).heap.size = w3.heap.size + 1 := World.size_alloc _ _
  have hs2 : ((w3.alloc (.cells #[.int .i64 (B : Int), .slice none 0 0] 33)).alloc (.cells #[.pointer (some ⟨w3.heap.size, 0, none⟩), .slice none 0 0] 70)).heap.size = w3.heap.size + 2 := by rw [World.size_alloc, hs1]
  have hB2 : Below w3.heap.size w3 ((w3.alloc (.cells #[.int .i64 (B : Int), .slice none 0 0] 33)).alloc (.cells #[.pointer (some ⟨w3.heap.size, 0, none⟩), .slice none 0 0] 70)) := ((Below.refl _ _).alloc (Nat.le_refl _) _).alloc (by rw [hs1]; omega) _
  have b1 : Blk ((w3.alloc (.cells #[.int .i64 (B : Int), .slice none 0 0] 33)).alloc (.cells #[.pointer (some ⟨w3.heap.size, 0, none⟩), .slice none 0 0] 70)) w3.heap.size [.int .i64 (B : Int), .slice none 0 0] 33 := (Blk.new w3 [.int .i64 (B : Int), .slice none 0 0] 33).alloc _
  have b2 : Blk ((w3.alloc (.cells #[.int .i64 (B : Int), .slice none 0 0] 33)).alloc (.cells #[.pointer (some ⟨w3.heap.size, 0, none⟩), .slice none 0 0] 70)) (w3.heap.size + 1) [.pointer (some ⟨w3.heap.size, 0, none⟩), .slice none 0 0] 70 := by
    have := Blk.new (w3.alloc (.cells #[.int .i64 (B : Int), .slice none 0 0] 33)) [.pointer (some ⟨w3.heap.size, 0, none⟩), .slice none 0 0] 70
    rw [hs1] at this
    exact this
  have hTF : T < w3.heap.size ∧ F < w3.heap.size := by obtain ⟨nn, C, FF, L, ks⟩ := hT; exact ⟨ks.tb.box.lt, ks.tb.row.lt⟩
  refine ⟨⟨_, fun k => k = w3.heap.size ∨ k = w3.heap.size + 1, [], hT.turn (S := fun _ => False) (Trn.of_below hB2) (fun _ h => h.elim), ⟨⟨⟨_, b1, RK.nil _ _ _⟩, .inl rfl, fun p hp => by cases hp⟩, ⟨⟨_, b2, RK.nil _ _ _⟩, .inr rfl⟩, List.Pairwise.nil, fun b hb => (by cases hb), List.Perm.refl _, fun e he => (by cases he), Nat.zero_le _⟩, fun b hb => ?_, ⟨ownK_nil _ _ _ _ _, fun b hb => by cases hb⟩, fun b hb => hb.elim⟩, hb.trans (hB2.mono hb.size)⟩
  rw [hs2]
  rcases hb with rfl | rfl
  · exact ⟨.inr ⟨Nat.le_refl _, by rw [hs2]; omega⟩, by omega, by omega, by omega⟩
  · exact ⟨.inr ⟨by omega, by rw [hs2]; omega⟩, by omega, by omega, by omega⟩
theorem ia_shows (K : Nat → Prop) (A T F tm m B n0 : Nat) (E : List Ent) (J : List Nat) (jv : Value) (k : Nat) (w W : World) (hB : B ≤ 1048576) (h : IaM K A T F tm m B n0 E E J jv w W) (hg : IaG E k) :
    Calls Tryd.prog 40 #[.pointer (some ⟨T, 0, none⟩), .pointer (some ⟨A, 0, none⟩), .pointer (some ⟨tm, 0, none⟩)] W fun e w' => e = .returned (.bool true) ∧ Below W.heap.size W w' := by
  obtain ⟨⟨x, y, P, h1, h2, _⟩, _⟩ := h
  exact shows7_any x y A T F tm m B E P n0 W h1 h2 hB fun e he => (hg.each e he).2.1
theorem intJ_under : Tryd.prog.underlying 54 = some (.slice 3) := by kernel_rfl
theorem wpList_apG {w : World} {ops : Array Oper} {rest : List Oper} {o : Oper} {a : Act} {Q : Exit → Act → World → Prop} (hg : o.guard = none)
    (s y : Operand) (hop : o.op = Op.call { callee := Callee.builtin Builtin.append, args := #[s, y], argTypes := #[54, 54] })
    (base : Nat) (v : Value) (l : List Nat) (w0 : World) (u : Nat) (z : Value) (hs : a.eval s = v) (hown : OwnK encJ 1 3 base v l w0) (hy : a.eval y = .slice (some ⟨w0.heap.size, 0, none⟩) 1 1) (hw : w = w0.alloc (.cells #[z] 3)) (hz : z = .int .i64 (u : Int)) (b1 : l.length + 1 ≤ 1000000) (hb : base ≤ w0.heap.size)
    (hK : ∀ v' w', OwnK encJ 1 3 base v' (l ++ [u]) w' → w.grownBy w' v.ownBlock → (v'.ownBlock = v.ownBlock ∨ v'.ownBlock = some w.heap.size) → wpList Tryd.prog ops Q rest (a.put o.dst v') w') : wpList Tryd.prog ops Q (o :: rest) a w := by
  subst hw hz
  refine wpList_plain hg fun K hK' => ?_
  have hs1 : (w0.alloc (.cells #[.int .i64 (u : Int)] 3)).heap.size = w0.heap.size + 1 := World.size_alloc _ _
  obtain ⟨v', w', hrun, r1, r2, r3⟩ := run_apRK (P := Tryd.prog) encJ_len (by omega) encJ_one (w0.alloc (.cells #[.int .i64 (u : Int)] 3)) base 54 o.type 3 (.int .i64 0) 8 intJ_under infoInt rfl v l (ownK_alloc hown _) _ [u] (RK.one (enc := encJ) u 3 w0) (by simpa using b1) (by omega) (by omega)
  unfold Oper.wp
  simp [execOp, hop, resolve, invoke, builtin, hs, hy, hrun, Result.andThen]
  exact hK' _ _ (hK v' w' r1 r2 r3)
theorem jv_form {K : Nat → Prop} {A T F tm m B n0 : Nat} {E E' : List Ent} {J : List Nat} {jv : Value} {w W : World} (h : IaM K A T F tm m B n0 E E' J jv w W) : (∃ ja jc, jv = .slice ja J.length jc) ∧ n0 ≤ W.heap.size ∧ OwnK encJ 1 3 n0 jv J W := by
  obtain ⟨⟨x, y, P, h1, h2, h3, h4, h5⟩, hbel⟩ := h
  obtain ⟨ja, jc, e, _⟩ := ownK_form h4.own
  obtain ⟨nn, C, FF, L, ks⟩ := h1
  exact ⟨⟨ja, jc, e⟩, ks.hx.low, h4.own⟩
theorem valid_of_fold {s : List UInt8} (h : Nm.valid (Nm.fold s) = true) : Nm.valid s = true := by
  cases hv : Nm.valid s with
  | true => rfl
  | false =>
    unfold Nm.fold at h
    rw [if_neg (by rw [hv]; decide), hv] at h
    exact h
theorem IaG.up {E : List Ent} {k : Nat} (h : IaG E k) : IaG E (k + 1) := ⟨fun e he => by have := h.each e he; exact ⟨this.1, this.2.1, this.2.2.1, by omega⟩, h.nd⟩
set_option maxHeartbeats 64000000 in
theorem iacts_in (B : Nat) (l : List Acx) (lv : Value) (odd : List UInt8) (w : World) (hT : TabOk w) (h1 : 1024 ≤ B) (h2 : B ≤ 4096) (hr : RK encAc (fun _ => True) lv l w) (hfew : Calls Tryd.prog 33 #[lv] w fun e w' => e = .returned (.bool true) ∧ w = w') (hl : l.length ≤ 60) (hs : ∀ a ∈ l, a.s.length ≤ 300) (hn : ∀ a ∈ l, -9223372036854775808 ≤ a.n ∧ a.n ≤ 9223372036854775807) (ho : odd.length ≤ 300) :
    Calls Tryd.prog 9 #[.int .i64 (B : Int), lv, .string ⟨odd.toArray⟩] w fun e w' => e = .returned (.bool true) ∧ Below w.heap.size w w' := by
  have hg : 0 < w.heap.size := cell_lt (hT 0 (by decide))
  obtain ⟨ao, cap, rfl, hcap, _⟩ := hr.form
  have HFEW := Lib.hid hfew
  have HAT := Lib.hid (fun (i f : Nat) (hi : i < l.length) (hf : f < 3) => hr.at_ encAc_len (i := i) (f := f) hi hf)
  have HS := Lib.hid hs
  have HNN := Lib.hid hn
  have HT := Lib.hid hT
  have HG := Lib.hid hg
  clear hT hg hfew hr hs hn
  go_enter Tryd.func9, Tryd.ntmps9
  go_wp2_with fail
  refine HFEW.out.mono ?_
  rintro e w' ⟨rfl, rfl⟩
  clear HFEW
  go_wp2_with fail
  refine (new_x B w (by omega) (by omega) HT.out).mono ?_
  rintro e w2 ⟨A, rfl, hx, b2⟩
  have HX2 := Lib.hid hx
  have HB2 := Lib.hid b2
  clear hx b2
  go_wp2_with fail
  refine (inew_tv A B _ w2 HX2.out).mono ?_
  rintro e w3 ⟨T, F, rfl, hv, b3⟩
  obtain ⟨n0, HN, HS0⟩ : ∃ n0, Hid (w.heap.size ≤ n0) ∧ Hid (IaM (fun _ => False) A T F (w3.heap.size + 1) w3.heap.size B n0 [] [] [] (.slice none 0 0) w ((w3.alloc (.cells #[.int .i64 (B : Int), .slice none 0 0] 33)).alloc (.cells #[.pointer (some ⟨w3.heap.size, 0, none⟩), .slice none 0 0] 70))) := ⟨_, Lib.hid (Nat.le_refl _), Lib.hid (ia_start A T F B _ w w3 (Nat.le_refl _) hv (HB2.out.trans (b3.mono HB2.out.size)))⟩
  clear hv b3 HX2 HB2
  go_wp2
  generalize (w3.alloc (.cells #[.int .i64 (B : Int), .slice none 0 0] 33)).alloc (.cells #[.pointer (some ⟨w3.heap.size, 0, none⟩), .slice none 0 0] 70) = W4 at HS0 ⊢
  generalize w3.heap.size + 1 = tm at HS0 ⊢
  generalize w3.heap.size = m at HS0 ⊢
  go_loopw [11, 12] (fun jv i wr => ∃ (k : Nat) (E : List Ent) (J : List Nat) (ja : Option Addr) (jc : Nat), i = .int .i64 (k : Int) ∧ jv = .slice ja J.length jc ∧ k ≤ l.length ∧ J.length ≤ k ∧ Hid (IaM (fun _ => False) A T F tm m B n0 E E J (.slice ja J.length jc) w wr) ∧ Hid (IaG E k)) (fun _ i _ => l.length + 1 - (intOf i).toNat)
  case atStart => exact ⟨0, [], [], none, 0, rfl, rfl, Nat.zero_le _, Nat.le_refl _, HS0, Lib.hid ⟨(fun e he => by cases he), List.nodup_nil⟩⟩
  case round =>
    obtain ⟨k, E, J, ja, jc, rfl, rfl, hk, hJ, HF, HGO⟩ := hrel
    clear HS0
    by_cases hlt : k < l.length
    · obtain ⟨b, off, rfl, _, d0⟩ := HAT.out k 0 hlt (by omega)
      obtain ⟨b1, off1, e1, _, d1⟩ := HAT.out k 1 hlt (by omega)
      obtain ⟨b2, off2, e2, _, d2⟩ := HAT.out k 2 hlt (by omega)
      cases e1
      cases e2
      have hsl := HS.out _ (List.getElem_mem hlt)
      have hnl := HNN.out _ (List.getElem_mem hlt)
      obtain ⟨kd, hkd⟩ : ∃ q, l[k].kind = q := ⟨_, rfl⟩
      obtain ⟨s, hse⟩ : ∃ q, l[k].s = q := ⟨_, rfl⟩
      obtain ⟨nz, hnz⟩ : ∃ q, l[k].n = q := ⟨_, rfl⟩
      simp only [encAc, List.getElem?_cons_succ, List.getElem?_cons_zero, hkd, hse, hnz] at d0 d1 d2
      rw [hse] at hsl
      rw [hnz] at hnl
      rw [Nat.add_zero] at d0
      rw [← Nat.add_assoc] at d1 d2
      have g0 := (HF.out.bel.cell (cell_lt d0)).trans d0
      have g1 := (HF.out.bel.cell (cell_lt d1)).trans d1
      have g2 := (HF.out.bel.cell (cell_lt d2)).trans d2
      have HBX := Lib.hid (HF.out.box HN.out (.cells #[.int .i64 kd, .string ⟨s.toArray⟩, .int .i64 nz] 72))
      have HBK : Hid (Blk (wr.alloc (.cells #[.int .i64 kd, .string ⟨s.toArray⟩, .int .i64 nz] 72)) wr.heap.size [.int .i64 kd, .string ⟨s.toArray⟩, .int .i64 nz] 72) := Lib.hid (Blk.new wr _ _)
      clear d0 d1 d2 hkd hse hnz
      by_cases hk1 : kd = 1
      · subst hk1
        have x1 := HBK.out.cell (i := 1) rfl
        go_wp2_with fail
        refine (ia_add1 (fun b => b = wr.heap.size) A T F tm m B n0 E J _ k s w _ HN.out (by omega) hsl HBX.out HGO.out).mono ?_
        rintro e w5 ⟨E2, r, er, rfl, hact, h5, hkeep5⟩
        have H5 := Lib.hid h5
        have HBK5 := Lib.hid (HBK.out.kept (hkeep5 _ rfl))
        have HACT := Lib.hid hact
        have x1 := HBK5.out.cell (i := 1) rfl
        clear h5 hkeep5 hact
        go_wp2_with fail
        refine (ia_add2 (fun b => b = wr.heap.size) A T F tm m B n0 E E2 J _ k r er s w _ HN.out (by omega) (by omega) hsl H5.out HGO.out HACT.out).mono ?_
        rintro e w6 ⟨rfl, ⟨h6, _⟩, hg6⟩
        have H6 := Lib.hid h6
        have HG6 := Lib.hid hg6
        clear h6 hg6
        obtain ⟨_, hn06, ho6⟩ := jv_form H6.out
        have HO6 := Lib.hid ho6
        clear ho6
        go_wp2_with (first
          | (at_builtin; refine wpList_apG rfl _ _ rfl n0 _ J w6 r _ rfl HO6.out rfl rfl rfl (by omega) hn06 ?_; intro v7 w7 ho7 hg7 hv7; have H7 := Lib.hid (IaM.more HN.out (H6.out.after ((Below.refl _ _).alloc (Nat.le_refl _) _)) ho7 hg7 hv7).1; obtain ⟨ja7, jc7, rfl⟩ := (jv_form H7.out).1; clear ho7 hg7 hv7; refine Hid.out ?_))
        refine Lib.hid ?_
        go_wp2_with (go_at_call 40; refine (ia_shows (fun b => b = wr.heap.size) A T F tm m B n0 E2 (J ++ [r]) _ (k + 1) w _ (by omega) H7.out HG6.out).mono ?_; rintro e w8 ⟨rfl, b8⟩; have H8 := Lib.hid (H7.out.after b8).bare; clear b8)
        go_roundw
        case rel => exact ⟨k + 1, E2, J ++ [r], ja7, jc7, by go_num, by simp, by omega, by simp; omega, H8, HG6⟩
        case measure => simp [intOf]; omega
      · have hkk1 : (kd == 1) = false := by rw [beq_eq_false_iff_ne]; exact hk1
        by_cases hk2 : kd = 2
        · subst hk2
          clear hk1 hkk1
          have x2 := HBK.out.cell (i := 2) rfl
          by_cases hJ0 : J = []
          · have hJn : ¬ (0 < J.length) := by rw [hJ0]; simp
            clear hJ0
            go_wp2_with fail
            refine (ia_drop1 (fun b => b = wr.heap.size) A T F tm m B n0 E J _ k nz w _ HN.out HBX.out HGO.out).mono ?_
            rintro e w5 ⟨E2, er, rfl, hact, h5, _⟩
            have H5 := Lib.hid h5
            have HACT := Lib.hid hact
            clear h5 hact
            go_wp2_with fail
            refine (ia_drop2 (fun b => b = wr.heap.size) A T F tm m B n0 E E2 J _ k er nz w _ HN.out (by omega) (by omega) H5.out HGO.out HACT.out).mono ?_
            rintro e w6 ⟨rfl, ⟨h6, _⟩, hg6⟩
            have H6 := Lib.hid h6
            have HG6 := Lib.hid hg6
            clear h6 hg6
            go_wp2_with (go_at_call 40; refine (ia_shows (fun b => b = wr.heap.size) A T F tm m B n0 E2 J _ (k + 1) w _ (by omega) H6.out HG6.out).mono ?_; rintro e w8 ⟨rfl, b8⟩; have H8 := Lib.hid (H6.out.after b8).bare; clear b8)
            go_roundw
            case rel => exact ⟨k + 1, E2, J, _, _, by go_num, rfl, by omega, by omega, H8, HG6⟩
            case measure => simp [intOf]; omega
          · obtain ⟨_, hn05, ho5⟩ := jv_form HBX.out
            have hJl : 0 < J.length := List.length_pos_iff.2 hJ0
            obtain ⟨g, rfl⟩ : ∃ g, ja = some ⟨g, 0, none⟩ := by
              obtain ⟨ja', jc', e, hf⟩ := ownK_form ho5
              injection e with e1 e2 e3
              subst e1
              exact hf hJ0
            have hrb := roundI_bounds nz J.length (by omega)
            obtain ⟨q, hq⟩ : ∃ q : Nat, roundI nz J.length = (q : Int) := ⟨(roundI nz J.length).toNat, by omega⟩
            have HRO := Lib.hid (fun W => by have h := round_any nz J.length W (by omega) (by omega) hnl.1 hnl.2; rw [hq] at h; exact h)
            have hql : q < J.length := by omega
            have hcq := ownK_cell encJ_len ho5 hql (i := 0) (by omega)
            obtain ⟨zz, hzz⟩ : ∃ zz, J[q] = zz := ⟨_, rfl⟩
            simp only [encJ, List.getElem?_cons_zero, hzz, Nat.zero_add, Nat.mul_one, Nat.add_zero] at hcq
            clear hrb hq hzz ho5 hJ0
            go_wp2_with (go_at_call 28; refine (HRO.out _).mono ?_; rintro e w' ⟨rfl, rfl⟩; refine Hid.out ?_)
            refine Lib.hid ?_
            go_wp2_with fail
            refine (ia_drop1 (fun b => b = wr.heap.size) A T F tm m B n0 E J _ k (zz : Int) w _ HN.out HBX.out HGO.out).mono ?_
            rintro e w5 ⟨E2, er, rfl, hact, h5, _⟩
            have H5 := Lib.hid h5
            have HACT := Lib.hid hact
            clear h5 hact
            go_wp2_with fail
            refine (ia_drop2 (fun b => b = wr.heap.size) A T F tm m B n0 E E2 J _ k er (zz : Int) w _ HN.out (by omega) (by omega) H5.out HGO.out HACT.out).mono ?_
            rintro e w6 ⟨rfl, ⟨h6, _⟩, hg6⟩
            have H6 := Lib.hid h6
            have HG6 := Lib.hid hg6
            clear h6 hg6
            go_wp2_with (go_at_call 40; refine (ia_shows (fun b => b = wr.heap.size) A T F tm m B n0 E2 J _ (k + 1) w _ (by omega) H6.out HG6.out).mono ?_; rintro e w8 ⟨rfl, b8⟩; have H8 := Lib.hid (H6.out.after b8).bare; clear b8)
            go_roundw
            case rel => exact ⟨k + 1, E2, J, _, _, by go_num, rfl, by omega, by omega, H8, HG6⟩
            case measure => simp [intOf]; omega
        · have hkk2 : (kd == 2) = false := by rw [beq_eq_false_iff_ne]; exact hk2
          have HGU := Lib.hid HGO.out.up
          clear hk1 hk2
          go_wp2_with (go_at_call 40; refine (ia_shows (fun b => b = wr.heap.size) A T F tm m B n0 E J _ (k + 1) w _ (by omega) HBX.out HGU.out).mono ?_; rintro e w8 ⟨rfl, b8⟩; have H8 := Lib.hid (HBX.out.after b8).bare; clear b8)
          go_roundw
          case rel => exact ⟨k + 1, E, J, _, _, by go_num, rfl, by omega, by omega, H8, HGU⟩
          case measure => simp [intOf]; omega
    · obtain rfl : k = l.length := by omega
      clear HAT HS HNN
      obtain ⟨⟨x, y, P, k1, k2, _, _⟩, kb⟩ := HF.out
      have K1 := Lib.hid (fun W (hb : Below wr.heap.size wr W) => (k1.after hb).1)
      have K2 := Lib.hid (fun W (hb : Below wr.heap.size wr W) => k2.below hb)
      have KB := Lib.hid kb
      have hE := k2.few (by omega)
      clear k1 k2 kb HF
      by_cases hin : ∃ (i : Nat) (hi : i < E.length), E[i].name = Nm.fold odd
      · obtain ⟨i, hi, hz⟩ := hin
        have hge := HGO.out.each _ (List.getElem_mem hi)
        have hv : Nm.valid odd = true := valid_of_fold (by rw [← hz]; exact hge.1)
        obtain ⟨id, hid⟩ : ∃ q, E[i].id = q := ⟨_, rfl⟩
        have C1 := Lib.hid (fun W hb => (by have z := tvb_find x ⟨A, T, F⟩ B E E[i] n0 odd W (K1.out W hb) (List.getElem_mem hi) hz.symm (by omega); rw [hid] at z; exact z))
        have C2 := Lib.hid (fun W hb => (by have z := mtFind_yes y tm m E odd i hi W (K2.out W hb).mn (by omega) hv (by omega) hz (nodup_idx HGO.out.nd hi hz); rw [hid] at z; exact z))
        have C3 := Lib.hid (fun W hb => tvb_cost_yes x ⟨A, T, F⟩ B E E[i] n0 odd W (K1.out W hb) (List.getElem_mem hi) hv hz.symm (by omega))
        have C4 := Lib.hid (fun W hb => mtCost_yes y tm m E odd i hi W (K2.out W hb).mn (by omega) hv (by omega) hz (nodup_idx HGO.out.nd hi hz))
        clear hid hz hge hv
        go_wp2_with fail
        refine (C1.out _ (Below.refl _ _)).mono ?_
        rintro e w5 ⟨rfl, b5⟩
        have B5 := Lib.hid b5
        clear b5
        go_wp2_with fail
        refine (C2.out _ B5.out).mono ?_
        rintro e w6 ⟨rfl, b6⟩
        have B6 := Lib.hid (B5.out.trans (b6.mono B5.out.size))
        clear b6
        go_wp2_with fail
        refine (C3.out _ B6.out).mono ?_
        rintro e w7 ⟨rfl, b7⟩
        have B7 := Lib.hid (B6.out.trans (b7.mono B6.out.size))
        clear b7
        go_wp2_with fail
        refine (C4.out _ B7.out).mono ?_
        rintro e w8 ⟨rfl, b8⟩
        have B8 := Lib.hid (KB.out.trans ((B7.out.trans (b8.mono B7.out.size)).mono KB.out.size))
        clear b8
        go_wp2_with (go_at_call 34; refine (awake7_any _ (HT.out.below HG.out B8.out)).mono ?_; rintro e wa ⟨rfl, hb⟩; have HB9 := Lib.hid (B8.out.trans (hb.mono B8.out.size)); clear hb)
        go_ret
        exact ⟨rfl, HB9.out⟩
      · have hne : ∀ e ∈ E, e.name ≠ Nm.fold odd := fun e he h => by
          obtain ⟨i, hi, rfl⟩ := List.mem_iff_getElem.1 he
          exact hin ⟨i, hi, h⟩
        have C1 := Lib.hid (fun W hb => tvb_nofind x ⟨A, T, F⟩ B E n0 odd W (K1.out W hb) (by omega) (by rw [fold_len]; omega) hne)
        have C2 := Lib.hid (fun W hb => mtFind_no y tm m E odd W (K2.out W hb).mn (by omega) (by omega) hne)
        obtain ⟨cc, C3, C4⟩ : ∃ cc : Nat, Hid (∀ W, Below wr.heap.size wr W → Calls Tryd.prog 43 #[.pointer (some ⟨T, 0, none⟩), .string ⟨odd.toArray⟩] W fun e w' => e = .returned (.int .i64 (cc : Int)) ∧ Below W.heap.size W w') ∧ Hid (∀ W, Below wr.heap.size wr W → Calls Tryd.prog 44 #[.pointer (some ⟨tm, 0, none⟩), .string ⟨odd.toArray⟩] W fun e w' => e = .returned (.int .i64 (cc : Int)) ∧ Below W.heap.size W w') := by
          cases hv : Nm.valid odd with
          | true => exact ⟨_, Lib.hid fun W hb => tvb_cost_no x ⟨A, T, F⟩ B E n0 _ odd W (K1.out W hb) hv (by omega) hne rfl, Lib.hid fun W hb => mtCost_no y tm m E odd _ W (K2.out W hb).mn (by omega) hv (by omega) hne rfl⟩
          | false => exact ⟨0, Lib.hid fun W hb => (icost_bad _ odd W hv (by omega)).mono fun e w' ⟨he, hw⟩ => ⟨he, hw ▸ Below.refl _ _⟩, Lib.hid fun W hb => mtCost_bad y tm m E odd W (K2.out W hb).mn (by omega) hv (by omega) hne⟩
        clear hne hin
        go_wp2_with fail
        refine (C1.out _ (Below.refl _ _)).mono ?_
        rintro e w5 ⟨rfl, b5⟩
        have B5 := Lib.hid b5
        clear b5
        go_wp2_with fail
        refine (C2.out _ B5.out).mono ?_
        rintro e w6 ⟨rfl, b6⟩
        have B6 := Lib.hid (B5.out.trans (b6.mono B5.out.size))
        clear b6
        go_wp2_with fail
        refine (C3.out _ B6.out).mono ?_
        rintro e w7 ⟨rfl, b7⟩
        have B7 := Lib.hid (B6.out.trans (b7.mono B6.out.size))
        clear b7
        go_wp2_with fail
        refine (C4.out _ B7.out).mono ?_
        rintro e w8 ⟨rfl, b8⟩
        have B8 := Lib.hid (KB.out.trans ((B7.out.trans (b8.mono B7.out.size)).mono KB.out.size))
        clear b8
        go_wp2_with (go_at_call 34; refine (awake7_any _ (HT.out.below HG.out B8.out)).mono ?_; rintro e wa ⟨rfl, hb⟩; have HB9 := Lib.hid (B8.out.trans (hb.mono B8.out.size)); clear hb)
        go_ret
        exact ⟨rfl, HB9.out⟩
end Go.Proofs.YtdbaocphglijbaaDoor

/- InternActs: for any budget, any list of acts, any odd name. -/
set_option maxRecDepth 100000
namespace Go.Proofs.YtdbaocphglijbaaDoor
open Go Go.RowKit Go.Shelf
attribute [local go_sem] Oper.semAt_some
set_option maxHeartbeats 8000000 in
theorem iacts_any (z : Int) (l : List Acx) (lv : Value) (odd : List UInt8) (w : World) (hT : TabOk w) (hz : -9223372036854775808 ≤ z ∧ z ≤ 9223372036854775807) (hr : RK encAc (fun _ => True) lv l w)
    (hs : ∀ a ∈ l, a.s.length ≤ 9223372036854775807) (hn : ∀ a ∈ l, -9223372036854775808 ≤ a.n ∧ a.n ≤ 9223372036854775807) (hl : l.length ≤ 9223372036854775807) (ho : odd.length ≤ 9223372036854775807) :
    Calls Tryd.prog 9 #[.int .i64 z, lv, .string ⟨odd.toArray⟩] w fun e w' => e = .returned (.bool true) ∧ Below w.heap.size w w' := by
  have HT := Lib.hid hT
  clear hT
  by_cases h1 : z < 1024
  · clear hr hs hn
    go_enter Tryd.func9, Tryd.ntmps9
    go_wp2_with (go_at_call 34; refine (awake7_any _ HT.out).mono ?_; rintro e w' ⟨rfl, hb⟩)
    go_ret
    exact ⟨rfl, hb⟩
  · by_cases h2 : 4096 < z
    · clear hr hs hn
      go_enter Tryd.func9, Tryd.ntmps9
      go_wp2_with (go_at_call 34; refine (awake7_any _ HT.out).mono ?_; rintro e w' ⟨rfl, hb⟩)
      go_ret
      exact ⟨rfl, hb⟩
    · obtain ⟨B, rfl⟩ : ∃ B : Nat, z = (B : Int) := ⟨z.toNat, by omega⟩
      have hf := Lib.hid (few7_any l lv w hr hl hs)
      cases hb : fewB l with
      | false =>
        have HF := Lib.hid (show Calls Tryd.prog 33 #[lv] w fun e w' => e = .returned (.bool false) ∧ w = w' from hf.out.mono fun e w' h => ⟨by rw [← hb]; exact h.1, h.2⟩)
        clear hr hs hn hf hb
        go_enter Tryd.func9, Tryd.ntmps9
        go_wp2_with fail
        refine HF.out.mono ?_
        rintro e w' ⟨rfl, rfl⟩
        go_wp2_with (go_at_call 34; refine (awake7_any _ HT.out).mono ?_; rintro e w' ⟨rfl, hb⟩)
        go_ret
        exact ⟨rfl, hb⟩
      | true =>
        have HF := Lib.hid (show Calls Tryd.prog 33 #[lv] w fun e w' => e = .returned (.bool true) ∧ w = w' from hf.out.mono fun e w' h => ⟨by rw [← hb]; exact h.1, h.2⟩)
        have hfw := of_decide_eq_true hb
        clear hf hb
        by_cases h3 : odd.length ≤ 300
        · exact iacts_in B l lv odd w HT.out (by omega) (by omega) hr HF.out hfw.1 hfw.2 hn h3
        · clear hr hs hn hfw
          go_enter Tryd.func9, Tryd.ntmps9
          go_wp2_with fail
          refine HF.out.mono ?_
          rintro e w' ⟨rfl, rfl⟩
          go_wp2_with (go_at_call 34; refine (awake7_any _ HT.out).mono ?_; rintro e w' ⟨rfl, hb⟩)
          go_ret
          exact ⟨rfl, hb⟩
end Go.Proofs.YtdbaocphglijbaaDoor

/- The frame of InternActs: an argument that is a list of acts. -/
set_option maxRecDepth 100000
namespace Go.Proofs.YtdbaocphglijbaaDoor
open Go.ChangeShapes Go.WideShapes Go.ChangeAt Go.RowKit
theorem flatAc_len : ∀ l : List Acx, (l.flatMap encAc).length = l.length * 3
  | [] => rfl
  | a :: l => by rw [List.flatMap_cons, List.length_append, flatAc_len l, encAc_len, List.length_cons]; omega
/-- What is read act by act is read as a whole. -/
theorem RK.ofActs {l : List Acx} {W : World} {b off cap : Nat} (hcap : l.length ≤ cap) (hc : ∀ (i : Nat) (h : i < l.length) (f : Nat), f < 3 → W.cell? ⟨b, off + (i * 3 + f), none⟩ = (encAc l[i])[f]?) :
    RK encAc (fun _ => True) (.slice (some ⟨b, off, none⟩) l.length cap) l W :=
  ⟨some ⟨b, off, none⟩, cap, rfl, hcap, fun j u hu => ⟨b, off, rfl, trivial, by
    have hj : j < (l.flatMap encAc).length := (List.getElem?_eq_some_iff.1 hu).1
    have hl3 := flatAc_len l
    have hi : j / 3 < l.length := by omega
    have hf : j % 3 < 3 := by omega
    have e : j = j / 3 * 3 + j % 3 := by omega
    have h1 := flat_get encAc 3 encAc_len l (j / 3) (j % 3) hi hf
    rw [← e] at h1
    have h2 := hc (j / 3) hi (j % 3) hf
    rw [← e] at h2
    rw [h2, ← h1, hu]⟩⟩
section
variable {H : Type} {enc : TypeId × Value → H} {W : World}
theorem act_in {fuel : Nat} {cs : List Value} {x : DataW H × List MemPlace} (hf : DataW.trod enc Tryd.prog W 0 (fun _ => true) true fuel 72 cs = some x) :
    ∃ a : Acx, cs = encAc a ∧ a.s.length ≤ maxLen ∧ -9223372036854775808 ≤ a.n ∧ a.n ≤ 9223372036854775807 := by
  obtain ⟨ys, n, _, rfl, hl, hlen, hg⟩ := DataW.trod_struct Tryd.underlying72 hf
  have hl3 : cs.length = 3 := hl.trans (by kernel_rfl)
  match cs, hl3 with
  | [c0, c1, c2], _ =>
    have k1 : Tryd.prog.cellsOf 3 = 1 := by kernel_rfl
    have k3 : Tryd.prog.cellsOf 9 = 1 := by kernel_rfl
    match ys, hlen with
    | [y0, y1, y2], _ =>
      have g0 := hg 0 _ rfl
      have g1 := hg 1 _ rfl
      have g2 := hg 2 _ rfl
      simp [k1, k3] at g0 g1 g2
      obtain ⟨z0, e0, _, _⟩ := DataW.trod_int Tryd.underlying3 g0
      obtain ⟨⟨⟨s⟩⟩, e1, _, hs⟩ := DataW.trod_string Tryd.underlying9 g1
      obtain ⟨z2, e2, _, hz⟩ := DataW.trod_int Tryd.underlying3 g2
      obtain rfl : c0 = .int .i64 z0 := by simpa using e0
      obtain rfl : c1 = .string ⟨s.toArray⟩ := by simpa using e1
      obtain rfl : c2 = .int .i64 z2 := by simpa using e2
      exact ⟨⟨z0, s, z2⟩, rfl, hs, bounds_i64 hz⟩
theorem arg_acts {b0 : Nat} {v : Value} {d : DataW H} {ps : List MemPlace} (hval : Value.okWide Tryd.prog W .any b0 63 v) (hd : DataW.Trod enc Tryd.prog W 0 (fun _ => true) true 63 v d ps) :
    ∃ l : List Acx, RK encAc (fun _ => True) v l W ∧ (∀ a ∈ l, a.s.length ≤ maxLen) ∧ (∀ a ∈ l, -9223372036854775808 ≤ a.n ∧ a.n ≤ 9223372036854775807) ∧ l.length ≤ maxLen := by
  obtain ⟨a0, len, cap, rfl⟩ := okWide_slice Tryd.underlying63 hval
  obtain ⟨fuel, hf⟩ := hd
  rcases Go.Deep.open_slice Tryd.underlying63 hf with ⟨hcs, _⟩ | ⟨a, len', cap', m, n, D, Pl, hcs, _, hle, hmax, hm, _, hi⟩
  · simp [Value.cells] at hcs
    obtain ⟨rfl, rfl, rfl⟩ := hcs
    exact ⟨[], RK.nil _ _ _, by simp, by simp, zero_maxLen⟩
  · simp [Value.cells] at hcs
    obtain ⟨rfl, rfl, rfl⟩ := hcs
    simp only [if_true] at hm
    subst hm
    have k3 : Tryd.prog.cellsOf 72 = 3 := by kernel_rfl
    have hall : ∀ i, i < len → ∃ x : Acx, (∀ j, j < 3 → W.cell? ((a.add (i * 3)).add j) = (encAc x)[j]?) ∧ x.s.length ≤ maxLen ∧ -9223372036854775808 ≤ x.n ∧ x.n ≤ 9223372036854775807 := fun i hil => by
      obtain ⟨cs', hc, ht⟩ := hi i (by omega)
      rw [k3] at hc
      obtain ⟨_, _, hat⟩ := World.cells?_some hc
      obtain ⟨x, rfl, r⟩ := act_in ht
      exact ⟨x, hat, r⟩
    obtain ⟨F, hF⟩ : ∃ F : Nat → Acx, ∀ i, i < len → (∀ j, j < 3 → W.cell? ((a.add (i * 3)).add j) = (encAc (F i))[j]?) ∧ (F i).s.length ≤ maxLen ∧ -9223372036854775808 ≤ (F i).n ∧ (F i).n ≤ 9223372036854775807 :=
      ⟨fun i => if h : i < len then (hall i h).choose else ⟨0, [], 0⟩, fun i h => by have h5 := (hall i h).choose_spec; simp only [h, dite_true]; exact h5⟩
    have hin : ∀ x ∈ (List.range len).map F, ∃ i, i < len ∧ F i = x := fun x hx => by
      obtain ⟨i, hi, rfl⟩ := List.mem_map.1 hx
      exact ⟨i, List.mem_range.1 hi, rfl⟩
    refine ⟨(List.range len).map F, ?_, fun x hx => ?_, fun x hx => ?_, by simp; omega⟩
    · by_cases h0 : 0 < len
      · obtain ⟨b, off, spot⟩ := a
        have c00 := (hF 0 h0).1 0 (by omega)
        have hspot : spot = none := by simpa [Addr.add] using World.cell?_spot (show W.cell? _ = some _ from c00)
        subst hspot
        have hz := RK.ofActs (l := (List.range len).map F) (W := W) (b := b) (off := off) (cap := m) (by simp; omega) (fun i hi f hf => by
          rw [List.length_map, List.length_range] at hi
          have h1 := (hF i hi).1 f hf
          rw [add_plain, add_plain, Nat.add_assoc] at h1
          rw [h1, List.getElem_map, List.getElem_range])
        rw [List.length_map, List.length_range] at hz
        exact hz
      · obtain rfl : len = 0 := by omega
        exact ⟨some a, m, rfl, Nat.zero_le _, fun j u hu => by simp at hu⟩
    · obtain ⟨i, hi, rfl⟩ := hin x hx
      exact (hF i hi).2.1
    · obtain ⟨i, hi, rfl⟩ := hin x hx
      exact (hF i hi).2.2
end
theorem readT8 : ∀ t ∈ [3, 63, 9], Tryd.prog.readableRec t = true ∧ t < Tryd.prog.types.size := by
  intro t ht
  simp only [List.mem_cons, List.not_mem_nil, or_false] at ht
  rcases ht with rfl | rfl | rfl
  all_goals exact ⟨by kernel_rfl, of_decide_eq_true (by kernel_rfl)⟩
theorem standT8 : ∀ t ∈ [3, 63, 9], Tryd.prog.wantsStandIn t = false := by
  intro t ht
  simp only [List.mem_cons, List.not_mem_nil, or_false] at ht
  rcases ht with rfl | rfl | rfl
  all_goals kernel_rfl
end Go.Proofs.YtdbaocphglijbaaDoor

/- whatever names are used and dropped, each act tells, and all names, their uses and what the arena has are as the document says
   Conditions: those of the row and of its card, none beside. -/
set_option maxRecDepth 100000
namespace Go.Proofs.YtdbaocphglijbaaDoor.internActs
open Go.ChangeShapes Go.WideShapes Go.ChangeAt Go.RowKit

theorem contract (H : Type) (enc : TypeId × Value → H) (W : World) (base : Nat) (args : Array Value) (ds gs : List (DataW H)) (before : List MemPlace)
    (hval : ∀ (j : Nat) t v, Tryd.f9.params[j]? = some t → args[j]? = some v → Value.okWide Tryd.prog W .any base t v)
    (hW : DataW.Whole enc Tryd.prog Tryd.f9.params.toList Rows.internActsSpec.vars false W args.toList ds gs before) (hL : laidMetH Tryd.prog laidList W) :
    Calls Tryd.prog 9 args W fun e W' => ∃ v, e = .returned v ∧ Rows.internActsSpec.post enc Tryd.prog Tryd.f9 false true false false W args v W' := by
  have hW' := hW
  obtain ⟨p, q, hA0, hV, rfl, _, _⟩ := hW
  have hA : DataW.TrodAll enc Tryd.prog W 0 (fun _ => true) true Tryd.f9.params.toList args.toList ds p := hA0
  clear hA0
  rw [Tryd.params9] at hA hval
  obtain ⟨v0, vs0, d0, ds0, p0, q0, hargs0, rfl, rfl, h0, r0⟩ := trodAll_cons hA
  obtain ⟨v1, vs1, d1, ds1, p1, q1, hargs1, rfl, rfl, h1, r1⟩ := trodAll_cons r0
  subst hargs1
  obtain ⟨v2, vs2, d2, ds2, p2, q2, hargs2, rfl, rfl, h2, r2⟩ := trodAll_cons r1
  subst hargs2
  obtain ⟨rfl, rfl, rfl⟩ := trodAll_nil r2
  obtain rfl : args = #[v0, v1, v2] := by cases args; simp_all
  obtain ⟨rfl, rfl⟩ := trodVars_none hV
  obtain ⟨z0, rfl, hz0⟩ := arg_int (hval 0 _ _ rfl rfl) h0
  obtain ⟨l1, hr1, hs1, hn1, hl1⟩ := arg_acts (hval 1 _ v1 rfl rfl) h1
  obtain ⟨l2, rfl, hl2⟩ := arg_string (hval 2 _ _ rfl rfl) h2
  have hL' := tabOk hL
  refine (iacts_any z0 l1 v1 l2 W hL' hz0 hr1 hs1 hn1 hl1 hl2).mono fun e W' ⟨he, hbl⟩ => ?_
  exact ⟨_, he, law_post hW' rfl hbl rfl rfl (fun t ht => readT8 t (by rw [Tryd.params9] at ht; exact (show ∀ t ∈ (#[3, 63, 9] : Array TypeId).toList, t ∈ [3, 63, 9] by decide) t ht))⟩

theorem reads (os : Os) {H : Type} (enc : TypeId × Value → H) : ∃ places, DataW.whole enc Tryd.prog ((laidWorld os).forCall (fun _ _ => 0) ⟨#[], #[.int .i64 0, .slice none 0 0, .string ⟨#[]⟩], []⟩).memory Tryd.f9.params.toList Rows.internActsSpec.vars false (#[.int .i64 0, .slice none 0 0, .string ⟨#[]⟩] : Array Value).toList 8 = some ([.lit (.int .i64 0), .nil, .lit (.string [])], [], places) :=
  ⟨[], by kernel_rfl⟩

theorem lifted (os : Os) (started : os.Started) (H : Type) (enc : TypeId × Value → H) (F : Stop.Interp) :
    ReturnsInHanded {} Tryd.checked os 9 .any ((OpenSpec.ofChange Rows.internActsSpec).preRow enc Tryd.prog Tryd.f9 Rows.internActsRow.domain false Rows.internActsRow.laid) (((OpenSpec.ofChange Rows.internActsSpec).at F).post enc Tryd.prog Tryd.f9 false true false false) := by
  obtain ⟨places, hx⟩ := reads os enc
  refine returnsInHanded_of_row (C := Tryd.checked) (s := OpenSpec.ofChange Rows.internActsSpec) own started (by kernel_rfl) Tryd.func9
    (witness_row_atRef (enc := enc) (C := Tryd.checked) false (laidWorld os) #[.int .i64 0, .slice none 0 0, .string ⟨#[]⟩] rfl (by kernel_rfl) (by kernel_rfl) (by kernel_rfl)
      (OpenSpec.preRow_of_cond 8 hx (by kernel_rfl) (fun k hk => by cases hk) (by kernel_rfl) (laid_met os _))) ?_
  intro W base args ds gs before hval hW _ _ _ hL _ _
  exact contract H enc W base args ds gs before hval hW hL

theorem said : Rows.InternActsSaid :=
  OpenClaim.holds_of_cond 9 Tryd.f9 rfl rfl rfl rfl rfl rfl rfl ⟨rfl, rfl, rfl, rfl, rfl⟩ rfl rfl rfl rfl rfl (by kernel_rfl) Tryd.func9 (by kernel_rfl)
    (of_decide_eq_true (by kernel_rfl)) (by unfold Func.isWrapper; first | (rw [if_pos (by decide +kernel)]; kernel_rfl) | (rw [if_neg (by decide +kernel)]; exact ⟨rfl, rfl⟩))
    (fun os started H enc _ F => by rw [OpenClaim.pre_eq_preRow]; exact lifted os started H enc F)

/-- No parameter wants a stand-in; the looks are as the card has them. -/
theorem plain (f : FuncId) (fn : Func) (hf : Tryd.pinned.checked.prog.funcNamed "freshet/freshetlaw7.InternActs" = some f) (hfn : Tryd.pinned.checked.prog.funcs[f]? = some fn) :
    false = Tryd.pinned.checked.prog.looks [] ∧ ∀ (j : Nat) t, fn.params[j]? = some t → Tryd.pinned.checked.prog.wantsStandIn t = false := by
  obtain rfl : f = 9 := Option.some.inj ((show Tryd.prog.funcNamed "freshet/freshetlaw7.InternActs" = some 9 by kernel_rfl).symm.trans hf) |>.symm
  obtain rfl : fn = Tryd.f9 := (Option.some.inj (Tryd.func9.symm.trans hfn)).symm
  refine ⟨by kernel_rfl, fun j t ht => ?_⟩
  rw [Tryd.params9] at ht
  exact standT8 t ((show ∀ t ∈ (#[3, 63, 9] : Array TypeId).toList, t ∈ [3, 63, 9] by decide) t (Array.mem_toList_iff.2 (Array.mem_of_getElem? ht)))

theorem card : Rows.InternActsCardSaid :=
  Claim7.holds_tied_plain_at .later [] _ _ _ _ said (fun _ h => by cases h) (by kernel_rfl) (fun _ h => by cases h) internActs_row_tie rfl ⟨rfl, rfl⟩ (by kernel_rfl) rfl plain (by kernel_rfl)
end Go.Proofs.YtdbaocphglijbaaDoor.internActs
