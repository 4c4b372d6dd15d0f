/- ArenaEdges of package freshetlaw6 (within a block each byte may be read and written, and none outside of it; a refused write changes nothing) returns true at every three numbers, and they read as they did: the given card.
   Conditions: those of the row and of its card, none beside. -/
import Derived.Test.YtdbaocphglijbaaDoorJB20
import Derived.Test.YtdbaocphglijbaaDoorJB18
/- ArenaEdges: the walk. -/
set_option maxRecDepth 100000
namespace Go.Proofs.YtdbaocphglijbaaDoor
open Go.RowKit Go.Shelf
attribute [local go_sem] Oper.semAt_some
theorem wanted_undef {ops : Array Oper} {o : Oper} {a : Act} {g d : Nat} {b : Bool} (h : o.guard = some (g, b)) (hd : dstAt ops g = some d) (he : a.tmps[d]?.getD undef = undef) : Region.wanted o (yielded ops a.tmps) = false := by
  unfold Region.wanted
  rw [h]
  simp only
  unfold dstAt at hd
  unfold yielded
  rw [hd]
  simp only [Option.bind_some]
  cases hx : a.tmps[d]? with
  | none => rfl
  | some v =>
    rw [hx] at he
    have hv : v = undef := he
    subst hv
    rfl
/-- A slice of twenty bytes 0 that was just made. -/
def EdMk (v : Value) (W : World) : Prop := ∃ B, v = .slice (some ⟨B, 0, none⟩) 20 20 ∧ RdB (.slice (some ⟨B, 0, none⟩) 20 20) (Ar.zeros 20) W
theorem EdMk.below {v : Value} {x y : World} (h : EdMk v x) (hb : slotLe x y) : EdMk v y := by
  obtain ⟨B, e, hr⟩ := h
  exact ⟨B, e, hr.below hb⟩
theorem EdMk.new (W : World) : EdMk (.slice (some ⟨W.heap.size, 0, none⟩) 20 20) (W.alloc (.cells (List.replicate 20 (.int .u8 0)).toArray 5)) :=
  ⟨W.heap.size, rfl, rdB_block (l := Ar.zeros 20) (Blk.new W _ _) (zeros_len 20).symm⟩
theorem eqz20 : ((⟨(Ar.zeros 20).toArray⟩ : ByteArray) == ⟨(Ar.zeros 20).toArray⟩) = true := by decide +kernel
theorem ed_step {k size : Nat} (h : k < size) : ((List.replicate k (120 : UInt8) ++ List.replicate (size - k) 0).map encB).set k (.int .u8 120) = (List.replicate (k + 1) (120 : UInt8) ++ List.replicate (size - (k + 1)) 0).map encB := by
  rw [show (.int .u8 120 : Value) = encB 120 from rfl, ← List.map_set]
  congr 1
  rw [List.set_append_right _ _ (by simp)]
  obtain ⟨m, hm⟩ : ∃ m, size - k = m + 1 := ⟨size - k - 1, by omega⟩
  rw [hm, show size - (k + 1) = m by omega, List.replicate_succ (n := m)]
  simp [List.replicate_succ']
theorem rdB_at {ao : Option Addr} {n c : Nat} {l : List UInt8} {W : World} (h : RdB (.slice ao n c) l W) {k : Nat} (hk : k < l.length) : ∃ b off, ao = some ⟨b, off, none⟩ ∧ W.cell? ⟨b, off + k, none⟩ = some (encB l[k]) := by
  obtain ⟨ao', cap', e, hc⟩ := h.form
  cases e
  exact hc k hk
theorem edD_at {n : Nat} (k size p : Nat) (hp : p < n) (hk : k + size ≤ n) : (edD n (k : Int) size true)[p]? = some (if k ≤ p ∧ p < k + size then 120 else 0) := by
  unfold edD Ar.put
  rw [Int.toNat_natCast, xs_len]
  have h1 : ((Ar.zeros n).take k).length = k := by simp [Ar.zeros]; omega
  by_cases g1 : k ≤ p
  · by_cases g2 : p < k + size
    · rw [if_pos ⟨g1, g2⟩, List.append_assoc, List.getElem?_append_right (by omega), List.getElem?_append_left (by rw [xs_len]; omega), h1]
      unfold xsB
      rw [List.getElem?_replicate, if_pos (by omega)]
    · rw [if_neg (fun e => g2 e.2), List.getElem?_append_right (by rw [List.length_append, h1, xs_len]; omega), List.length_append, h1, xs_len, List.getElem?_drop]
      unfold Ar.zeros
      rw [List.getElem?_replicate, if_pos (by omega)]
  · rw [if_neg (fun e => g1 e.1), List.append_assoc, List.getElem?_append_left (by omega), List.getElem?_take_of_lt (by omega)]
    unfold Ar.zeros
    rw [List.getElem?_replicate, if_pos hp]
theorem ed_start {A n : Nat} {w0 w : World} (size : Nat) (h : HX (fun _ => False) A 2048 [(1, Ar.zeros n), (2, Ar.zeros 20)] w0.heap.size w) (hb : Below w0.heap.size w0 w) : Mn A 2048 w.heap.size ((List.replicate 0 (120 : UInt8) ++ List.replicate (size - 0) 0).map encB) 5 [(1, Ar.zeros n), (2, Ar.zeros 20)] w0 (w.alloc (.cells (Array.replicate size (.int .u8 0)) 5)) := by
  have := Mn.start h hb (List.replicate size (.int .u8 0)) 5
  rw [List.toArray_replicate] at this
  rw [List.replicate_zero, List.nil_append, Nat.sub_zero, List.map_replicate]
  exact this
theorem ed_full {A I n k size : Nat} {w w' : World} (h : Mn A 2048 I ((List.replicate k (120 : UInt8) ++ List.replicate (size - k) 0).map encB) 5 [(1, Ar.zeros n), (2, Ar.zeros 20)] w w') (hk : k = size) : Mn A 2048 I ((xsB size).map encB) 5 [(1, Ar.zeros n), (2, Ar.zeros 20)] w w' := by
  subst hk
  rw [Nat.sub_self, List.replicate_zero, List.append_nil] at h
  exact h
set_option maxHeartbeats 64000000 in
theorem edges_in (n size : Nat) (a : Int) (w : World) (hT : TabOk w) (hn : n ≤ 500) (hs : size ≤ 1000) (hI1 : -9223372036854775808 ≤ a) (hI2 : a ≤ 9223372036854775807) :
    Calls Tryd.prog 7 #[.int .i64 (n : Int), .int .i64 a, .int .i64 (size : Int)] w fun e w' => e = .returned (.bool true) ∧ Below w.heap.size w w' := by
  have HT := Lib.hid hT
  clear hT
  have n1 : ¬ (n : Int) < 0 := by omega
  have n2 : ¬ (500 : Int) < n := by omega
  have n3 : ¬ (size : Int) < 0 := by omega
  have n4 : ¬ (1000 : Int) < size := by omega
  have hmk0 := fun W => make_one (e := 5) Tryd.underlying34 infoU8 (by decide) rfl (size : Int) size rfl (by omega) W
  have HMK := Lib.hid (fun W => make_one (e := 5) Tryd.underlying34 infoU8 (by decide) rfl 20 20 rfl (by decide) W)
  go_enter Tryd.func7, Tryd.ntmps7
  go_wp2_with (first
    | (go_at_call 15; with_reducible refine (ed_new _ HT.out).mono ?_; rintro e w1 ⟨A, rfl, hA1, hb1⟩; have HA1 := Lib.hid hA1; have HB1 := Lib.hid hb1; clear hA1 hb1)
    | (go_at_call 17; with_reducible refine (ed_alloc1 A n w _ HA1.out HB1.out hn).mono ?_; rintro e w2 ⟨rfl, hA2, hb2⟩; have HA2 := Lib.hid hA2; have HB2 := Lib.hid hb2; clear hA2 hb2)
    | (go_at_call 17; with_reducible refine (ed_alloc2 A n w _ HA2.out HB2.out hn).mono ?_; rintro e w3 ⟨rfl, hA3, hb3⟩; have H0 := Lib.hid (ed_start size hA3 hb3); clear hA3 hb3))
  clear hmk0
  generalize World.alloc w3 _ = W0 at H0 ⊢
  generalize w3.heap.size = I at H0 ⊢
  go_loopw [14] (fun i wr => ∃ k : Nat, i = .int .i64 (k : Int) ∧ k ≤ size ∧ Hid (Mn A 2048 I ((List.replicate k (120 : UInt8) ++ List.replicate (size - k) 0).map encB) 5 [(1, Ar.zeros n), (2, Ar.zeros 20)] w wr)) (fun i _ => size + 1 - (intOf i).toNat)
  case atStart => exact ⟨0, rfl, Nat.zero_le _, H0⟩
  case round =>
    obtain ⟨k, rfl, hk, HH⟩ := hrel
    clear H0
    by_cases hlt : k < size
    · have hcell := HH.out.blk.cell (i := k) (v := .int .u8 0) (by rw [List.getElem?_map, List.getElem?_append_right (by simp), List.getElem?_replicate, if_pos (by simp; omega)]; rfl)
      have hfr := HH.out.blk.frozen k
      go_wp2
      go_roundw
      case rel => exact ⟨k + 1, by go_num, by omega, Lib.hid (by have := HH.out.put k (.int .u8 120); rw [ed_step hlt] at this; exact this)⟩
      case measure => simp [intOf]; omega
    · have H1 := Lib.hid (ed_full HH.out (by omega))
      clear HH
      go_upto_region 15 with (fail)
      obtain ⟨fb, hfb⟩ : ∃ fb, fb = fitsB n a size := ⟨_, rfl⟩
      have HFB := Lib.hid hfb
      clear hfb
      obtain ⟨jv, hjv⟩ : ∃ jv, jv = jOf fb := ⟨_, rfl⟩
      have HJ := Lib.hid hjv
      clear hjv
      obtain ⟨ln, hln⟩ : ∃ ln, ln = (edC size fb).length := ⟨_, rfl⟩
      have HLN := Lib.hid hln
      clear hln
      go_cut [15] from 77 to 90 (fun f wx => f = .bool fb ∧ wx = wr)
      case first =>
        have hc := HFB.out
        by_cases h1 : a < 0
        · have : fitsB n a size = false := by unfold fitsB; rw [decide_eq_false_iff_not]; omega
          rw [this] at hc
          subst hc
          go_wp2
          go_meet
          case rel => exact ⟨rfl, rfl⟩
        by_cases h2 : (n : Int) < a
        · have : fitsB n a size = false := by unfold fitsB; rw [decide_eq_false_iff_not]; omega
          rw [this] at hc
          subst hc
          go_wp2
          go_meet
          case rel => exact ⟨rfl, rfl⟩
        have hd : fitsB n a size = decide ((size : Int) ≤ (n : Int) - a) := by
          unfold fitsB
          rw [decide_eq_decide]
          omega
        rw [hd] at hc
        subst hc
        go_wp2
        go_meet
        case rel => exact ⟨rfl, rfl⟩
      case rest =>
        obtain ⟨rfl, rfl⟩ := hcut
        go_wp2_with (first
          | (go_at_call 23; with_reducible refine (ed_write A I n size a w _ fb jv HJ.out HFB.out H1.out hs hI1 hI2).mono ?_; rintro e w6 ⟨rfl, h6⟩; have H6 := Lib.hid h6; clear h6)
          | (go_at_call 21; with_reducible refine (ed_read1 A I n size a w _ fb jv ln HJ.out HLN.out HFB.out H6.out hI1 hI2 hs).mono ?_; rintro e w7 ⟨ao1, c1, rfl, r1, h7⟩; have H7 := Lib.hid h7; have HR1 := Lib.hid r1; clear h7 r1)
          | (go_at_call 21; with_reducible refine (ed_read2 A I n size a w _ fb HFB.out H7.out).mono ?_; rintro e w8 ⟨ao2, c2, rfl, r2, h8, b8⟩; have H8 := Lib.hid h8; have HR2 := Lib.hid r2; replace HR1 := Lib.hid (HR1.out.below b8); clear h8 r2 b8)
          | (go_at_call 21; with_reducible refine (ed_read3 A I n size a w _ fb H8.out).mono ?_; rintro e w9 ⟨ao3, c3, rfl, r3, h9, b9⟩; have H9 := Lib.hid h9; have HR3 := Lib.hid r3; replace HR1 := Lib.hid (HR1.out.below b9); replace HR2 := Lib.hid (HR2.out.below b9); clear h9 r3 b9))
        go_cut [164] from 117 to 164 (fun f wx => f = .bool false ∧ Below w9.heap.size w9 wx)
        case first =>
          cases fb
          · obtain rfl : jv = 1 := HJ.out
            obtain rfl : ln = 0 := HLN.out
            refine wp_region_slots slotLe (slotPhi ((fun v _ => v = ?b117) :: (fun v _ => v = ?b118) :: (fun v _ => v = ?b119) :: (fun v _ => v = ?b120) :: (fun v _ => v = ?b121) :: (fun v _ => v = ?b122) :: (fun v _ => v = ?b123) :: (fun v _ => v = ?b124) :: (fun v _ => v = ?b125) :: (fun v _ => v = ?b126) :: (fun v _ => v = ?b127) :: (fun v _ => v = ?b128) :: (fun v _ => v = ?b129) :: (fun v _ => v = ?b130) :: (fun v _ => v = ?b131) :: (fun v _ => v = ?b132) :: (fun v _ => v = ?b133) :: (fun v _ => v = ?b134) :: (fun v _ => v = ?b135) :: (fun v _ => v = ?b136) :: (fun v _ => v = ?b137) :: (fun v _ => v = ?b138) :: (fun v _ => v = ?b139) :: (fun v _ => v = ?b140) :: (fun v _ => v = ?b141) :: (fun v _ => v = ?b142) :: (fun v _ => v = ?b143) :: (fun v _ => v = ?b144) :: (fun v _ => v = ?b145) :: (fun v _ => v = ?b146) :: (fun v _ => v = ?b147) :: (fun v _ => v = ?b148) :: (fun v _ => v = ?b149) :: (fun v _ => v = ?b150) :: (fun v _ => v = ?b151) :: (fun v _ => v = ?b152) :: (fun v _ => v = ?b153) :: (fun v _ => v = .string ⟨(Ar.zeros 20).toArray⟩) :: (EdMk) :: (fun v _ => v = .string ⟨(Ar.zeros 20).toArray⟩) :: (fun v _ => v = .bool false) :: (fun v _ => v = ?b158) :: (fun v _ => v = ?b159) :: (fun v _ => v = ?b160) :: (fun v _ => v = ?b161) :: (fun v _ => v = ?b162) :: (fun v _ => v = ?b163) :: (fun v _ => v = ?b164) :: [])) slotLe_refl slotLe_trans (slotPhi_stable ?stb) (by kernel_rfl) (by kernel_rfl) (by kernel_rfl) ?steps ?fin
            case stb =>
              refine ⟨by intro _ _ _ _ h; exact h, ?_⟩
              refine ⟨by intro _ _ _ _ h; exact h, ?_⟩
              refine ⟨by intro _ _ _ _ h; exact h, ?_⟩
              refine ⟨by intro _ _ _ _ h; exact h, ?_⟩
              refine ⟨by intro _ _ _ _ h; exact h, ?_⟩
              refine ⟨by intro _ _ _ _ h; exact h, ?_⟩
              refine ⟨by intro _ _ _ _ h; exact h, ?_⟩
              refine ⟨by intro _ _ _ _ h; exact h, ?_⟩
              refine ⟨by intro _ _ _ _ h; exact h, ?_⟩
              refine ⟨by intro _ _ _ _ h; exact h, ?_⟩
              refine ⟨by intro _ _ _ _ h; exact h, ?_⟩
              refine ⟨by intro _ _ _ _ h; exact h, ?_⟩
              refine ⟨by intro _ _ _ _ h; exact h, ?_⟩
              refine ⟨by intro _ _ _ _ h; exact h, ?_⟩
              refine ⟨by intro _ _ _ _ h; exact h, ?_⟩
              refine ⟨by intro _ _ _ _ h; exact h, ?_⟩
              refine ⟨by intro _ _ _ _ h; exact h, ?_⟩
              refine ⟨by intro _ _ _ _ h; exact h, ?_⟩
              refine ⟨by intro _ _ _ _ h; exact h, ?_⟩
              refine ⟨by intro _ _ _ _ h; exact h, ?_⟩
              refine ⟨by intro _ _ _ _ h; exact h, ?_⟩
              refine ⟨by intro _ _ _ _ h; exact h, ?_⟩
              refine ⟨by intro _ _ _ _ h; exact h, ?_⟩
              refine ⟨by intro _ _ _ _ h; exact h, ?_⟩
              refine ⟨by intro _ _ _ _ h; exact h, ?_⟩
              refine ⟨by intro _ _ _ _ h; exact h, ?_⟩
              refine ⟨by intro _ _ _ _ h; exact h, ?_⟩
              refine ⟨by intro _ _ _ _ h; exact h, ?_⟩
              refine ⟨by intro _ _ _ _ h; exact h, ?_⟩
              refine ⟨by intro _ _ _ _ h; exact h, ?_⟩
              refine ⟨by intro _ _ _ _ h; exact h, ?_⟩
              refine ⟨by intro _ _ _ _ h; exact h, ?_⟩
              refine ⟨by intro _ _ _ _ h; exact h, ?_⟩
              refine ⟨by intro _ _ _ _ h; exact h, ?_⟩
              refine ⟨by intro _ _ _ _ h; exact h, ?_⟩
              refine ⟨by intro _ _ _ _ h; exact h, ?_⟩
              refine ⟨by intro _ _ _ _ h; exact h, ?_⟩
              refine ⟨by intro _ _ _ _ h; exact h, ?_⟩
              refine ⟨fun _ _ _ h q => EdMk.below q h, ?_⟩
              refine ⟨by intro _ _ _ _ h; exact h, ?_⟩
              refine ⟨by intro _ _ _ _ h; exact h, ?_⟩
              refine ⟨by intro _ _ _ _ h; exact h, ?_⟩
              refine ⟨by intro _ _ _ _ h; exact h, ?_⟩
              refine ⟨by intro _ _ _ _ h; exact h, ?_⟩
              refine ⟨by intro _ _ _ _ h; exact h, ?_⟩
              refine ⟨by intro _ _ _ _ h; exact h, ?_⟩
              refine ⟨by intro _ _ _ _ h; exact h, ?_⟩
              refine ⟨by intro _ _ _ _ h; exact h, ?_⟩
              exact trivial
            case steps =>
              refine ⟨?_, ?_⟩
              · intro a W K N hK
                have e16 : a.tmps[16]?.getD undef = .int .i64 1 := N.was' 16 _ (by kernel_rfl) rfl
                rw [if_pos (wanted_no rfl)]
                go_simp
                refine hK _ _ (slotLe_refl _) ?_
                exact rfl
              refine ⟨?_, ?_⟩
              · intro a W K N hK
                have e117 : a.tmps[117]?.getD undef = _ := N.dep' 0 117 (by kernel_rfl)
                rw [if_pos (wanted_no rfl)]
                go_simp
                refine hK _ _ (slotLe_refl _) ?_
                exact rfl
              refine ⟨?_, ?_⟩
              · intro a W K N hK
                have e15 : a.tmps[15]?.getD undef = .bool false := N.was' 15 _ (by kernel_rfl) rfl
                rw [if_pos (wanted_no rfl)]
                go_simp
                refine hK _ _ (slotLe_refl _) ?_
                exact rfl
              refine ⟨?_, ?_⟩
              · intro a W K N hK
                have e118 : a.tmps[118]?.getD undef = _ := N.dep' 1 118 (by kernel_rfl)
                have e119 : a.tmps[119]?.getD undef = _ := N.dep' 2 119 (by kernel_rfl)
                rw [if_pos (wanted_no rfl)]
                go_simp
                refine hK _ _ (slotLe_refl _) ?_
                exact rfl
              refine ⟨?_, ?_⟩
              · intro a W K N hK
                have e120 : a.tmps[120]?.getD undef = _ := N.dep' 3 120 (by kernel_rfl)
                rw [if_pos (wanted_no rfl)]
                go_simp
                refine hK _ _ (slotLe_refl _) ?_
                exact rfl
              refine ⟨?_, ?_⟩
              · intro a W K N hK
                have e18 : a.tmps[18]?.getD undef = .int .i64 1 := N.was' 18 _ (by kernel_rfl) rfl
                have eg : a.tmps[121]?.getD undef = .bool false := N.dep' 4 121 (by kernel_rfl)
                rw [if_pos (by rw [wanted_get (g := 4) (d := 121) rfl rfl eg]; decide)]
                clear eg
                go_simp
                refine hK _ _ (slotLe_refl _) ?_
                exact rfl
              refine ⟨?_, ?_⟩
              · intro a W K N hK
                have e122 : a.tmps[122]?.getD undef = _ := N.dep' 5 122 (by kernel_rfl)
                have eg : a.tmps[121]?.getD undef = .bool false := N.dep' 4 121 (by kernel_rfl)
                rw [if_pos (by rw [wanted_get (g := 4) (d := 121) rfl rfl eg]; decide)]
                clear eg
                go_simp
                refine hK _ _ (slotLe_refl _) ?_
                exact rfl
              refine ⟨?_, ?_⟩
              · intro a W K N hK
                have e15 : a.tmps[15]?.getD undef = .bool false := N.was' 15 _ (by kernel_rfl) rfl
                have eg : a.tmps[121]?.getD undef = .bool false := N.dep' 4 121 (by kernel_rfl)
                rw [if_pos (by rw [wanted_get (g := 4) (d := 121) rfl rfl eg]; decide)]
                clear eg
                go_simp
                refine hK _ _ (slotLe_refl _) ?_
                exact rfl
              refine ⟨?_, ?_⟩
              · intro a W K N hK
                have e123 : a.tmps[123]?.getD undef = _ := N.dep' 6 123 (by kernel_rfl)
                have e124 : a.tmps[124]?.getD undef = _ := N.dep' 7 124 (by kernel_rfl)
                have eg : a.tmps[121]?.getD undef = .bool false := N.dep' 4 121 (by kernel_rfl)
                rw [if_pos (by rw [wanted_get (g := 4) (d := 121) rfl rfl eg]; decide)]
                clear eg
                go_simp
                refine hK _ _ (slotLe_refl _) ?_
                exact rfl
              refine ⟨?_, ?_⟩
              · intro a W K N hK
                have e121 : a.tmps[121]?.getD undef = _ := N.dep' 4 121 (by kernel_rfl)
                have e125 : a.tmps[125]?.getD undef = _ := N.dep' 8 125 (by kernel_rfl)
                rw [if_pos (wanted_no rfl)]
                go_simp
                refine hK _ _ (slotLe_refl _) ?_
                exact rfl
              refine ⟨?_, ?_⟩
              · intro a W K N hK
                have e126 : a.tmps[126]?.getD undef = _ := N.dep' 9 126 (by kernel_rfl)
                rw [if_pos (wanted_no rfl)]
                go_simp
                refine hK _ _ (slotLe_refl _) ?_
                exact rfl
              refine ⟨?_, ?_⟩
              · intro a W K N hK
                have e15 : a.tmps[15]?.getD undef = .bool false := N.was' 15 _ (by kernel_rfl) rfl
                have eg : a.tmps[127]?.getD undef = .bool false := N.dep' 10 127 (by kernel_rfl)
                rw [if_pos (by rw [wanted_get (g := 10) (d := 127) rfl rfl eg]; decide)]
                clear eg
                go_simp
                refine hK _ _ (slotLe_refl _) ?_
                exact rfl
              refine ⟨?_, ?_⟩
              · intro a W K N hK
                have e128 : a.tmps[128]?.getD undef = _ := N.dep' 11 128 (by kernel_rfl)
                have eg : a.tmps[127]?.getD undef = .bool false := N.dep' 10 127 (by kernel_rfl)
                rw [if_pos (by rw [wanted_get (g := 10) (d := 127) rfl rfl eg]; decide)]
                clear eg
                go_simp
                refine hK _ _ (slotLe_refl _) ?_
                exact rfl
              refine ⟨?_, ?_⟩
              · intro a W K N hK
                have e129 : a.tmps[129]?.getD undef = _ := N.dep' 12 129 (by kernel_rfl)
                have eg : a.tmps[127]?.getD undef = .bool false := N.dep' 10 127 (by kernel_rfl)
                rw [if_pos (by rw [wanted_get (g := 10) (d := 127) rfl rfl eg]; decide)]
                clear eg
                go_simp
                refine hK _ _ (slotLe_refl _) ?_
                exact rfl
              refine ⟨?_, ?_⟩
              · intro a W K N hK
                have e16 : a.tmps[16]?.getD undef = .int .i64 1 := N.was' 16 _ (by kernel_rfl) rfl
                have eg : a.tmps[130]?.getD undef = .bool true := N.dep' 13 130 (by kernel_rfl)
                rw [if_pos (by rw [wanted_get (g := 13) (d := 130) rfl rfl eg]; decide)]
                clear eg
                go_simp
                refine hK _ _ (slotLe_refl _) ?_
                exact rfl
              refine ⟨?_, ?_⟩
              · intro a W K N hK
                have e131 : a.tmps[131]?.getD undef = _ := N.dep' 14 131 (by kernel_rfl)
                have eg : a.tmps[130]?.getD undef = .bool true := N.dep' 13 130 (by kernel_rfl)
                rw [if_pos (by rw [wanted_get (g := 13) (d := 130) rfl rfl eg]; decide)]
                clear eg
                go_simp
                refine hK _ _ (slotLe_refl _) ?_
                exact rfl
              refine ⟨?_, ?_⟩
              · intro a W K N hK
                have e132 : a.tmps[132]?.getD undef = _ := N.dep' 15 132 (by kernel_rfl)
                have eg : a.tmps[130]?.getD undef = .bool true := N.dep' 13 130 (by kernel_rfl)
                rw [if_pos (by rw [wanted_get (g := 13) (d := 130) rfl rfl eg]; decide)]
                clear eg
                go_simp
                refine hK _ _ (slotLe_refl _) ?_
                exact rfl
              refine ⟨?_, ?_⟩
              · intro a W K N hK
                have e18 : a.tmps[18]?.getD undef = .int .i64 1 := N.was' 18 _ (by kernel_rfl) rfl
                have eg : a.tmps[133]?.getD undef = .bool false := N.dep' 16 133 (by kernel_rfl)
                rw [if_pos (by rw [wanted_get (g := 16) (d := 133) rfl rfl eg]; decide)]
                clear eg
                go_simp
                refine hK _ _ (slotLe_refl _) ?_
                exact rfl
              refine ⟨?_, ?_⟩
              · intro a W K N hK
                have e134 : a.tmps[134]?.getD undef = _ := N.dep' 17 134 (by kernel_rfl)
                have eg : a.tmps[133]?.getD undef = .bool false := N.dep' 16 133 (by kernel_rfl)
                rw [if_pos (by rw [wanted_get (g := 16) (d := 133) rfl rfl eg]; decide)]
                clear eg
                go_simp
                refine hK _ _ (slotLe_refl _) ?_
                exact rfl
              refine ⟨?_, ?_⟩
              · intro a W K N hK
                have e133 : a.tmps[133]?.getD undef = _ := N.dep' 16 133 (by kernel_rfl)
                have e135 : a.tmps[135]?.getD undef = _ := N.dep' 18 135 (by kernel_rfl)
                have eg : a.tmps[130]?.getD undef = .bool true := N.dep' 13 130 (by kernel_rfl)
                rw [if_pos (by rw [wanted_get (g := 13) (d := 130) rfl rfl eg]; decide)]
                clear eg
                go_simp
                refine hK _ _ (slotLe_refl _) ?_
                exact rfl
              refine ⟨?_, ?_⟩
              · intro a W K N hK
                have e136 : a.tmps[136]?.getD undef = _ := N.dep' 19 136 (by kernel_rfl)
                have eg : a.tmps[130]?.getD undef = .bool true := N.dep' 13 130 (by kernel_rfl)
                rw [if_pos (by rw [wanted_get (g := 13) (d := 130) rfl rfl eg]; decide)]
                clear eg
                go_simp
                refine hK _ _ (slotLe_refl _) ?_
                exact rfl
              refine ⟨?_, ?_⟩
              · intro a W K N hK
                have e17 : a.tmps[17]?.getD undef = .slice ao1 0 c1 := N.was' 17 _ (by kernel_rfl) rfl
                have eg : a.tmps[137]?.getD undef = .bool false := N.dep' 20 137 (by kernel_rfl)
                rw [if_pos (by rw [wanted_get (g := 20) (d := 137) rfl rfl eg]; decide)]
                clear eg
                go_simp
                refine hK _ _ (slotLe_refl _) ?_
                exact rfl
              refine ⟨?_, ?_⟩
              · intro a W K N hK
                have e138 : a.tmps[138]?.getD undef = _ := N.dep' 21 138 (by kernel_rfl)
                have eg : a.tmps[137]?.getD undef = .bool false := N.dep' 20 137 (by kernel_rfl)
                rw [if_pos (by rw [wanted_get (g := 20) (d := 137) rfl rfl eg]; decide)]
                clear eg
                go_simp
                refine hK _ _ (slotLe_refl _) ?_
                exact rfl
              refine ⟨?_, ?_⟩
              · intro a W K N hK
                have e139 : a.tmps[139]?.getD undef = _ := N.dep' 22 139 (by kernel_rfl)
                have eg : a.tmps[137]?.getD undef = .bool false := N.dep' 20 137 (by kernel_rfl)
                rw [if_pos (by rw [wanted_get (g := 20) (d := 137) rfl rfl eg]; decide)]
                clear eg
                go_simp
                refine hK _ _ (slotLe_refl _) ?_
                exact rfl
              refine ⟨?_, ?_⟩
              · intro a W K N hK
                have e137 : a.tmps[137]?.getD undef = _ := N.dep' 20 137 (by kernel_rfl)
                have e140 : a.tmps[140]?.getD undef = _ := N.dep' 23 140 (by kernel_rfl)
                have eg : a.tmps[130]?.getD undef = .bool true := N.dep' 13 130 (by kernel_rfl)
                rw [if_pos (by rw [wanted_get (g := 13) (d := 130) rfl rfl eg]; decide)]
                clear eg
                go_simp
                refine hK _ _ (slotLe_refl _) ?_
                exact rfl
              refine ⟨?_, ?_⟩
              · intro a W K N hK
                have e130 : a.tmps[130]?.getD undef = _ := N.dep' 13 130 (by kernel_rfl)
                have e141 : a.tmps[141]?.getD undef = _ := N.dep' 24 141 (by kernel_rfl)
                have eg : a.tmps[127]?.getD undef = .bool false := N.dep' 10 127 (by kernel_rfl)
                rw [if_pos (by rw [wanted_get (g := 10) (d := 127) rfl rfl eg]; decide)]
                clear eg
                go_simp
                refine hK _ _ (slotLe_refl _) ?_
                exact rfl
              refine ⟨?_, ?_⟩
              · intro a W K N hK
                have e127 : a.tmps[127]?.getD undef = _ := N.dep' 10 127 (by kernel_rfl)
                have e142 : a.tmps[142]?.getD undef = _ := N.dep' 25 142 (by kernel_rfl)
                rw [if_pos (wanted_no rfl)]
                go_simp
                refine hK _ _ (slotLe_refl _) ?_
                exact rfl
              refine ⟨?_, ?_⟩
              · intro a W K N hK
                have e143 : a.tmps[143]?.getD undef = _ := N.dep' 26 143 (by kernel_rfl)
                rw [if_pos (wanted_no rfl)]
                go_simp
                refine hK _ _ (slotLe_refl _) ?_
                exact rfl
              refine ⟨?_, ?_⟩
              · intro a W K N hK
                have e20 : a.tmps[20]?.getD undef = .int .i64 0 := N.was' 20 _ (by kernel_rfl) rfl
                have eg : a.tmps[144]?.getD undef = .bool false := N.dep' 27 144 (by kernel_rfl)
                rw [if_pos (by rw [wanted_get (g := 27) (d := 144) rfl rfl eg]; decide)]
                clear eg
                go_simp
                refine hK _ _ (slotLe_refl _) ?_
                exact rfl
              refine ⟨?_, ?_⟩
              · intro a W K N hK
                have e145 : a.tmps[145]?.getD undef = _ := N.dep' 28 145 (by kernel_rfl)
                have eg : a.tmps[144]?.getD undef = .bool false := N.dep' 27 144 (by kernel_rfl)
                rw [if_pos (by rw [wanted_get (g := 27) (d := 144) rfl rfl eg]; decide)]
                clear eg
                go_simp
                refine hK _ _ (slotLe_refl _) ?_
                exact rfl
              refine ⟨?_, ?_⟩
              · intro a W K N hK
                have e144 : a.tmps[144]?.getD undef = _ := N.dep' 27 144 (by kernel_rfl)
                have e146 : a.tmps[146]?.getD undef = _ := N.dep' 29 146 (by kernel_rfl)
                rw [if_pos (wanted_no rfl)]
                go_simp
                refine hK _ _ (slotLe_refl _) ?_
                exact rfl
              refine ⟨?_, ?_⟩
              · intro a W K N hK
                have e147 : a.tmps[147]?.getD undef = _ := N.dep' 30 147 (by kernel_rfl)
                rw [if_pos (wanted_no rfl)]
                go_simp
                refine hK _ _ (slotLe_refl _) ?_
                exact rfl
              refine ⟨?_, ?_⟩
              · intro a W K N hK
                have e22 : a.tmps[22]?.getD undef = .int .i64 0 := N.was' 22 _ (by kernel_rfl) rfl
                have eg : a.tmps[148]?.getD undef = .bool false := N.dep' 31 148 (by kernel_rfl)
                rw [if_pos (by rw [wanted_get (g := 31) (d := 148) rfl rfl eg]; decide)]
                clear eg
                go_simp
                refine hK _ _ (slotLe_refl _) ?_
                exact rfl
              refine ⟨?_, ?_⟩
              · intro a W K N hK
                have e149 : a.tmps[149]?.getD undef = _ := N.dep' 32 149 (by kernel_rfl)
                have eg : a.tmps[148]?.getD undef = .bool false := N.dep' 31 148 (by kernel_rfl)
                rw [if_pos (by rw [wanted_get (g := 31) (d := 148) rfl rfl eg]; decide)]
                clear eg
                go_simp
                refine hK _ _ (slotLe_refl _) ?_
                exact rfl
              refine ⟨?_, ?_⟩
              · intro a W K N hK
                have e148 : a.tmps[148]?.getD undef = _ := N.dep' 31 148 (by kernel_rfl)
                have e150 : a.tmps[150]?.getD undef = _ := N.dep' 33 150 (by kernel_rfl)
                rw [if_pos (wanted_no rfl)]
                go_simp
                refine hK _ _ (slotLe_refl _) ?_
                exact rfl
              refine ⟨?_, ?_⟩
              · intro a W K N hK
                have e151 : a.tmps[151]?.getD undef = _ := N.dep' 34 151 (by kernel_rfl)
                rw [if_pos (wanted_no rfl)]
                go_simp
                refine hK _ _ (slotLe_refl _) ?_
                exact rfl
              refine ⟨?_, ?_⟩
              · intro a W K N hK
                have e21 : a.tmps[21]?.getD undef = .slice ao3 20 c3 := N.was' 21 _ (by kernel_rfl) rfl
                have eg : a.tmps[152]?.getD undef = .bool false := N.dep' 35 152 (by kernel_rfl)
                rw [if_pos (by rw [wanted_get (g := 35) (d := 152) rfl rfl eg]; decide)]
                clear eg
                go_simp
                refine hK _ _ (slotLe_refl _) ?_
                exact rfl
              refine ⟨?_, ?_⟩
              · intro a W K N hK
                have e153 : a.tmps[153]?.getD undef = _ := N.dep' 36 153 (by kernel_rfl)
                have eg : a.tmps[152]?.getD undef = .bool false := N.dep' 35 152 (by kernel_rfl)
                rw [if_pos (by rw [wanted_get (g := 35) (d := 152) rfl rfl eg]; decide)]
                clear eg
                have hcv := run_rd_any (HR3.out.below (below_undrew N.le))
                go_simp
                refine hK _ _ (slotLe_refl _) ?_
                exact rfl
              refine ⟨?_, ?_⟩
              · intro a W K N hK
                have eg : a.tmps[152]?.getD undef = .bool false := N.dep' 35 152 (by kernel_rfl)
                rw [if_pos (by rw [wanted_get (g := 35) (d := 152) rfl rfl eg]; decide)]
                clear eg
                have hmk := HMK.out W
                go_simp
                refine hK _ _ ((RowKit.Below.refl _ W).alloc (Nat.le_refl _) _) ?_
                exact EdMk.new W
              refine ⟨?_, ?_⟩
              · intro a W K N hK
                have e155 := Lib.hid (show (EdMk) (a.tmps[155]?.getD undef) W from N.dep' 38 155 (by kernel_rfl))
                have eg : a.tmps[152]?.getD undef = .bool false := N.dep' 35 152 (by kernel_rfl)
                rw [if_pos (by rw [wanted_get (g := 35) (d := 152) rfl rfl eg]; decide)]
                clear eg
                obtain ⟨B5, h5, h6⟩ := e155.out
                have hcv := run_rd_any h6
                go_simp
                refine hK _ _ (slotLe_refl _) ?_
                exact rfl
              refine ⟨?_, ?_⟩
              · intro a W K N hK
                have e154 := Lib.hid (show (fun v _ => v = .string ⟨(Ar.zeros 20).toArray⟩) (a.tmps[154]?.getD undef) W from N.dep' 37 154 (by kernel_rfl))
                have e156 := Lib.hid (show (fun v _ => v = .string ⟨(Ar.zeros 20).toArray⟩) (a.tmps[156]?.getD undef) W from N.dep' 39 156 (by kernel_rfl))
                have eg : a.tmps[152]?.getD undef = .bool false := N.dep' 35 152 (by kernel_rfl)
                rw [if_pos (by rw [wanted_get (g := 35) (d := 152) rfl rfl eg]; decide)]
                clear eg
                have e7 := e154.out
                have e8 := e156.out
                have hz := eqz20
                go_simp
                refine hK _ _ (slotLe_refl _) ?_
                exact rfl
              refine ⟨?_, ?_⟩
              · intro a W K N hK
                have e152 : a.tmps[152]?.getD undef = _ := N.dep' 35 152 (by kernel_rfl)
                have e157 := Lib.hid (show (fun v _ => v = .bool false) (a.tmps[157]?.getD undef) W from N.dep' 40 157 (by kernel_rfl))
                rw [if_pos (wanted_no rfl)]
                have e9 := e157.out
                go_simp
                refine hK _ _ (slotLe_refl _) ?_
                exact rfl
              refine ⟨?_, ?_⟩
              · intro a W K N hK
                have e158 : a.tmps[158]?.getD undef = _ := N.dep' 41 158 (by kernel_rfl)
                rw [if_pos (wanted_no rfl)]
                go_simp
                refine hK _ _ (slotLe_refl _) ?_
                exact rfl
              refine ⟨?_, ?_⟩
              · intro a W K N hK
                have e19 : a.tmps[19]?.getD undef = .slice ao2 n c2 := N.was' 19 _ (by kernel_rfl) rfl
                have eg : a.tmps[159]?.getD undef = .bool false := N.dep' 42 159 (by kernel_rfl)
                rw [if_pos (by rw [wanted_get (g := 42) (d := 159) rfl rfl eg]; decide)]
                clear eg
                go_simp
                refine hK _ _ (slotLe_refl _) ?_
                exact rfl
              refine ⟨?_, ?_⟩
              · intro a W K N hK
                have e160 : a.tmps[160]?.getD undef = _ := N.dep' 43 160 (by kernel_rfl)
                have eg : a.tmps[159]?.getD undef = .bool false := N.dep' 42 159 (by kernel_rfl)
                rw [if_pos (by rw [wanted_get (g := 42) (d := 159) rfl rfl eg]; decide)]
                clear eg
                go_simp
                refine hK _ _ (slotLe_refl _) ?_
                exact rfl
              refine ⟨?_, ?_⟩
              · intro a W K N hK
                have e0 : a.tmps[0]?.getD undef = .int .i64 (n : Int) := N.was' 0 _ (by kernel_rfl) rfl
                have eg : a.tmps[159]?.getD undef = .bool false := N.dep' 42 159 (by kernel_rfl)
                rw [if_pos (by rw [wanted_get (g := 42) (d := 159) rfl rfl eg]; decide)]
                clear eg
                go_simp
                refine hK _ _ (slotLe_refl _) ?_
                exact rfl
              refine ⟨?_, ?_⟩
              · intro a W K N hK
                have e161 : a.tmps[161]?.getD undef = _ := N.dep' 44 161 (by kernel_rfl)
                have e162 : a.tmps[162]?.getD undef = _ := N.dep' 45 162 (by kernel_rfl)
                have eg : a.tmps[159]?.getD undef = .bool false := N.dep' 42 159 (by kernel_rfl)
                rw [if_pos (by rw [wanted_get (g := 42) (d := 159) rfl rfl eg]; decide)]
                clear eg
                go_simp
                refine hK _ _ (slotLe_refl _) ?_
                exact rfl
              refine ⟨?_, ?_⟩
              · intro a W K N hK
                have e159 : a.tmps[159]?.getD undef = _ := N.dep' 42 159 (by kernel_rfl)
                have e163 : a.tmps[163]?.getD undef = _ := N.dep' 46 163 (by kernel_rfl)
                rw [if_pos (wanted_no rfl)]
                go_simp
                refine hK _ _ (slotLe_refl _) ?_
                exact rfl
              exact trivial
            case fin =>
              intro W hW
              simp only [FinAll, slotPhi, List.getD_cons_zero, List.getD_cons_succ, forall_eq, Act.put, List.setIfInBounds_toArray, List.set_cons_zero, List.set_cons_succ]
              repeat (intro _ _)
              have hbW := below_undrew hW
              go_wp2
              go_meet
              case rel => exact ⟨rfl, hbW⟩
          · obtain rfl : jv = 0 := HJ.out
            have hlns : ln = size := HLN.out.trans (xs_len size)
            clear HLN
            subst hlns
            refine wp_region_slots slotLe (slotPhi ((fun v _ => v = ?a117) :: (fun v _ => v = ?a118) :: (fun v _ => v = ?a119) :: (fun v _ => v = ?a120) :: (fun v _ => v = ?a121) :: (fun v _ => v = ?a122) :: (fun v _ => v = ?a123) :: (fun v _ => v = ?a124) :: (fun v _ => v = ?a125) :: (fun v _ => v = ?a126) :: (fun v _ => v = ?a127) :: (fun v _ => v = ?a128) :: (fun v _ => v = ?a129) :: (fun v _ => v = ?a130) :: (fun v _ => v = undef) :: (fun v _ => v = undef) :: (fun v _ => v = undef) :: (fun v _ => v = undef) :: (fun v _ => v = undef) :: (fun v _ => v = undef) :: (fun v _ => v = undef) :: (fun v _ => v = undef) :: (fun v _ => v = undef) :: (fun v _ => v = undef) :: (fun v _ => v = undef) :: (fun v _ => v = ?a142) :: (fun v _ => v = ?a143) :: (fun v _ => v = ?a144) :: (fun v _ => v = ?a145) :: (fun v _ => v = ?a146) :: (fun v _ => v = ?a147) :: (fun v _ => v = ?a148) :: (fun v _ => v = ?a149) :: (fun v _ => v = ?a150) :: (fun v _ => v = ?a151) :: (fun v _ => v = ?a152) :: (fun v _ => v = ?a153) :: (fun v _ => v = .string ⟨(Ar.zeros 20).toArray⟩) :: (EdMk) :: (fun v _ => v = .string ⟨(Ar.zeros 20).toArray⟩) :: (fun v _ => v = .bool false) :: (fun v _ => v = ?a158) :: (fun v _ => v = ?a159) :: (fun v _ => v = ?a160) :: (fun v _ => v = ?a161) :: (fun v _ => v = ?a162) :: (fun v _ => v = ?a163) :: (fun v _ => v = ?a164) :: [])) slotLe_refl slotLe_trans (slotPhi_stable ?stb) (by kernel_rfl) (by kernel_rfl) (by kernel_rfl) ?steps ?fin
            case stb =>
              refine ⟨by intro _ _ _ _ h; exact h, ?_⟩
              refine ⟨by intro _ _ _ _ h; exact h, ?_⟩
              refine ⟨by intro _ _ _ _ h; exact h, ?_⟩
              refine ⟨by intro _ _ _ _ h; exact h, ?_⟩
              refine ⟨by intro _ _ _ _ h; exact h, ?_⟩
              refine ⟨by intro _ _ _ _ h; exact h, ?_⟩
              refine ⟨by intro _ _ _ _ h; exact h, ?_⟩
              refine ⟨by intro _ _ _ _ h; exact h, ?_⟩
              refine ⟨by intro _ _ _ _ h; exact h, ?_⟩
              refine ⟨by intro _ _ _ _ h; exact h, ?_⟩
              refine ⟨by intro _ _ _ _ h; exact h, ?_⟩
              refine ⟨by intro _ _ _ _ h; exact h, ?_⟩
              refine ⟨by intro _ _ _ _ h; exact h, ?_⟩
              refine ⟨by intro _ _ _ _ h; exact h, ?_⟩
              refine ⟨by intro _ _ _ _ h; exact h, ?_⟩
              refine ⟨by intro _ _ _ _ h; exact h, ?_⟩
              refine ⟨by intro _ _ _ _ h; exact h, ?_⟩
              refine ⟨by intro _ _ _ _ h; exact h, ?_⟩
              refine ⟨by intro _ _ _ _ h; exact h, ?_⟩
              refine ⟨by intro _ _ _ _ h; exact h, ?_⟩
              refine ⟨by intro _ _ _ _ h; exact h, ?_⟩
              refine ⟨by intro _ _ _ _ h; exact h, ?_⟩
              refine ⟨by intro _ _ _ _ h; exact h, ?_⟩
              refine ⟨by intro _ _ _ _ h; exact h, ?_⟩
              refine ⟨by intro _ _ _ _ h; exact h, ?_⟩
              refine ⟨by intro _ _ _ _ h; exact h, ?_⟩
              refine ⟨by intro _ _ _ _ h; exact h, ?_⟩
              refine ⟨by intro _ _ _ _ h; exact h, ?_⟩
              refine ⟨by intro _ _ _ _ h; exact h, ?_⟩
              refine ⟨by intro _ _ _ _ h; exact h, ?_⟩
              refine ⟨by intro _ _ _ _ h; exact h, ?_⟩
              refine ⟨by intro _ _ _ _ h; exact h, ?_⟩
              refine ⟨by intro _ _ _ _ h; exact h, ?_⟩
              refine ⟨by intro _ _ _ _ h; exact h, ?_⟩
              refine ⟨by intro _ _ _ _ h; exact h, ?_⟩
              refine ⟨by intro _ _ _ _ h; exact h, ?_⟩
              refine ⟨by intro _ _ _ _ h; exact h, ?_⟩
              refine ⟨by intro _ _ _ _ h; exact h, ?_⟩
              refine ⟨fun _ _ _ h q => EdMk.below q h, ?_⟩
              refine ⟨by intro _ _ _ _ h; exact h, ?_⟩
              refine ⟨by intro _ _ _ _ h; exact h, ?_⟩
              refine ⟨by intro _ _ _ _ h; exact h, ?_⟩
              refine ⟨by intro _ _ _ _ h; exact h, ?_⟩
              refine ⟨by intro _ _ _ _ h; exact h, ?_⟩
              refine ⟨by intro _ _ _ _ h; exact h, ?_⟩
              refine ⟨by intro _ _ _ _ h; exact h, ?_⟩
              refine ⟨by intro _ _ _ _ h; exact h, ?_⟩
              refine ⟨by intro _ _ _ _ h; exact h, ?_⟩
              exact trivial
            case steps =>
              refine ⟨?_, ?_⟩
              · intro a W K N hK
                have e16 : a.tmps[16]?.getD undef = .int .i64 0 := N.was' 16 _ (by kernel_rfl) rfl
                rw [if_pos (wanted_no rfl)]
                go_simp
                refine hK _ _ (slotLe_refl _) ?_
                exact rfl
              refine ⟨?_, ?_⟩
              · intro a W K N hK
                have e117 : a.tmps[117]?.getD undef = _ := N.dep' 0 117 (by kernel_rfl)
                rw [if_pos (wanted_no rfl)]
                go_simp
                refine hK _ _ (slotLe_refl _) ?_
                exact rfl
              refine ⟨?_, ?_⟩
              · intro a W K N hK
                have e15 : a.tmps[15]?.getD undef = .bool true := N.was' 15 _ (by kernel_rfl) rfl
                rw [if_pos (wanted_no rfl)]
                go_simp
                refine hK _ _ (slotLe_refl _) ?_
                exact rfl
              refine ⟨?_, ?_⟩
              · intro a W K N hK
                have e118 : a.tmps[118]?.getD undef = _ := N.dep' 1 118 (by kernel_rfl)
                have e119 : a.tmps[119]?.getD undef = _ := N.dep' 2 119 (by kernel_rfl)
                rw [if_pos (wanted_no rfl)]
                go_simp
                refine hK _ _ (slotLe_refl _) ?_
                exact rfl
              refine ⟨?_, ?_⟩
              · intro a W K N hK
                have e120 : a.tmps[120]?.getD undef = _ := N.dep' 3 120 (by kernel_rfl)
                rw [if_pos (wanted_no rfl)]
                go_simp
                refine hK _ _ (slotLe_refl _) ?_
                exact rfl
              refine ⟨?_, ?_⟩
              · intro a W K N hK
                have e18 : a.tmps[18]?.getD undef = .int .i64 0 := N.was' 18 _ (by kernel_rfl) rfl
                have eg : a.tmps[121]?.getD undef = .bool false := N.dep' 4 121 (by kernel_rfl)
                rw [if_pos (by rw [wanted_get (g := 4) (d := 121) rfl rfl eg]; decide)]
                clear eg
                go_simp
                refine hK _ _ (slotLe_refl _) ?_
                exact rfl
              refine ⟨?_, ?_⟩
              · intro a W K N hK
                have e122 : a.tmps[122]?.getD undef = _ := N.dep' 5 122 (by kernel_rfl)
                have eg : a.tmps[121]?.getD undef = .bool false := N.dep' 4 121 (by kernel_rfl)
                rw [if_pos (by rw [wanted_get (g := 4) (d := 121) rfl rfl eg]; decide)]
                clear eg
                go_simp
                refine hK _ _ (slotLe_refl _) ?_
                exact rfl
              refine ⟨?_, ?_⟩
              · intro a W K N hK
                have e15 : a.tmps[15]?.getD undef = .bool true := N.was' 15 _ (by kernel_rfl) rfl
                have eg : a.tmps[121]?.getD undef = .bool false := N.dep' 4 121 (by kernel_rfl)
                rw [if_pos (by rw [wanted_get (g := 4) (d := 121) rfl rfl eg]; decide)]
                clear eg
                go_simp
                refine hK _ _ (slotLe_refl _) ?_
                exact rfl
              refine ⟨?_, ?_⟩
              · intro a W K N hK
                have e123 : a.tmps[123]?.getD undef = _ := N.dep' 6 123 (by kernel_rfl)
                have e124 : a.tmps[124]?.getD undef = _ := N.dep' 7 124 (by kernel_rfl)
                have eg : a.tmps[121]?.getD undef = .bool false := N.dep' 4 121 (by kernel_rfl)
                rw [if_pos (by rw [wanted_get (g := 4) (d := 121) rfl rfl eg]; decide)]
                clear eg
                go_simp
                refine hK _ _ (slotLe_refl _) ?_
                exact rfl
              refine ⟨?_, ?_⟩
              · intro a W K N hK
                have e121 : a.tmps[121]?.getD undef = _ := N.dep' 4 121 (by kernel_rfl)
                have e125 : a.tmps[125]?.getD undef = _ := N.dep' 8 125 (by kernel_rfl)
                rw [if_pos (wanted_no rfl)]
                go_simp
                refine hK _ _ (slotLe_refl _) ?_
                exact rfl
              refine ⟨?_, ?_⟩
              · intro a W K N hK
                have e126 : a.tmps[126]?.getD undef = _ := N.dep' 9 126 (by kernel_rfl)
                rw [if_pos (wanted_no rfl)]
                go_simp
                refine hK _ _ (slotLe_refl _) ?_
                exact rfl
              refine ⟨?_, ?_⟩
              · intro a W K N hK
                have e15 : a.tmps[15]?.getD undef = .bool true := N.was' 15 _ (by kernel_rfl) rfl
                have eg : a.tmps[127]?.getD undef = .bool false := N.dep' 10 127 (by kernel_rfl)
                rw [if_pos (by rw [wanted_get (g := 10) (d := 127) rfl rfl eg]; decide)]
                clear eg
                go_simp
                refine hK _ _ (slotLe_refl _) ?_
                exact rfl
              refine ⟨?_, ?_⟩
              · intro a W K N hK
                have e128 : a.tmps[128]?.getD undef = _ := N.dep' 11 128 (by kernel_rfl)
                have eg : a.tmps[127]?.getD undef = .bool false := N.dep' 10 127 (by kernel_rfl)
                rw [if_pos (by rw [wanted_get (g := 10) (d := 127) rfl rfl eg]; decide)]
                clear eg
                go_simp
                refine hK _ _ (slotLe_refl _) ?_
                exact rfl
              refine ⟨?_, ?_⟩
              · intro a W K N hK
                have e129 : a.tmps[129]?.getD undef = _ := N.dep' 12 129 (by kernel_rfl)
                have eg : a.tmps[127]?.getD undef = .bool false := N.dep' 10 127 (by kernel_rfl)
                rw [if_pos (by rw [wanted_get (g := 10) (d := 127) rfl rfl eg]; decide)]
                clear eg
                go_simp
                refine hK _ _ (slotLe_refl _) ?_
                exact rfl
              refine ⟨?_, ?_⟩
              · intro a W K N hK
                have eg : a.tmps[130]?.getD undef = .bool false := N.dep' 13 130 (by kernel_rfl)
                rw [if_neg (by rw [wanted_get (g := 13) (d := 130) rfl rfl eg]; decide)]
                refine hK _ _ (slotLe_refl _) ?_
                exact rfl
              refine ⟨?_, ?_⟩
              · intro a W K N hK
                have eg : a.tmps[130]?.getD undef = .bool false := N.dep' 13 130 (by kernel_rfl)
                rw [if_neg (by rw [wanted_get (g := 13) (d := 130) rfl rfl eg]; decide)]
                refine hK _ _ (slotLe_refl _) ?_
                exact rfl
              refine ⟨?_, ?_⟩
              · intro a W K N hK
                have eg : a.tmps[130]?.getD undef = .bool false := N.dep' 13 130 (by kernel_rfl)
                rw [if_neg (by rw [wanted_get (g := 13) (d := 130) rfl rfl eg]; decide)]
                refine hK _ _ (slotLe_refl _) ?_
                exact rfl
              refine ⟨?_, ?_⟩
              · intro a W K N hK
                have eg : a.tmps[133]?.getD undef = undef := N.dep' 16 133 (by kernel_rfl)
                rw [if_neg (by rw [wanted_undef (g := 16) (d := 133) rfl rfl eg]; decide)]
                refine hK _ _ (slotLe_refl _) ?_
                exact rfl
              refine ⟨?_, ?_⟩
              · intro a W K N hK
                have eg : a.tmps[133]?.getD undef = undef := N.dep' 16 133 (by kernel_rfl)
                rw [if_neg (by rw [wanted_undef (g := 16) (d := 133) rfl rfl eg]; decide)]
                refine hK _ _ (slotLe_refl _) ?_
                exact rfl
              refine ⟨?_, ?_⟩
              · intro a W K N hK
                have eg : a.tmps[130]?.getD undef = .bool false := N.dep' 13 130 (by kernel_rfl)
                rw [if_neg (by rw [wanted_get (g := 13) (d := 130) rfl rfl eg]; decide)]
                refine hK _ _ (slotLe_refl _) ?_
                exact rfl
              refine ⟨?_, ?_⟩
              · intro a W K N hK
                have eg : a.tmps[130]?.getD undef = .bool false := N.dep' 13 130 (by kernel_rfl)
                rw [if_neg (by rw [wanted_get (g := 13) (d := 130) rfl rfl eg]; decide)]
                refine hK _ _ (slotLe_refl _) ?_
                exact rfl
              refine ⟨?_, ?_⟩
              · intro a W K N hK
                have eg : a.tmps[137]?.getD undef = undef := N.dep' 20 137 (by kernel_rfl)
                rw [if_neg (by rw [wanted_undef (g := 20) (d := 137) rfl rfl eg]; decide)]
                refine hK _ _ (slotLe_refl _) ?_
                exact rfl
              refine ⟨?_, ?_⟩
              · intro a W K N hK
                have eg : a.tmps[137]?.getD undef = undef := N.dep' 20 137 (by kernel_rfl)
                rw [if_neg (by rw [wanted_undef (g := 20) (d := 137) rfl rfl eg]; decide)]
                refine hK _ _ (slotLe_refl _) ?_
                exact rfl
              refine ⟨?_, ?_⟩
              · intro a W K N hK
                have eg : a.tmps[137]?.getD undef = undef := N.dep' 20 137 (by kernel_rfl)
                rw [if_neg (by rw [wanted_undef (g := 20) (d := 137) rfl rfl eg]; decide)]
                refine hK _ _ (slotLe_refl _) ?_
                exact rfl
              refine ⟨?_, ?_⟩
              · intro a W K N hK
                have eg : a.tmps[130]?.getD undef = .bool false := N.dep' 13 130 (by kernel_rfl)
                rw [if_neg (by rw [wanted_get (g := 13) (d := 130) rfl rfl eg]; decide)]
                refine hK _ _ (slotLe_refl _) ?_
                exact rfl
              refine ⟨?_, ?_⟩
              · intro a W K N hK
                have e130 : a.tmps[130]?.getD undef = _ := N.dep' 13 130 (by kernel_rfl)
                have e141 : a.tmps[141]?.getD undef = undef := N.dep' 24 141 (by kernel_rfl)
                have eg : a.tmps[127]?.getD undef = .bool false := N.dep' 10 127 (by kernel_rfl)
                rw [if_pos (by rw [wanted_get (g := 10) (d := 127) rfl rfl eg]; decide)]
                clear eg
                go_simp
                refine hK _ _ (slotLe_refl _) ?_
                exact rfl
              refine ⟨?_, ?_⟩
              · intro a W K N hK
                have e127 : a.tmps[127]?.getD undef = _ := N.dep' 10 127 (by kernel_rfl)
                have e142 : a.tmps[142]?.getD undef = _ := N.dep' 25 142 (by kernel_rfl)
                rw [if_pos (wanted_no rfl)]
                go_simp
                refine hK _ _ (slotLe_refl _) ?_
                exact rfl
              refine ⟨?_, ?_⟩
              · intro a W K N hK
                have e143 : a.tmps[143]?.getD undef = _ := N.dep' 26 143 (by kernel_rfl)
                rw [if_pos (wanted_no rfl)]
                go_simp
                refine hK _ _ (slotLe_refl _) ?_
                exact rfl
              refine ⟨?_, ?_⟩
              · intro a W K N hK
                have e20 : a.tmps[20]?.getD undef = .int .i64 0 := N.was' 20 _ (by kernel_rfl) rfl
                have eg : a.tmps[144]?.getD undef = .bool false := N.dep' 27 144 (by kernel_rfl)
                rw [if_pos (by rw [wanted_get (g := 27) (d := 144) rfl rfl eg]; decide)]
                clear eg
                go_simp
                refine hK _ _ (slotLe_refl _) ?_
                exact rfl
              refine ⟨?_, ?_⟩
              · intro a W K N hK
                have e145 : a.tmps[145]?.getD undef = _ := N.dep' 28 145 (by kernel_rfl)
                have eg : a.tmps[144]?.getD undef = .bool false := N.dep' 27 144 (by kernel_rfl)
                rw [if_pos (by rw [wanted_get (g := 27) (d := 144) rfl rfl eg]; decide)]
                clear eg
                go_simp
                refine hK _ _ (slotLe_refl _) ?_
                exact rfl
              refine ⟨?_, ?_⟩
              · intro a W K N hK
                have e144 : a.tmps[144]?.getD undef = _ := N.dep' 27 144 (by kernel_rfl)
                have e146 : a.tmps[146]?.getD undef = _ := N.dep' 29 146 (by kernel_rfl)
                rw [if_pos (wanted_no rfl)]
                go_simp
                refine hK _ _ (slotLe_refl _) ?_
                exact rfl
              refine ⟨?_, ?_⟩
              · intro a W K N hK
                have e147 : a.tmps[147]?.getD undef = _ := N.dep' 30 147 (by kernel_rfl)
                rw [if_pos (wanted_no rfl)]
                go_simp
                refine hK _ _ (slotLe_refl _) ?_
                exact rfl
              refine ⟨?_, ?_⟩
              · intro a W K N hK
                have e22 : a.tmps[22]?.getD undef = .int .i64 0 := N.was' 22 _ (by kernel_rfl) rfl
                have eg : a.tmps[148]?.getD undef = .bool false := N.dep' 31 148 (by kernel_rfl)
                rw [if_pos (by rw [wanted_get (g := 31) (d := 148) rfl rfl eg]; decide)]
                clear eg
                go_simp
                refine hK _ _ (slotLe_refl _) ?_
                exact rfl
              refine ⟨?_, ?_⟩
              · intro a W K N hK
                have e149 : a.tmps[149]?.getD undef = _ := N.dep' 32 149 (by kernel_rfl)
                have eg : a.tmps[148]?.getD undef = .bool false := N.dep' 31 148 (by kernel_rfl)
                rw [if_pos (by rw [wanted_get (g := 31) (d := 148) rfl rfl eg]; decide)]
                clear eg
                go_simp
                refine hK _ _ (slotLe_refl _) ?_
                exact rfl
              refine ⟨?_, ?_⟩
              · intro a W K N hK
                have e148 : a.tmps[148]?.getD undef = _ := N.dep' 31 148 (by kernel_rfl)
                have e150 : a.tmps[150]?.getD undef = _ := N.dep' 33 150 (by kernel_rfl)
                rw [if_pos (wanted_no rfl)]
                go_simp
                refine hK _ _ (slotLe_refl _) ?_
                exact rfl
              refine ⟨?_, ?_⟩
              · intro a W K N hK
                have e151 : a.tmps[151]?.getD undef = _ := N.dep' 34 151 (by kernel_rfl)
                rw [if_pos (wanted_no rfl)]
                go_simp
                refine hK _ _ (slotLe_refl _) ?_
                exact rfl
              refine ⟨?_, ?_⟩
              · intro a W K N hK
                have e21 : a.tmps[21]?.getD undef = .slice ao3 20 c3 := N.was' 21 _ (by kernel_rfl) rfl
                have eg : a.tmps[152]?.getD undef = .bool false := N.dep' 35 152 (by kernel_rfl)
                rw [if_pos (by rw [wanted_get (g := 35) (d := 152) rfl rfl eg]; decide)]
                clear eg
                go_simp
                refine hK _ _ (slotLe_refl _) ?_
                exact rfl
              refine ⟨?_, ?_⟩
              · intro a W K N hK
                have e153 : a.tmps[153]?.getD undef = _ := N.dep' 36 153 (by kernel_rfl)
                have eg : a.tmps[152]?.getD undef = .bool false := N.dep' 35 152 (by kernel_rfl)
                rw [if_pos (by rw [wanted_get (g := 35) (d := 152) rfl rfl eg]; decide)]
                clear eg
                have hcv := run_rd_any (HR3.out.below (below_undrew N.le))
                go_simp
                refine hK _ _ (slotLe_refl _) ?_
                exact rfl
              refine ⟨?_, ?_⟩
              · intro a W K N hK
                have eg : a.tmps[152]?.getD undef = .bool false := N.dep' 35 152 (by kernel_rfl)
                rw [if_pos (by rw [wanted_get (g := 35) (d := 152) rfl rfl eg]; decide)]
                clear eg
                have hmk := HMK.out W
                go_simp
                refine hK _ _ ((RowKit.Below.refl _ W).alloc (Nat.le_refl _) _) ?_
                exact EdMk.new W
              refine ⟨?_, ?_⟩
              · intro a W K N hK
                have e155 := Lib.hid (show (EdMk) (a.tmps[155]?.getD undef) W from N.dep' 38 155 (by kernel_rfl))
                have eg : a.tmps[152]?.getD undef = .bool false := N.dep' 35 152 (by kernel_rfl)
                rw [if_pos (by rw [wanted_get (g := 35) (d := 152) rfl rfl eg]; decide)]
                clear eg
                obtain ⟨B5, h5, h6⟩ := e155.out
                have hcv := run_rd_any h6
                go_simp
                refine hK _ _ (slotLe_refl _) ?_
                exact rfl
              refine ⟨?_, ?_⟩
              · intro a W K N hK
                have e154 := Lib.hid (show (fun v _ => v = .string ⟨(Ar.zeros 20).toArray⟩) (a.tmps[154]?.getD undef) W from N.dep' 37 154 (by kernel_rfl))
                have e156 := Lib.hid (show (fun v _ => v = .string ⟨(Ar.zeros 20).toArray⟩) (a.tmps[156]?.getD undef) W from N.dep' 39 156 (by kernel_rfl))
                have eg : a.tmps[152]?.getD undef = .bool false := N.dep' 35 152 (by kernel_rfl)
                rw [if_pos (by rw [wanted_get (g := 35) (d := 152) rfl rfl eg]; decide)]
                clear eg
                have e7 := e154.out
                have e8 := e156.out
                have hz := eqz20
                go_simp
                refine hK _ _ (slotLe_refl _) ?_
                exact rfl
              refine ⟨?_, ?_⟩
              · intro a W K N hK
                have e152 : a.tmps[152]?.getD undef = _ := N.dep' 35 152 (by kernel_rfl)
                have e157 := Lib.hid (show (fun v _ => v = .bool false) (a.tmps[157]?.getD undef) W from N.dep' 40 157 (by kernel_rfl))
                rw [if_pos (wanted_no rfl)]
                have e9 := e157.out
                go_simp
                refine hK _ _ (slotLe_refl _) ?_
                exact rfl
              refine ⟨?_, ?_⟩
              · intro a W K N hK
                have e158 : a.tmps[158]?.getD undef = _ := N.dep' 41 158 (by kernel_rfl)
                rw [if_pos (wanted_no rfl)]
                go_simp
                refine hK _ _ (slotLe_refl _) ?_
                exact rfl
              refine ⟨?_, ?_⟩
              · intro a W K N hK
                have e19 : a.tmps[19]?.getD undef = .slice ao2 n c2 := N.was' 19 _ (by kernel_rfl) rfl
                have eg : a.tmps[159]?.getD undef = .bool false := N.dep' 42 159 (by kernel_rfl)
                rw [if_pos (by rw [wanted_get (g := 42) (d := 159) rfl rfl eg]; decide)]
                clear eg
                go_simp
                refine hK _ _ (slotLe_refl _) ?_
                exact rfl
              refine ⟨?_, ?_⟩
              · intro a W K N hK
                have e160 : a.tmps[160]?.getD undef = _ := N.dep' 43 160 (by kernel_rfl)
                have eg : a.tmps[159]?.getD undef = .bool false := N.dep' 42 159 (by kernel_rfl)
                rw [if_pos (by rw [wanted_get (g := 42) (d := 159) rfl rfl eg]; decide)]
                clear eg
                go_simp
                refine hK _ _ (slotLe_refl _) ?_
                exact rfl
              refine ⟨?_, ?_⟩
              · intro a W K N hK
                have e0 : a.tmps[0]?.getD undef = .int .i64 (n : Int) := N.was' 0 _ (by kernel_rfl) rfl
                have eg : a.tmps[159]?.getD undef = .bool false := N.dep' 42 159 (by kernel_rfl)
                rw [if_pos (by rw [wanted_get (g := 42) (d := 159) rfl rfl eg]; decide)]
                clear eg
                go_simp
                refine hK _ _ (slotLe_refl _) ?_
                exact rfl
              refine ⟨?_, ?_⟩
              · intro a W K N hK
                have e161 : a.tmps[161]?.getD undef = _ := N.dep' 44 161 (by kernel_rfl)
                have e162 : a.tmps[162]?.getD undef = _ := N.dep' 45 162 (by kernel_rfl)
                have eg : a.tmps[159]?.getD undef = .bool false := N.dep' 42 159 (by kernel_rfl)
                rw [if_pos (by rw [wanted_get (g := 42) (d := 159) rfl rfl eg]; decide)]
                clear eg
                go_simp
                refine hK _ _ (slotLe_refl _) ?_
                exact rfl
              refine ⟨?_, ?_⟩
              · intro a W K N hK
                have e159 : a.tmps[159]?.getD undef = _ := N.dep' 42 159 (by kernel_rfl)
                have e163 : a.tmps[163]?.getD undef = _ := N.dep' 46 163 (by kernel_rfl)
                rw [if_pos (wanted_no rfl)]
                go_simp
                refine hK _ _ (slotLe_refl _) ?_
                exact rfl
              exact trivial
            case fin =>
              intro W hW
              simp only [FinAll, slotPhi, List.getD_cons_zero, List.getD_cons_succ, forall_eq, Act.put, List.setIfInBounds_toArray, List.set_cons_zero, List.set_cons_succ]
              repeat (intro _ _)
              have hbW := below_undrew hW
              go_wp2
              go_meet
              case rel => exact ⟨rfl, hbW⟩
        case rest =>
          obtain ⟨rfl, hb9⟩ := hcut
          replace H9 := Lib.hid (H9.out.after hb9)
          replace HR1 := Lib.hid (HR1.out.below hb9)
          replace HR2 := Lib.hid (HR2.out.below hb9)
          clear HR3 hb9 H8 H7 H6 H1 HMK
          go_wp2
          have HD := Lib.hid (show (edD n a size fb).length = n from edD_len fb fun e => fitsB_iff.1 (HFB.out ▸ e))
          go_loopw [23] (fun i wr => ∃ k : Nat, i = .int .i64 (k : Int) ∧ k ≤ n ∧ Hid (Mn A 2048 I ((xsB size).map encB) 5 (edL n a size fb) w wr) ∧ Hid (RdB (.slice ao1 ln c1) (edC size fb) wr) ∧ Hid (RdB (.slice ao2 n c2) (edD n a size fb) wr)) (fun i _ => n + 1 - (intOf i).toNat)
          case atStart => exact ⟨0, rfl, Nat.zero_le _, H9, HR1, HR2⟩
          case round =>
            obtain ⟨p, rfl, hp, H5, HS1, HS2⟩ := hrel
            clear H9 HR1 HR2
            by_cases hlt2 : p < n
            · obtain ⟨b, off, hao, hc⟩ := rdB_at HS2.out (by rw [HD.out]; exact hlt2)
              subst hao
              cases fb
              · have hval : (edD n a size false)[p]'(by rw [HD.out]; exact hlt2) = 0 := by simp [edD, Ar.zeros]
                rw [hval] at hc
                unfold encB at hc
                go_wp2
                go_roundw
                case rel => exact ⟨p + 1, by go_num, by omega, H5, HS1, HS2⟩
                case measure => simp [intOf]; omega
              · obtain ⟨f1, f2, f3, f4⟩ := fitsB_iff.1 HFB.out.symm
                obtain ⟨k0, rfl⟩ : ∃ k0 : Nat, a = (k0 : Int) := ⟨a.toNat, by omega⟩
                have hval := edD_at k0 size p hlt2 (by omega)
                have hidx : (edD n (k0 : Int) size true)[p]? = some ((edD n (k0 : Int) size true)[p]'(by rw [HD.out]; exact hlt2)) := List.getElem?_eq_getElem _
                rw [hval] at hidx
                have hidx2 := (Option.some.inj hidx).symm
                rw [hidx2] at hc
                clear hidx hidx2 hval f1 f2 f3 f4
                by_cases g1 : k0 ≤ p
                · by_cases g2 : p < k0 + size
                  · rw [if_pos ⟨g1, g2⟩] at hc
                    unfold encB at hc
                    go_wp2
                    go_roundw
                    case rel => exact ⟨p + 1, by go_num, by omega, H5, HS1, HS2⟩
                    case measure => simp [intOf]; omega
                  · rw [if_neg (fun e => g2 e.2)] at hc
                    unfold encB at hc
                    go_wp2
                    go_roundw
                    case rel => exact ⟨p + 1, by go_num, by omega, H5, HS1, HS2⟩
                    case measure => simp [intOf]; omega
                · rw [if_neg (fun e => g1 e.1)] at hc
                  unfold encB at hc
                  go_wp2
                  go_roundw
                  case rel => exact ⟨p + 1, by go_num, by omega, H5, HS1, HS2⟩
                  case measure => simp [intOf]; omega
            · have HAW := Lib.hid (show ∀ W, Mn A 2048 I ((xsB size).map encB) 5 (edL n a size fb) w W → Calls Tryd.prog 14 #[] W fun e w' => e = .returned (.bool true) ∧ Below w.heap.size w w' from fun W h =>
                (awake_any W h.hx.tab).mono fun e w' ⟨he, hb⟩ => ⟨he, h.bel.trans (hb.mono h.bel.size)⟩)
              cases fb
              · go_wp2_with (first
                  | (go_at_call 23; with_reducible refine (ed_write99 A I n size a w _ false H5.out).mono ?_; rintro e w10 ⟨rfl, h10⟩; have H10 := Lib.hid h10; clear h10)
                  | (go_at_call 14; with_reducible refine (HAW.out _ H10.out).mono ?_; rintro e w' ⟨rfl, hb⟩))
                go_ret
                exact ⟨rfl, hb⟩
              · have hv1 := run_rd_any HS1.out
                have hv2 := run_rd_any (rdB_block (c := size) H5.out.blk (xs_len size).symm)
                simp only [edC] at hv1
                go_wp2_with (first
                  | (go_at_call 23; with_reducible refine (ed_write99 A I n size a w _ true H5.out).mono ?_; rintro e w10 ⟨rfl, h10⟩; have H10 := Lib.hid h10; clear h10)
                  | (go_at_call 14; with_reducible refine (HAW.out _ H10.out).mono ?_; rintro e w' ⟨rfl, hb⟩))
                go_ret
                exact ⟨rfl, hb⟩
end Go.Proofs.YtdbaocphglijbaaDoor

/- ArenaEdges: all of it. -/
set_option maxRecDepth 100000
namespace Go.Proofs.YtdbaocphglijbaaDoor
open Go.RowKit Go.Shelf
attribute [local go_sem] Oper.semAt_some
set_option maxHeartbeats 8000000 in
theorem edges_any (n a size : Int) (w : World) (hT : TabOk w) (hI1 : -9223372036854775808 ≤ a) (hI2 : a ≤ 9223372036854775807) :
    Calls Tryd.prog 7 #[.int .i64 n, .int .i64 a, .int .i64 size] w fun e w' => e = .returned (.bool true) ∧ Below w.heap.size w w' := by
  by_cases h : n < 0 ∨ 500 < n ∨ size < 0 ∨ 1000 < size
  · have HT := Lib.hid hT
    clear hT
    go_enter Tryd.func7, Tryd.ntmps7
    by_cases h1 : n < 0
    · go_wp2_with (go_at_call 14; with_reducible refine (awake_any _ HT.out).mono ?_; rintro e w' ⟨rfl, hb⟩)
      go_ret
      exact ⟨rfl, hb⟩
    by_cases h2 : 500 < n
    · go_wp2_with (go_at_call 14; with_reducible refine (awake_any _ HT.out).mono ?_; rintro e w' ⟨rfl, hb⟩)
      go_ret
      exact ⟨rfl, hb⟩
    by_cases h3 : size < 0
    · go_wp2_with (go_at_call 14; with_reducible refine (awake_any _ HT.out).mono ?_; rintro e w' ⟨rfl, hb⟩)
      go_ret
      exact ⟨rfl, hb⟩
    have h4 : 1000 < size := by omega
    go_wp2_with (go_at_call 14; with_reducible refine (awake_any _ HT.out).mono ?_; rintro e w' ⟨rfl, hb⟩)
    go_ret
    exact ⟨rfl, hb⟩
  · obtain ⟨k, rfl⟩ : ∃ k : Nat, n = (k : Int) := ⟨n.toNat, by omega⟩
    obtain ⟨s, rfl⟩ : ∃ s : Nat, size = (s : Int) := ⟨size.toNat, by omega⟩
    exact edges_in k s a w hT (by omega) (by omega) hI1 hI2
end Go.Proofs.YtdbaocphglijbaaDoor

/- ArenaEdges of package freshetlaw6 (within a block each byte may be read and written, and none outside of it; a refused write changes nothing) returns true at every three numbers, and they read as they did: the given card.
   Conditions: those of the row and of its card, none beside. -/
set_option maxRecDepth 100000
namespace Go.Proofs.YtdbaocphglijbaaDoor.arenaEdges
open Go.ChangeShapes Go.WideShapes Go.ChangeAt Go.RowKit

theorem contract (H : Type) (enc : TypeId × Value → H) (W : World) (base : Nat) (args : Array Value) (ds gs : List (DataW H)) (before : List MemPlace)
    (hval : ∀ (j : Nat) t v, Tryd.f7.params[j]? = some t → args[j]? = some v → Value.okWide Tryd.prog W .any base t v)
    (hW : DataW.Whole enc Tryd.prog Tryd.f7.params.toList Rows.arenaEdgesSpec.vars false W args.toList ds gs before) (hL : laidMetH Tryd.prog laidList W) :
    Calls Tryd.prog 7 args W fun e W' => ∃ v, e = .returned v ∧ Rows.arenaEdgesSpec.post enc Tryd.prog Tryd.f7 false true false false W args v W' := by
  have hW' := hW
  obtain ⟨p, q, hA0, hV, rfl, _, _⟩ := hW
  have hA : DataW.TrodAll enc Tryd.prog W 0 (fun _ => true) true Tryd.f7.params.toList args.toList ds p := hA0
  clear hA0
  rw [Tryd.params7] at hA hval
  obtain ⟨v0, vs0, d0, ds0, p0, q0, hargs0, rfl, rfl, h0, r0⟩ := trodAll_cons hA
  obtain ⟨v1, vs1, d1, ds1, p1, q1, hargs1, rfl, rfl, h1, r1⟩ := trodAll_cons r0
  subst hargs1
  obtain ⟨v2, vs2, d2, ds2, p2, q2, hargs2, rfl, rfl, h2, r2⟩ := trodAll_cons r1
  subst hargs2
  obtain ⟨rfl, rfl, rfl⟩ := trodAll_nil r2
  obtain rfl : args = #[v0, v1, v2] := by cases args; simp_all
  obtain ⟨rfl, rfl⟩ := trodVars_none hV
  obtain ⟨z0, rfl, hz0⟩ := arg_int (hval 0 _ _ rfl rfl) h0
  obtain ⟨z1, rfl, hz1⟩ := arg_int (hval 1 _ _ rfl rfl) h1
  obtain ⟨z2, rfl, hz2⟩ := arg_int (hval 2 _ _ rfl rfl) h2
  have hL' := tabOk hL
  refine (edges_any z0 z1 z2 W hL' hz1.1 hz1.2).mono fun e W' ⟨he, hbl⟩ => ?_
  exact ⟨_, he, law_post hW' rfl hbl rfl rfl (fun t ht => readT7 t (by rw [Tryd.params7] at ht; exact (show ∀ t ∈ (#[3, 3, 3] : Array TypeId).toList, t ∈ [3, 54, 9, 55, 82] by decide) t ht))⟩

theorem reads (os : Os) {H : Type} (enc : TypeId × Value → H) : ∃ places, DataW.whole enc Tryd.prog ((laidWorld os).forCall (fun _ _ => 0) ⟨#[], #[.int .i64 0, .int .i64 0, .int .i64 0], []⟩).memory Tryd.f7.params.toList Rows.arenaEdgesSpec.vars false (#[.int .i64 0, .int .i64 0, .int .i64 0] : Array Value).toList 8 = some ([.lit (.int .i64 0), .lit (.int .i64 0), .lit (.int .i64 0)], [], places) :=
  ⟨[], by kernel_rfl⟩

theorem lifted (os : Os) (started : os.Started) (H : Type) (enc : TypeId × Value → H) (F : Stop.Interp) :
    ReturnsInHanded {} Tryd.checked os 7 .any ((OpenSpec.ofChange Rows.arenaEdgesSpec).preRow enc Tryd.prog Tryd.f7 Rows.arenaEdgesRow.domain false Rows.arenaEdgesRow.laid) (((OpenSpec.ofChange Rows.arenaEdgesSpec).at F).post enc Tryd.prog Tryd.f7 false true false false) := by
  obtain ⟨places, hx⟩ := reads os enc
  refine returnsInHanded_of_row (C := Tryd.checked) (s := OpenSpec.ofChange Rows.arenaEdgesSpec) own started (by kernel_rfl) Tryd.func7
    (witness_row_atRef (enc := enc) (C := Tryd.checked) false (laidWorld os) #[.int .i64 0, .int .i64 0, .int .i64 0] rfl (by kernel_rfl) (by kernel_rfl) (by kernel_rfl)
      (OpenSpec.preRow_of_cond 8 hx (by kernel_rfl) (fun k hk => by cases hk) (by kernel_rfl) (laid_met os _))) ?_
  intro W base args ds gs before hval hW _ _ _ hL _ _
  exact contract H enc W base args ds gs before hval hW hL

theorem said : Rows.ArenaEdgesSaid :=
  OpenClaim.holds_of_cond 7 Tryd.f7 rfl rfl rfl rfl rfl rfl rfl ⟨rfl, rfl, rfl, rfl, rfl⟩ rfl rfl rfl rfl rfl (by kernel_rfl) Tryd.func7 (by kernel_rfl)
    (of_decide_eq_true (by kernel_rfl)) (by unfold Func.isWrapper; first | (rw [if_pos (by decide +kernel)]; kernel_rfl) | (rw [if_neg (by decide +kernel)]; exact ⟨rfl, rfl⟩))
    (fun os started H enc _ F => by rw [OpenClaim.pre_eq_preRow]; exact lifted os started H enc F)

/-- No parameter wants a stand-in; the looks are as the card has them. -/
theorem plain (f : FuncId) (fn : Func) (hf : Tryd.pinned.checked.prog.funcNamed "freshet/freshetlaw6.ArenaEdges" = some f) (hfn : Tryd.pinned.checked.prog.funcs[f]? = some fn) :
    false = Tryd.pinned.checked.prog.looks [] ∧ ∀ (j : Nat) t, fn.params[j]? = some t → Tryd.pinned.checked.prog.wantsStandIn t = false := by
  obtain rfl : f = 7 := Option.some.inj ((show Tryd.prog.funcNamed "freshet/freshetlaw6.ArenaEdges" = some 7 by kernel_rfl).symm.trans hf) |>.symm
  obtain rfl : fn = Tryd.f7 := (Option.some.inj (Tryd.func7.symm.trans hfn)).symm
  refine ⟨by kernel_rfl, fun j t ht => ?_⟩
  rw [Tryd.params7] at ht
  exact standT7 t ((show ∀ t ∈ (#[3, 3, 3] : Array TypeId).toList, t ∈ [3, 54, 9, 55, 82] by decide) t (Array.mem_toList_iff.2 (Array.mem_of_getElem? ht)))

theorem card : Rows.ArenaEdgesCardSaid :=
  Claim7.holds_tied_plain_at .later [] _ _ _ _ said (fun _ h => by cases h) (by kernel_rfl) (fun _ h => by cases h) arenaEdges_row_tie rfl ⟨rfl, rfl⟩ (by kernel_rfl) rfl plain (by kernel_rfl)
end Go.Proofs.YtdbaocphglijbaaDoor.arenaEdges
