/- ListsCounts of package freshetlaw9 (as many are there as were added and not dropped; what is dropped from the one place is in the other one neither) returns true at every int and two lists of ints.
   Conditions: those of the row, none beside. -/
import Derived.LoopTactic
import Derived.BigQuiet
import Derived.Deep.CutRange
import Derived.Deep.RegionWith
import Derived.Test.YtjaejdenboggpaaJB26
import Derived.Test.YtjaejdenboggpaaJB27
/- The law ListsCounts, walked. -/
set_option maxRecDepth 100000
namespace Go.Proofs.Ytjaejdenboggpaa
open Go Go.RowKit Go.Shelf Go.Maps
theorem make_one9 {t e : TypeId} {z : Value} {bytes : Nat} (h1 : Try.prog.underlying t = some (.slice e)) (h2 : (Try.prog.info? e).map (fun i => (i.zero, i.size, i.bytes)) = some (some z, 1, bytes)) (hb : bytes ≤ 8) (hz : z.cells = #[z]) (c : Int) (n : Nat) (hc : c = (n : Int)) (hn : n ≤ 10000000) (w : World) :
    (Instr.makeSlice t (.int .i64 c) (.int .i64 c)).run Try.prog w = .ok (.slice (some ⟨w.heap.size, 0, none⟩) n n) (w.alloc (.cells (List.replicate n z).toArray e)) := by
  subst hc
  obtain ⟨i, hi, hz0, hz1, hz2⟩ := info_parts h2
  have hle : (bytes : Int) * (n : Int) ≤ 281474976710656 := by
    rw [← Int.natCast_mul]
    have : bytes * n ≤ 8 * 10000000 := Nat.mul_le_mul hb hn
    omega
  have h := run_make (P := Try.prog) w t e i z h1 hi hz0 .i64 .i64 n n (by omega) (by omega) (by rw [hz2]; exact hle) (by omega)
  rw [h, hz1, hz]
  have e2 : madeCells #[z] ((n : Int).toNat * 1) = (List.replicate n z).toArray := by
    apply Array.toList_inj.1
    rw [toList_madeCells_one]
    simp
  rw [e2]
  rfl
/-- Who of the twenty is in. -/
def inC (S : List Int) : List Value := (List.range 20).map (fun i : Nat => Value.bool (decide ((i : Int) ∈ S)))
theorem inC_len (S : List Int) : (inC S).length = 20 := by unfold inC; simp
theorem inC_get (S : List Int) {k : Nat} (h : k < 20) : (inC S)[k]? = some (.bool (decide ((k : Int) ∈ S))) := by
  unfold inC
  rw [List.getElem?_map, List.getElem?_range h]
  rfl
theorem inC_set {S S' : List Int} {k : Nat} {b : Bool} (hb : b = decide ((k : Int) ∈ S')) (h : ∀ i : Nat, i < 20 → i ≠ k → ((i : Int) ∈ S' ↔ (i : Int) ∈ S)) : (inC S).set k (.bool b) = inC S' := by
  subst hb
  apply List.ext_getElem?
  intro i
  by_cases hi : i < 20
  · rw [inC_get S' hi]
    by_cases e : k = i
    · subst e
      rw [List.getElem?_set_self (by rw [inC_len]; exact hi)]
    · rw [List.getElem?_set_ne e, inC_get S hi]
      simp only [h i hi (Ne.symm e)]
  · rw [List.getElem?_eq_none (by rw [List.length_set, inC_len]; omega), List.getElem?_eq_none (by rw [inC_len]; omega)]
theorem inC_congr {S S' : List Int} (h : ∀ i, i ∈ S ↔ i ∈ S') : inC S = inC S' := by
  unfold inC
  refine List.map_congr_left fun i _ => ?_
  simp only [h]
theorem inC_nil : (List.replicate 20 (Value.bool false)).toArray = (inC []).toArray := by kernel_rfl
section
variable {A B : (Nat → Prop) → World → Prop} {w0 W W' : World} {x : Nat → Prop}
theorem Two.set (h : Two A B w0 x W) (hA : Part A) (hB : Part B) {g : Nat} (hx : x g) (hg : w0.heap.size ≤ g) (i : Nat) (v : Value) : Two A B w0 x (W.setCell ⟨g, i, none⟩ v) := by
  have hz : (W.setCell ⟨g, i, none⟩ v).heap.size = W.heap.size := by simp [World.setCell]
  exact h.turn hA hB ((Below.refl _ _).setCell (p := ⟨g, i, none⟩) hg v) (fun k _ hk => Below.heap_setCell W ⟨g, i, none⟩ v k (fun e => hk (e ▸ hx))) (fun k e => ⟨.inl e, by rw [hz]; exact h.own k e⟩)
end
/-- An LRU beside the list of who is in. -/
structure Lc (X g : Nat) (P Q S : List Int) (N : Nat) (w W : World) : Prop where
  two : Two (LV X 3 P Q N) Nobody w (fun b => b = g) W
  bits : Blk W g (inC S) 4
  low : w.heap.size ≤ g
theorem Lc.drw {X g : Nat} {P Q S : List Int} {N : Nat} {w W : World} (h : Lc X g P Q S N w W) : Lc X g P Q S N w W.drew := ⟨h.two.below partL partN ((Below.refl _ _).drew), h.bits, h.low⟩
theorem Lc.step {X g : Nat} {P Q P' Q' S : List Int} {N N' : Nat} {w W W' : World} (h : Lc X g P Q S N w W) (t : Two (LV X 3 P' Q' N') Nobody w (fun b => b = g) W') (k : Kx (fun b => b = g) W W') : Lc X g P' Q' S N' w W' := ⟨t, k.blk h.bits rfl, h.low⟩
theorem Lc.put {X g : Nat} {P Q S S' : List Int} {N : Nat} {w W : World} (h : Lc X g P Q S N w W) {k : Nat} {b : Bool} (hb : b = decide ((k : Int) ∈ S')) (hs : ∀ i : Nat, i < 20 → i ≠ k → ((i : Int) ∈ S' ↔ (i : Int) ∈ S)) : Lc X g P Q S' N w (W.setCell ⟨g, k, none⟩ (.bool b)) :=
  ⟨h.two.set partL partN rfl h.low k _, by have := h.bits.set k (.bool b); rw [inC_set hb hs] at this; exact this, h.low⟩
theorem Lc.cell {X g : Nat} {P Q S : List Int} {N : Nat} {w W : World} (h : Lc X g P Q S N w W) {k : Nat} (hk : k < 20) : W.cell? ⟨g, k, none⟩ = some (.bool (decide ((k : Int) ∈ S))) := h.bits.cell (inC_get S hk)
section
variable {P Q : List Int} {k : Int}
theorem gone_no (h : (P ++ Q).Nodup) : k ∉ P.erase k ++ Q.erase k := by
  obtain ⟨h1, h2, _⟩ := List.nodup_append.1 h
  rw [List.mem_append]
  rintro (e | e)
  · exact h1.not_mem_erase e
  · exact h2.not_mem_erase e
theorem gone_iff {i : Int} (h : i ≠ k) : i ∈ P.erase k ++ Q.erase k ↔ i ∈ P ++ Q := by
  rw [List.mem_append, List.mem_append, List.mem_erase_of_ne h, List.mem_erase_of_ne h]
theorem gone_len (h : (P ++ Q).Nodup) (hk : k ∈ P ++ Q) : (P.erase k ++ Q.erase k).length + 1 = (P ++ Q).length := by
  obtain ⟨_, _, h3⟩ := List.nodup_append.1 h
  rw [List.length_append, List.length_append]
  by_cases hp : k ∈ P
  · have hq : k ∉ Q := fun e => h3 k hp k e rfl
    rw [List.length_erase_of_mem hp, List.erase_of_not_mem hq]
    have := List.length_pos_of_mem hp
    omega
  · have hq : k ∈ Q := (List.mem_append.1 hk).resolve_left hp
    rw [List.erase_of_not_mem hp, List.length_erase_of_mem hq]
    have := List.length_pos_of_mem hq
    omega
theorem gone_same (hk : k ∉ P ++ Q) : P.erase k = P ∧ Q.erase k = Q := ⟨List.erase_of_not_mem fun e => hk (List.mem_append_left _ e), List.erase_of_not_mem fun e => hk (List.mem_append_right _ e)⟩
theorem gone_sub {i : Int} (h : i ∈ P.erase k ++ Q.erase k) : i ∈ P ++ Q := by
  rw [List.mem_append] at h ⊢
  exact h.imp List.mem_of_mem_erase List.mem_of_mem_erase
end
end Go.Proofs.Ytjaejdenboggpaa

/- The law ListsCounts, walked: its loops. -/
set_option maxRecDepth 100000
namespace Go.Proofs.Ytjaejdenboggpaa
open Go Go.RowKit Go.Shelf Go.Maps
set_option maxHeartbeats 64000000 in
theorem counts9_any (n : Int) (v1 v2 : Value) (L1 L2 : List Int) (w : World) (hr1 : RK encZ (fun k => k < w.heap.size) v1 L1 w) (hb1 : ∀ z ∈ L1, -9223372036854775808 ≤ z ∧ z ≤ 9223372036854775807) (hl1 : L1.length ≤ maxLen)
    (hr2 : RK encZ (fun k => k < w.heap.size) v2 L2 w) (hb2 : ∀ z ∈ L2, -9223372036854775808 ≤ z ∧ z ≤ 9223372036854775807) (hl2 : L2.length ≤ maxLen) :
    Calls Try.prog 9 #[.int .i64 n, v1, v2] w fun e w' => e = .returned (.bool true) ∧ Below w.heap.size w w' := by
  unfold maxLen at hl1 hl2
  have q1 := qLruE
  obtain ⟨ao, cap, rfl, hcap, _⟩ := hr1.form
  obtain ⟨ao2, cap2, rfl, hcap2, _⟩ := hr2.form
  by_cases h1 : n < 0
  · go_enter Try.func9, Try.ntmps9
    go_wp2_with fail
    refine (awake9_any _).mono ?_
    rintro e w1 ⟨rfl, hb⟩
    go_wp2
    go_ret
    exact ⟨rfl, hb⟩
  by_cases h2 : 20 < n
  · go_enter Try.func9, Try.ntmps9
    go_wp2_with fail
    refine (awake9_any _).mono ?_
    rintro e w1 ⟨rfl, hb⟩
    go_wp2
    go_ret
    exact ⟨rfl, hb⟩
  by_cases h3 : 20 < L1.length
  · have h6 : decide ((L1.length : Int) > 20) = true := by simp; omega
    go_enter Try.func9, Try.ntmps9
    go_wp2_with fail
    refine (awake9_any _).mono ?_
    rintro e w1 ⟨rfl, hb⟩
    go_wp2
    go_ret
    exact ⟨rfl, hb⟩
  by_cases h4 : 20 < L2.length
  · have h7 : decide ((L1.length : Int) > 20) = false := by simp; omega
    have h6 : decide ((L2.length : Int) > 20) = true := by simp; omega
    go_enter Try.func9, Try.ntmps9
    go_wp2_with fail
    refine (awake9_any _).mono ?_
    rintro e w1 ⟨rfl, hb⟩
    go_wp2
    go_ret
    exact ⟨rfl, hb⟩
  obtain ⟨M, rfl⟩ : ∃ M : Nat, n = (M : Int) := ⟨n.toNat, by omega⟩
  have hM : M ≤ 20 := by omega
  obtain ⟨T, hT⟩ : ∃ T, L1.length = T := ⟨_, rfl⟩
  obtain ⟨U, hU⟩ : ∃ U, L2.length = U := ⟨_, rfl⟩
  have HR1 := Lib.hid hr1
  have HB1 := Lib.hid hb1
  have HT := Lib.hid hT
  have HR2 := Lib.hid hr2
  have HB2 := Lib.hid hb2
  have HU := Lib.hid hU
  rw [hT] at hcap hl1 h3
  rw [hU] at hcap2 hl2 h4
  have hT20 : T ≤ 20 := by omega
  have hU20 : U ≤ 20 := by omega
  have d1 : decide ((M : Int) < 0) = false := by simp
  have d2 : decide ((M : Int) > 20) = false := by simp; omega
  have d3 : decide ((T : Int) > 20) = false := by simp; omega
  have d3b : decide ((U : Int) > 20) = false := by simp; omega
  have i3 : I64 3 := i64_small _ (by decide) (by decide)
  rw [hT, hU]
  clear hr1 hb1 hT hr2 hb2 hU h1 h2 h3 h4
  have infoB : (Try.prog.info? 4).map (fun i => (i.zero, i.size, i.bytes)) = some (some (.bool false), 1, 1) := by kernel_rfl
  have hmk := fun W => (by have h := make_one9 (e := 4) Try.underlying62 infoB (by decide) rfl 20 20 rfl (by omega) W; rw [inC_nil] at h; exact h : (Instr.makeSlice 62 (.int .i64 20) (.int .i64 20)).run Try.prog W = .ok (.slice (some ⟨W.heap.size, 0, none⟩) 20 20) (W.alloc (.cells (inC []).toArray 4)))
  clear infoB
  go_enter Try.func9, Try.ntmps9
  go_wp2_with fail
  refine (t_lnew (Two.start w) partN 3 i3).mono ?_
  rintro e w1 ⟨X, rfl, h1, _⟩
  have h1 : Two (LV X 3 [] [] 0) Nobody w (fun _ => False) w1 := h1
  have hb1 : Below w1.heap.size w1 (w1.alloc (.cells (inC []).toArray 4)) := (Below.refl _ _).alloc (Nat.le_refl _) _
  have H1 : Hid (Lc X w1.heap.size [] [] [] 0 w (w1.alloc (.cells (inC []).toArray 4))) := Lib.hid ⟨h1.turn partL partN (hb1.mono h1.bel.size) (fun k hk _ => hb1.block k hk) (fun k e => by subst e; exact ⟨.inr (Nat.le_refl _), by simp⟩), Blk.new _ _ _, h1.bel.size⟩
  clear h1 hb1
  go_wp2_with fail
  generalize w1.alloc (.cells (inC []).toArray 4) = w2 at *
  generalize w1.heap.size = g at *
  clear hmk
  go_loopw [10] (fun i wr => ∃ j : Nat, j ≤ M ∧ i = .int .i64 (j : Int) ∧ Hid (Lc X g (rng j) [] (rng j) j w wr)) (fun i _ => M + 1 - (intOf i).toNat)
  case atStart => exact ⟨0, by omega, rfl, H1⟩
  case round =>
    clear H1
    obtain ⟨j, hj, rfl, HJ⟩ := hrel
    by_cases hlt : j < M
    · have d4 : decide ((j : Int) < (M : Int)) = true := by simpa using hlt
      have ij : I64 (j : Int) := i64_small _ (by omega) (by omega)
      have hj20 : j < 20 := by omega
      go_wp2_with fail
      refine (t_add HJ.out.two partN ij (by omega)).mono ?_
      rintro e w4 ⟨rfl, h4, K4⟩
      rw [addP_rng] at h4
      have h5 := HJ.out.step h4 K4
      have c5 := h5.cell hj20
      have f5 := h5.bits.frozen j
      have H6 := Lib.hid (h5.put (k := j) (b := true) (S' := rng (j + 1)) (by simp [rng_mem]; omega) (fun i _ hij => by rw [rng_mem, rng_mem]; omega))
      clear h4 K4 HJ h5
      go_wp2
      go_roundw
      case rel => exact ⟨j + 1, by omega, by go_num, H6⟩
      case measure => simp [intOf]; omega
    · obtain rfl : j = M := by omega
      have d4 : decide ((j : Int) < (j : Int)) = false := by simp
      go_wp2_with fail
      go_loopw [11] (fun i wr => ∃ t : Nat, ∃ P Q : List Int, t ≤ T ∧ i = .int .i64 (t : Int) ∧ Hid ((P ++ Q).Perm (rng j)) ∧ Hid (Lc X g P Q (P ++ Q) j w wr)) (fun i _ => T + 1 - (intOf i).toNat)
      case atStart => exact ⟨0, rng j, [], by omega, rfl, Lib.hid (by rw [List.append_nil]), Lib.hid (by rw [List.append_nil]; exact HJ.out)⟩
      case round =>
        clear HJ
        obtain ⟨t, P, Q, ht, rfl, HP, HJ⟩ := hrel
        by_cases hlt2 : t < T
        · have d5 : decide ((t : Int) < (T : Int)) = true := by simpa using hlt2
          have hsl : t < L1.length := by rw [HT.out]; exact hlt2
          obtain ⟨b, off, rfl, c1⟩ := rk_cell (HR1.out.below HJ.out.two.bel) hsl
          have hzb := HB1.out _ (List.getElem_mem hsl)
          generalize L1[t] = z at c1 hzb
          have hkb := roundI_bounds z 20 (by omega)
          have hrr := fun w => round_any z 20 w (by omega) (by omega) hzb.1 hzb.2
          obtain ⟨k, hk⟩ : ∃ k : Nat, roundI z 20 = (k : Int) := ⟨(roundI z 20).toNat, by omega⟩
          rw [hk] at hkb
          have hk20 : k < 20 := by omega
          have HRR := Lib.hid (fun w => by have := hrr w; rw [hk] at this; exact this)
          have ik : I64 (k : Int) := i64_small _ (by omega) (by omega)
          clear hrr hk hzb hsl hkb
          go_wp2_with fail
          refine (HRR.out _).mono ?_
          rintro e w8 ⟨rfl, rfl⟩
          clear c1 HRR
          go_wp2_with fail
          have hcell := HJ.out.cell hk20
          have HD := Lib.hid HJ.out.drw
          go_cut [70] from 63 to 70 (fun b wx => b = .bool false ∧ ∃ P2 Q2 : List Int, Hid ((P2 ++ Q2).Perm (rng j)) ∧ Hid (Lc X g P2 Q2 (P2 ++ Q2) j w wx))
          case first =>
            by_cases hm : (k : Int) ∈ P ++ Q
            · have hcell1 : wr.cell? ⟨g, k, none⟩ = some (.bool true) := by rw [hcell, decide_eq_true hm]
              clear hcell
              go_region_with (go_at_call 14; refine (t_touch HD.out.two partN ik hm (by omega)).mono ?_; rintro e w9 ⟨rfl, h9, K9⟩; have HP9 := Lib.hid ((touch_perm (most := 3) hm).trans HP.out); have hS := inC_congr (fun i => (touch_perm (most := 3) hm).mem_iff (a := i)); have h10 := HD.out.step h9 K9; have hc9 := h10.cell hk20; rw [decide_eq_true hm] at hc9; have H10 := Lib.hid (show Lc X g (touch 3 P Q (k : Int)).1 (touch 3 P Q (k : Int)).2 ((touch 3 P Q (k : Int)).1 ++ (touch 3 P Q (k : Int)).2) j w w9 from ⟨h10.two, by rw [hS]; exact h10.bits, h10.low⟩); clear h9 K9 h10 hS)
              all_goals
                go_wp2
                go_meet
                case rel => exact ⟨rfl, _, _, HP9, H10⟩
            · have hcell1 : wr.cell? ⟨g, k, none⟩ = some (.bool false) := by rw [hcell, decide_eq_false hm]
              clear hcell
              go_region_with (go_at_call 14; refine (t_touch_no HD.out.two partN ik hm).mono ?_; rintro e w9 ⟨rfl, h9, K9⟩; have h10 := HD.out.step h9 K9; have hc9 := h10.cell hk20; rw [decide_eq_false hm] at hc9; have H10 := Lib.hid h10; clear h9 K9 h10)
              all_goals
                go_wp2
                go_meet
                case rel => exact ⟨rfl, P, Q, HP, H10⟩
          case rest =>
            obtain ⟨rfl, P2, Q2, HP2, HJ2⟩ := hcut
            clear HP HJ HD hcell
            go_wp2
            go_roundw
            case rel => exact ⟨t + 1, P2, Q2, by omega, by go_num, HP2, HJ2⟩
            case measure => simp [intOf]; omega
        · obtain rfl : t = T := by omega
          have d5 : decide ((t : Int) < (t : Int)) = false := by simp
          have hPl : (P ++ Q).length = j := HP.out.length_eq.trans (rng_len j)
          have hrg : ∀ i ∈ P ++ Q, 0 ≤ i ∧ i < 20 := fun i hi => by have := rng_mem.1 (HP.out.mem_iff.1 hi); omega
          have HPL := Lib.hid hPl
          have HRG := Lib.hid hrg
          clear hPl hrg
          go_wp2_with fail
          go_loopw [9, 13] (fun hv i wr => ∃ u : Nat, ∃ P Q : List Int, ∃ c : Nat, u ≤ U ∧ i = .int .i64 (u : Int) ∧ hv = .int .i64 (c : Int) ∧ c ≤ 20 ∧ Hid ((P ++ Q).length = c) ∧ Hid (∀ i ∈ P ++ Q, 0 ≤ i ∧ i < 20) ∧ Hid (Lc X g P Q (P ++ Q) j w wr)) (fun _ i _ => U + 1 - (intOf i).toNat)
          case atStart => exact ⟨0, P, Q, j, by omega, rfl, rfl, by omega, HPL, HRG, HJ⟩
          case round =>
            clear HPL HRG HJ HP
            obtain ⟨u, P, Q, c, hu, rfl, rfl, hc20, HC, HRG, HJ⟩ := hrel
            by_cases hlt3 : u < U
            · have d6 : decide ((u : Int) < (U : Int)) = true := by simpa using hlt3
              have hsl : u < L2.length := by rw [HU.out]; exact hlt3
              obtain ⟨b, off, rfl, c1⟩ := rk_cell (HR2.out.below HJ.out.two.bel) hsl
              have hzb := HB2.out _ (List.getElem_mem hsl)
              generalize L2[u] = z at c1 hzb
              have hkb := roundI_bounds z 20 (by omega)
              have hrr := fun w => round_any z 20 w (by omega) (by omega) hzb.1 hzb.2
              obtain ⟨k, hk⟩ : ∃ k : Nat, roundI z 20 = (k : Int) := ⟨(roundI z 20).toNat, by omega⟩
              rw [hk] at hkb
              have hk20 : k < 20 := by omega
              have HRR := Lib.hid (fun w => by have := hrr w; rw [hk] at this; exact this)
              have ik : I64 (k : Int) := i64_small _ (by omega) (by omega)
              have hnd := HJ.out.two.nodupL.1
              have HND := Lib.hid hnd
              clear hrr hk hzb hsl hkb hnd
              go_wp2_with fail
              refine (HRR.out _).mono ?_
              rintro e w8 ⟨rfl, rfl⟩
              clear c1 HRR
              go_wp2_with fail
              have hcell := HJ.out.cell hk20
              have HD := Lib.hid HJ.out.drw
              go_cut [89] from 82 to 89 (fun b wx => b = .bool false ∧ Hid (Lc X g (P.erase (k : Int)) (Q.erase (k : Int)) (P ++ Q) j w wx))
              case first =>
                by_cases hm : (k : Int) ∈ P ++ Q
                · have hcell1 : wr.cell? ⟨g, k, none⟩ = some (.bool true) := by rw [hcell, decide_eq_true hm]
                  clear hcell
                  go_region_with (go_at_call 16; refine (t_drop HD.out.two partN ik hm (by omega)).mono ?_; rintro e w9 ⟨rfl, h9, K9⟩; have h10 := HD.out.step h9 K9; have hc9 := h10.cell hk20; rw [decide_eq_true hm] at hc9; have H10 := Lib.hid h10; clear h9 K9 h10)
                  all_goals
                    go_wp2
                    go_meet
                    case rel => exact ⟨rfl, H10⟩
                · have hcell1 : wr.cell? ⟨g, k, none⟩ = some (.bool false) := by rw [hcell, decide_eq_false hm]
                  have HG := Lib.hid (gone_same hm)
                  clear hcell
                  go_region_with (go_at_call 16; refine (t_drop_no HD.out.two partN ik hm).mono ?_; rintro e w9 ⟨rfl, h9, K9⟩; have h10 := HD.out.step h9 K9; have hc9 := h10.cell hk20; rw [decide_eq_false hm] at hc9; have H10 : Hid (Lc X g (P.erase (k : Int)) (Q.erase (k : Int)) (P ++ Q) j w w9) := Lib.hid (by rw [HG.out.1, HG.out.2]; exact h10); clear h9 K9 h10)
                  all_goals
                    go_wp2
                    go_meet
                    case rel => exact ⟨rfl, H10⟩
              case rest =>
                obtain ⟨rfl, HJ2⟩ := hcut
                clear HJ HD hcell
                have HN := Lib.hid (gone_no (k := (k : Int)) HND.out)
                have HRG2 := Lib.hid (show ∀ i ∈ P.erase (k : Int) ++ Q.erase (k : Int), 0 ≤ i ∧ i < 20 from fun i hi => HRG.out i (gone_sub hi))
                have HP := Lib.hid (HJ2.out.put (k := k) (b := false) (S' := P.erase (k : Int) ++ Q.erase (k : Int)) (decide_eq_false HN.out).symm (fun i _ hik => gone_iff (by omega)))
                have hcell := HJ2.out.cell hk20
                have hfr := HJ2.out.bits.frozen k
                by_cases hm : (k : Int) ∈ P ++ Q
                · have hcell1 : wc.cell? ⟨g, k, none⟩ = some (.bool true) := by rw [hcell, decide_eq_true hm]
                  have hlen := gone_len HND.out hm
                  rw [HC.out] at hlen
                  obtain ⟨c', rfl⟩ : ∃ c', c = c' + 1 := ⟨c - 1, by omega⟩
                  have HC2 := Lib.hid (Nat.succ.inj hlen)
                  clear hlen HC HRG HND hm hcell HJ2
                  go_wp2_with fail
                  refine (t_touch_no HP.out.two partN ik HN.out).mono ?_
                  rintro e w9 ⟨rfl, h9, K9⟩
                  have H10 := Lib.hid (HP.out.step h9 K9)
                  clear h9 K9 HP HN
                  go_wp2
                  go_roundw
                  case rel => exact ⟨u + 1, _, _, c', by omega, by go_num, by go_num, by omega, HC2, HRG2, H10⟩
                  case measure => simp [intOf]; omega
                · have hcell1 : wc.cell? ⟨g, k, none⟩ = some (.bool false) := by rw [hcell, decide_eq_false hm]
                  have HC2 := Lib.hid (show (P.erase (k : Int) ++ Q.erase (k : Int)).length = c by rw [(gone_same hm).1, (gone_same hm).2]; exact HC.out)
                  clear HC HRG HND hm hcell HJ2
                  go_wp2_with fail
                  refine (t_touch_no HP.out.two partN ik HN.out).mono ?_
                  rintro e w9 ⟨rfl, h9, K9⟩
                  have H10 := Lib.hid (HP.out.step h9 K9)
                  clear h9 K9 HP HN
                  go_wp2
                  go_roundw
                  case rel => exact ⟨u + 1, _, _, c, by omega, by go_num, rfl, by omega, HC2, HRG2, H10⟩
                  case measure => simp [intOf]; omega
            · obtain rfl : u = U := by omega
              have d6 : decide ((u : Int) < (u : Int)) = false := by simp
              obtain ⟨np, hnp⟩ : ∃ np, P.length = np := ⟨_, rfl⟩
              obtain ⟨nq, hnq⟩ : ∃ nq, Q.length = nq := ⟨_, rfl⟩
              have hPQ := HC.out
              rw [List.length_append, hnp, hnq] at hPQ
              have hq3 := HJ.out.two.nodupL.2
              rw [hnq] at hq3
              have HNP := Lib.hid hnp
              have HNQ := Lib.hid hnq
              have HND := Lib.hid HJ.out.two.nodupL.1
              have d7 : ((np : Int) + (nq : Int) == (c : Int)) = true := by rw [beq_iff_eq]; omega
              have d8 : decide ((nq : Int) ≤ 3) = true := by rw [decide_eq_true_iff]; omega
              have hnp20 : np ≤ 20 := by omega
              have hnq20 : nq ≤ 20 := by omega
              clear hnp hnq hPQ hq3
              go_wp2_with fail
              refine (t_len HJ.out.two partN (by omega)).mono ?_
              rintro e w8 ⟨rfl, h8, K8⟩
              rw [HNP.out, HNQ.out]
              have H8 := Lib.hid (HJ.out.step h8 K8)
              clear h8 K8 HJ
              go_wp2_with fail
              refine (t_order H8.out.two partN (by omega) (-1)).mono ?_
              rintro e w9 ⟨v, rfl, r9, h9, K9⟩
              have hv := r9
              rw [show cutAt (-1) (P ++ Q) = P ++ Q from rfl] at hv
              obtain ⟨ao3, cp3, rfl, _, _⟩ := hv.form
              rw [HC.out] at hv
              rw [HC.out]
              obtain ⟨O, hO⟩ : ∃ O, P ++ Q = O := ⟨_, rfl⟩
              have hgw : g < w8.heap.size := H8.out.bits.lt
              have HW := Lib.hid hgw
              have H9 := Lib.hid (H8.out.step h9 K9)
              rw [hO] at hv HC HRG HND H9
              have HV := Lib.hid hv
              have HO := Lib.hid hO
              clear hv r9 h9 K9 H8 hgw hO
              go_wp2_with fail
              go_loopw [18] (fun i wr => ∃ r : Nat, r ≤ c ∧ i = .int .i64 (r : Int) ∧ Hid (RK encZ (fun k => w8.heap.size ≤ k ∧ k < w9.heap.size) (.slice ao3 c cp3) O wr) ∧ Hid (Lc X g P Q (O.drop r) j w wr)) (fun i _ => c + 1 - (intOf i).toNat)
              case atStart => exact ⟨0, by omega, rfl, HV, Lib.hid H9.out⟩
              case round =>
                clear HV H9
                obtain ⟨r, hr, rfl, HV, H9⟩ := hrel
                by_cases hlt4 : r < c
                · have d9 : decide ((r : Int) < (c : Int)) = true := by simpa using hlt4
                  have hrl : r < O.length := by rw [HC.out]; exact hlt4
                  obtain ⟨b5, off5, rfl, c5⟩ := rk_cell HV.out hrl
                  have hy := HRG.out _ (List.getElem_mem hrl)
                  have hdr : O.drop r = O[r] :: O.drop (r + 1) := List.drop_eq_getElem_cons hrl
                  have hnd := HND.out
                  have hno : O[r] ∉ O.drop (r + 1) := by
                    have h1 : (O.drop r).Nodup := hnd.sublist (List.drop_sublist r O)
                    rw [hdr] at h1
                    exact (List.nodup_cons.1 h1).1
                  generalize O[r] = y at *
                  obtain ⟨k, rfl⟩ : ∃ k : Nat, y = (k : Int) := ⟨y.toNat, by omega⟩
                  have hk20 : k < 20 := by omega
                  have hcell := H9.out.cell hk20
                  rw [hdr, decide_eq_true (List.mem_cons_self ..)] at hcell
                  have hfr := H9.out.bits.frozen k
                  have HP := Lib.hid (H9.out.put (k := k) (b := false) (S' := O.drop (r + 1)) (decide_eq_false hno).symm (fun i _ hik => by rw [hdr, List.mem_cons]; exact ⟨fun e => .inr e, fun e => e.resolve_left (by omega)⟩))
                  have HV2 := Lib.hid (HV.out.same (W' := wr.setCell ⟨g, k, none⟩ (.bool false)) (fun b hb => Below.heap_setCell wr ⟨g, k, none⟩ _ b (fun e => by have e3 : b = g := e; have := HW.out; omega)))
                  have e1 : decide ((k : Int) < 0) = false := by simp
                  have e2 : decide ((k : Int) ≥ 20) = false := by simp; omega
                  clear hy hdr hnd hno hrl H9 HV
                  go_wp2
                  go_roundw
                  case rel => exact ⟨r + 1, by omega, by go_num, HV2, HP⟩
                  case measure => simp [intOf]; omega
                · obtain rfl : r = c := by omega
                  have d9 : decide ((r : Int) < (r : Int)) = false := by simp
                  have HB := Lib.hid H9.out.two.bel
                  clear HV H9
                  go_wp2_with fail
                  refine (awake9_any _).mono ?_
                  rintro e w10 ⟨rfl, hb⟩
                  go_wp2
                  go_ret
                  exact ⟨rfl, HB.out.trans (hb.mono HB.out.size)⟩
end Go.Proofs.Ytjaejdenboggpaa

/- ListsCounts of package freshetlaw9 (as many are there as were added and not dropped; what is dropped from the one place is in the other one neither) returns true at every int and two lists of ints.
   Conditions: those of the row, none beside. -/
namespace Go.Proofs.Ytjaejdenboggpaa.listsCounts
open Go.ChangeShapes Go.WideShapes Go.ChangeAt Go.RowKit

set_option maxRecDepth 100000 in
theorem contract (H : Type) (enc : TypeId × Value → H) (W : World) (base : Nat) (args : Array Value) (ds gs : List (DataW H)) (before : List MemPlace)
    (hval : ∀ (j : Nat) t v, Try.f9.params[j]? = some t → args[j]? = some v → Value.okWide Try.prog W .any base t v)
    (hW : DataW.Whole enc Try.prog Try.f9.params.toList Rows.listsCountsSpec.vars false W args.toList ds gs before) (_hL : laidMetH Try.prog laidList W) :
    Calls Try.prog 9 args W fun e W' => ∃ v, e = .returned v ∧ Rows.listsCountsSpec.post enc Try.prog Try.f9 false true false false W args v W' := by
  have hW' := hW
  obtain ⟨p, q, hA0, hV, rfl, _, _⟩ := hW
  have hA : DataW.TrodAll enc Try.prog W 0 (fun _ => true) true Try.f9.params.toList args.toList ds p := hA0
  clear hA0
  rw [Try.params9] at hA hval
  obtain ⟨v0, vs0, d0, ds0, p0, q0, hargs0, rfl, rfl, h0, r0⟩ := trodAll_cons hA
  obtain ⟨v1, vs1, d1, ds1, p1, q1, hargs1, rfl, rfl, h1, r1⟩ := trodAll_cons r0
  subst hargs1
  obtain ⟨v2, vs2, d2, ds2, p2, q2, hargs2, rfl, rfl, h2, r2⟩ := trodAll_cons r1
  subst hargs2
  obtain ⟨rfl, rfl, rfl⟩ := trodAll_nil r2
  obtain rfl : args = #[v0, v1, v2] := by cases args; simp_all
  obtain ⟨rfl, rfl⟩ := trodVars_none hV
  obtain ⟨z0, rfl, hz0⟩ := arg_int (hval 0 _ _ rfl rfl) h0
  obtain ⟨L1, hr1, hb1, hl1⟩ := arg_ints (hval 1 _ v1 rfl rfl) h1
  obtain ⟨L2, hr2, hb2, hl2⟩ := arg_ints (hval 2 _ v2 rfl rfl) h2
  refine (counts9_any z0 v1 v2 L1 L2 W hr1 hb1 hl1 hr2 hb2 hl2).mono fun e W' ⟨he, hbl⟩ => ?_
  exact ⟨_, he, law_post hW' rfl hbl rfl rfl (fun t ht => readT9 t (by rw [Try.params9] at ht; exact (show ∀ t ∈ (#[3, 27, 27] : Array TypeId).toList, t ∈ [3, 27, 22] by decide) t ht))⟩

set_option maxRecDepth 100000 in
theorem reads (os : Os) {H : Type} (enc : TypeId × Value → H) : ∃ places, DataW.whole enc Try.prog ((laidWorld os).forCall (fun _ _ => 0) ⟨#[], #[.int .i64 0, .slice none 0 0, .slice none 0 0], []⟩).memory Try.f9.params.toList Rows.listsCountsSpec.vars false (#[.int .i64 0, .slice none 0 0, .slice none 0 0] : Array Value).toList 8 = some ([.lit (.int .i64 0), .nil, .nil], [], places) :=
  ⟨[], by kernel_rfl⟩

set_option maxRecDepth 100000 in
theorem lifted (os : Os) (started : os.Started) (H : Type) (enc : TypeId × Value → H) (F : Stop.Interp) :
    ReturnsInHanded {} Try.checked os 9 .any ((OpenSpec.ofChange Rows.listsCountsSpec).preRow enc Try.prog Try.f9 Rows.listsCountsRow.domain false Rows.listsCountsRow.laid) (((OpenSpec.ofChange Rows.listsCountsSpec).at F).post enc Try.prog Try.f9 false true false false) := by
  obtain ⟨places, hx⟩ := reads os enc
  refine returnsInHanded_of_row (C := Try.checked) (s := OpenSpec.ofChange Rows.listsCountsSpec) own started (by kernel_rfl) Try.func9
    (witness_row_atRef (enc := enc) (C := Try.checked) false (laidWorld os) #[.int .i64 0, .slice none 0 0, .slice none 0 0] rfl (by kernel_rfl) (by kernel_rfl) (by kernel_rfl)
      (OpenSpec.preRow_of_cond 8 hx (by kernel_rfl) (fun k hk => by cases hk) (by kernel_rfl) (laid_met os _))) ?_
  intro W base args ds gs before hval hW _ _ _ hL _ _
  exact contract H enc W base args ds gs before hval hW hL

theorem said : Rows.ListsCountsSaid :=
  OpenClaim.holds_of_cond 9 Try.f9 rfl rfl rfl rfl rfl rfl rfl ⟨rfl, rfl, rfl, rfl, rfl⟩ rfl rfl rfl rfl rfl (by kernel_rfl) Try.func9 (by kernel_rfl)
    (of_decide_eq_true (by kernel_rfl)) (by unfold Func.isWrapper; first | (rw [if_pos (by decide +kernel)]; kernel_rfl) | (rw [if_neg (by decide +kernel)]; exact ⟨rfl, rfl⟩))
    (fun os started H enc _ F => by rw [OpenClaim.pre_eq_preRow]; exact lifted os started H enc F)
end Go.Proofs.Ytjaejdenboggpaa.listsCounts
