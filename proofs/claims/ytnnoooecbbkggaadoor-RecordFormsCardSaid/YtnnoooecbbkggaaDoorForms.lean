/- RecordForms: its walk. -/
import Derived.Test.YtnnoooecbbkggaaDoorAwake
import Derived.Test.YtnnoooecbbkggaaDoorFormsMath
import Derived.Test.YtnnoooecbbkggaaDoorRound
import Derived.Test.YtnnoooecbbkggaaDoorRValid
import Derived.Test.YtnnoooecbbkggaaDoorParts
import Derived.Deep.RegionHeld3
import Derived.Deep.DrawnRows
namespace Go.Proofs.YtnnoooecbbkggaaDoor
open Go.RowKit Go.Shelf
attribute [local go_sem] Oper.semAt_some
attribute [local go_sem ↓] Go.wp_at_zero Go.wp_at_succ

theorem calls_with' {P : Program} {f : FuncId} {args : Array Value} {W : World} {R : Ending → World → Prop} (h : ∀ V, V = W → Calls P f args V R) : Calls P f args W R := h W rfl
theorem blk_three {V W : World} {c1 c2 c3 : Array Value} {t1 t2 t3 : TypeId} (h : V = ((W.alloc (.cells c1 t1)).alloc (.cells c2 t2)).alloc (.cells c3 t3)) :
    Block V W.heap.size c1 t1 ∧ Block V (W.heap.size + 1) c2 t2 ∧ Block V (W.heap.size + 1 + 1) c3 t3 ∧ Below W.heap.size W V := by
  subst h
  have h2 := Block.new (W.alloc (.cells c1 t1)) c2 t2
  have h3 := Block.new ((W.alloc (.cells c1 t1)).alloc (.cells c2 t2)) c3 t3
  rw [World.size_alloc] at h2
  rw [World.size_alloc, World.size_alloc] at h3
  exact ⟨((Block.new W c1 t1).alloc _).alloc _, h2.alloc _, h3, (((Below.refl _ W).alloc (Nat.le_refl _) _).alloc (by simp) _).alloc (by simp; omega) _⟩
theorem run_upto {P : Program} {t : TypeId} (h : P.underlying t = some .string) {l : List UInt8} {c : Nat} (hc : c ≤ l.length) (w : World) :
    (Instr.slice t (.string ⟨l.toArray⟩) none (some (.int .i64 (c : Int))) none).run P w = .ok (.string ⟨(l.take c).toArray⟩) w := by
  have hb : 0 ≤ (c : Int) ∧ (c : Int) ≤ ((⟨l.toArray⟩ : ByteArray).size : Int) := ⟨by omega, by show (c : Int) ≤ (l.toArray.size : Int); simpa using hc⟩
  simp only [run_slice_string_to_if w t ⟨l.toArray⟩ .i64 (c : Int) h]
  rw [if_pos (by first | exact hb | exact hb.2)]
  rw [ByteArray.extract_mk]
  simp
theorem run_adds {P : Program} (a b : List UInt8) (h : a.length + b.length ≤ 100000) (w : World) : (Op.stringOp .add ⟨a.toArray⟩ ⟨b.toArray⟩).run P w = .ok (.string ⟨(a ++ b).toArray⟩) w := by
  rw [run_string_add_sum (P := P) (w := w) ⟨a.toArray⟩ ⟨b.toArray⟩ (by show a.toArray.size + b.toArray.size ≤ _; simp; omega), app_bytes]
theorem keep_cell {a : Addr} {v : Value} {W W' : World} (hb : Below W.heap.size W W') (h : W.cell? a = some v) : W'.cell? a = some v := (hb.cell (cell_lt h)).trans h
theorem keep_below {w W W' : World} (hb : Below W.heap.size W W') (h : Below w.heap.size w W) : Below w.heap.size w W' := below_trans h hb
theorem cell_at8 {W : World} {B : Nat} {t : TypeId} {vs : Array Value} (h : Block W B vs t) (k : Nat) {v : Value} (hv : vs[k]? = some v) : W.cell? ⟨B, 0 + k, none⟩ = some v := by
  rw [Nat.zero_add]; exact h.cell hv

set_option maxRecDepth 100000 in
set_option maxHeartbeats 16000000 in
theorem forms_any (n o : List UInt8) (k cut : Int) (w : World) (hn : n.length ≤ 9223372036854775807) (hto : o.length ≤ 9223372036854775807)
    (hk0 : -9223372036854775808 ≤ k) (hk1 : k ≤ 9223372036854775807) (hc0 : -9223372036854775808 ≤ cut) (hc1 : cut ≤ 9223372036854775807) (hv : VarsOk w) :
    Calls Tryd.prog 6 #[.string ⟨n.toArray⟩, .string ⟨o.toArray⟩, .int .i64 k, .int .i64 cut] w fun e w' => e = .returned (.bool true) ∧ Below w.heap.size w w' := by
  by_cases hg : 100 < n.length ∨ 100 < o.length
  · have hcase : 100 < n.length ∨ (n.length ≤ 100 ∧ 100 < o.length) := by omega
    clear hg
    rcases hcase with g1 | ⟨g1, g2⟩
    all_goals
      go_enter Tryd.func6, Tryd.ntmps6
      go_wp2_with (go_at_call 9; refine (awake_any _ hv).mono ?_; rintro e w1 ⟨rfl, b1⟩)
      go_ret
      exact ⟨rfl, b1⟩
  have g1 : n.length ≤ 100 := by omega
  have g2 : o.length ≤ 100 := by omega
  clear hg
  have hV1 := fun W => rvalid_any n W (by omega)
  have hV2 := fun W => rvalid_any o W (by omega)
  cases hvn : Nm.valid n
  · rw [hvn] at hV1
    go_enter Tryd.func6, Tryd.ntmps6
    go_wp2_with (first
      | (go_at_call 35; refine (hV1 _).mono ?_; rintro e w1 ⟨rfl, b1⟩)
      | (go_at_call 9; refine (awake_any _ (hv.below b1)).mono ?_; rintro e w2 ⟨rfl, b2⟩))
    go_ret
    exact ⟨rfl, below_trans b1 b2⟩
  rw [hvn] at hV1
  cases hvt : Nm.valid o
  · rw [hvt] at hV2
    have HV1 := Lib.hid hV1
    have HV2 := Lib.hid hV2
    clear hV1 hV2
    go_enter Tryd.func6, Tryd.ntmps6
    go_wp2_with (go_at_call 35; refine (HV1.out _).mono ?_; rintro e w1 ⟨rfl, b1⟩; refine Hid.out ?_)
    refine Lib.hid ?_
    go_wp2_with (go_at_call 35; refine (HV2.out _).mono ?_; rintro e w2 ⟨rfl, b2⟩; replace b2 := below_trans b1 b2; refine Hid.out ?_)
    refine Lib.hid ?_
    go_wp2_with (go_at_call 9; refine (awake_any _ (hv.below b2)).mono ?_; rintro e w3 ⟨rfl, b3⟩; replace b3 := below_trans b2 b3; refine Hid.out ?_)
    refine Lib.hid ?_
    go_wp2
    go_ret
    exact ⟨rfl, b3⟩
  rw [hvt] at hV2
  obtain ⟨hr0, hr1⟩ := roundI_bounds k 8 (by omega)
  have hro := fun W => round_any k 8 W (by omega) (by omega) hk0 hk1
  obtain ⟨i, hi⟩ : ∃ i : Nat, roundI k 8 = (i : Int) := ⟨(roundI k 8).toNat, by omega⟩
  rw [hi] at hro hr0 hr1
  have hi8 : i < 8 := by omega
  obtain ⟨fo1, fo2, fo3, fo4, fo5, fo6⟩ := Rd.forms_ok hvn hvt i hi8
  have hDl := Rd.fD_len g1 g2 i
  have hTk := Rd.fT_known i
  have hNl := Rd.fN_le i
  have hcT : (#[.int .i64 1, .int .i64 28, .int .i64 2, .int .i64 5, .int .i64 12, .int .i64 15, .int .i64 33, .int .i64 6] : Array Value)[i]? = some (.int .i64 (Rd.fT i)) := by
    have hc : i = 0 ∨ i = 1 ∨ i = 2 ∨ i = 3 ∨ i = 4 ∨ i = 5 ∨ i = 6 ∨ i = 7 := by omega
    rcases hc with rfl | rfl | rfl | rfl | rfl | rfl | rfl | rfl <;> rfl
  have hcD : (#[.string ⟨#[49, 50, 51, 52]⟩, .string ⟨#[49, 50, 51, 52, 53, 54, 55, 56, 49, 50, 51, 52, 53, 54, 55, 56]⟩, .string ⟨n.toArray⟩, .string ⟨n.toArray⟩, .string ⟨n.toArray⟩, .string ⟨(49 :: 50 :: n).toArray⟩, .string ⟨(49 :: 50 :: 51 :: 52 :: 53 :: 54 :: n).toArray⟩, .string ⟨(n ++ (o ++ [49, 50, 51, 52, 53, 54, 55, 56, 57, 48, 49, 50, 51, 52, 53, 54, 55, 56, 57, 48])).toArray⟩] : Array Value)[i]? = some (.string ⟨(Rd.fD n o i).toArray⟩) := by
    have hc : i = 0 ∨ i = 1 ∨ i = 2 ∨ i = 3 ∨ i = 4 ∨ i = 5 ∨ i = 6 ∨ i = 7 := by omega
    rcases hc with rfl | rfl | rfl | rfl | rfl | rfl | rfl | rfl
    iterate 7 rfl
    rw [← List.append_assoc]; rfl
  have hcN : (#[.int .i64 0, .int .i64 0, .int .i64 1, .int .i64 1, .int .i64 1, .int .i64 1, .int .i64 1, .int .i64 2] : Array Value)[i]? = some (.int .i64 ((Rd.fN i : Nat) : Int)) := by
    have hc : i = 0 ∨ i = 1 ∨ i = 2 ∨ i = 3 ∨ i = 4 ∨ i = 5 ∨ i = 6 ∨ i = 7 := by omega
    rcases hc with rfl | rfl | rfl | rfl | rfl | rfl | rfl | rfl <;> rfl
  obtain ⟨T, hT⟩ : ∃ T, Rd.fT i = T := ⟨_, rfl⟩
  obtain ⟨D, hD⟩ : ∃ D, Rd.fD n o i = D := ⟨_, rfl⟩
  obtain ⟨M, hM⟩ : ∃ M, Rd.fN i = M := ⟨_, rfl⟩
  rw [hT] at fo1 fo2 fo3 fo4 fo5 hcT hTk
  rw [hD] at fo1 fo2 fo3 fo4 fo6 hcD hDl
  rw [hM] at fo4 hcN hNl
  obtain ⟨hr2, hr3⟩ := roundI_bounds cut D.length (by omega)
  have hrc := fun W => round_any cut D.length W (by omega) (by omega) hc0 hc1
  obtain ⟨c, hc⟩ : ∃ c : Nat, roundI cut D.length = (c : Int) := ⟨(roundI cut D.length).toNat, by omega⟩
  rw [hc] at hrc hr2 hr3
  have hcl : c < D.length := by omega
  have d1 := fun W => data_any T D W (by omega)
  have d2 := fun W => data_any T (D ++ [120]) W (by simp; omega)
  have d3 := fun W => data_any T (D.take c) W (by simp; omega)
  have d4 : ∀ W, Calls Tryd.prog 11 #[.int .i64 T, .string ⟨D.toArray⟩] W fun e W' => ∃ ao cap, e = .returned (.slice ao M cap) ∧ Below W.heap.size W W' := fun W => (parts_any T D W (by omega)).mono fun e W' ⟨v, he, hp, hb⟩ => by
    obtain ⟨ao, cap, rfl, _⟩ := hp.form
    exact ⟨ao, cap, by rw [he, fo4], hb⟩
  have d5 := fun W => known_any T W
  rw [fo1] at d1
  rw [fo2] at d2
  rw [fo3 c hcl] at d3
  rw [fo5] at d5
  have a1 := app_bytes [49, 50] n
  have a2 := app_bytes [49, 50, 51, 52, 53, 54] n
  have a3 := app_bytes n o
  have a4 := app_bytes (n ++ o) [49, 50, 51, 52, 53, 54, 55, 56, 57, 48, 49, 50, 51, 52, 53, 54, 55, 56, 57, 48]
  have a5 := fun W => run_adds (P := Tryd.prog) D [120] (by simp; omega) W
  have a6 := fun W => run_upto (P := Tryd.prog) Tryd.underlying9 (l := D) (c := c) (by omega) W
  clear fo1 fo2 fo3 fo5 hT hD hM hc hi hvn hvt
  have HcT := Lib.hid hcT
  have HcD := Lib.hid hcD
  have HcN := Lib.hid hcN
  have Hd1 := Lib.hid d1
  have Hd2 := Lib.hid d2
  have Hd3 := Lib.hid d3
  have Hd4 := Lib.hid d4
  have Hd5 := Lib.hid d5
  have Hfo4 := Lib.hid fo4
  have HhV1 := Lib.hid hV1
  have HhV2 := Lib.hid hV2
  have Hhro := Lib.hid hro
  have Hhrc := Lib.hid hrc
  clear hcT hcD hcN d1 d2 d3 d4 d5 fo4 hV1 hV2 hro hrc
  go_enter Tryd.func6, Tryd.ntmps6
  go_wp2_with (go_at_call 35; refine (HhV1.out _).mono ?_; rintro e w1 ⟨rfl, b1⟩; refine Hid.out ?_)
  refine Lib.hid ?_
  go_wp2_with (go_at_call 35; refine (HhV2.out _).mono ?_; rintro e w2 ⟨rfl, b2⟩; replace b2 := below_trans b1 b2; clear b1; refine Hid.out ?_)
  refine Lib.hid ?_
  go_wp2_with fail
  refine calls_with' ?_
  intro V hV
  obtain ⟨kT, kD, kN, bV⟩ := blk_three hV
  replace b2 := below_trans b2 bV
  clear hV bV
  generalize w2.heap.size + 1 + 1 = BN at kN ⊢
  generalize w2.heap.size + 1 = BD at kD ⊢
  generalize w2.heap.size = BT at kT ⊢
  have cT := kT.cell HcT.out
  have cD := kD.cell HcD.out
  have cN := kN.cell HcN.out
  clear kT kD kN HcT HcD HcN a1 a2 a3 a4
  refine (Hhro.out _).mono ?_
  rintro e w3 ⟨rfl, rfl⟩
  go_wp2_with fail
  refine (Hhrc.out _).mono ?_
  rintro e w3 ⟨rfl, rfl⟩
  go_wp2_with fail
  go_region_held3 (fun w' => w'.cell? ⟨BT, i, none⟩ = some (.int .i64 T) ∧ w'.cell? ⟨BD, i, none⟩ = some (.string ⟨D.toArray⟩) ∧ w'.cell? ⟨BN, i, none⟩ = some (.int .i64 (M : Int)) ∧ Below w.heap.size w w')
    ((go_split_ands; refine ⟨?_, ?_, ?_, ?_⟩ <;> first | assumption | exact keep_cell (by assumption) (by assumption) | exact keep_below (by assumption) (by assumption) | exact Below.drew (by assumption) | go_keep))
    (first
      | (go_at_call 15; (with_reducible refine (Hd5.out _).mono ?_); rintro e w4 ⟨rfl, rfl⟩)
      | (go_at_call 12; (with_reducible refine (Hd1.out _).mono ?_); rintro e w4 ⟨rfl, b4⟩)
      | (go_at_call 12; (with_reducible refine (Hd2.out _).mono ?_); rintro e w4 ⟨rfl, b4⟩)
      | (go_at_call 12; (with_reducible refine (Hd3.out _).mono ?_); rintro e w4 ⟨rfl, b4⟩)
      | (go_at_call 11; (with_reducible refine (Hd4.out _).mono ?_); rintro e w4 ⟨ao, cap, rfl, b4⟩)
      | (go_at_call 9; (go_split_ands; (with_reducible refine (awake_any _ (hv.below (by assumption))).mono ?_)); rintro e w4 ⟨rfl, b4⟩))
  go_wp2
  go_ret
  go_split_ands
  exact ⟨rfl, by assumption⟩
end Go.Proofs.YtnnoooecbbkggaaDoor
