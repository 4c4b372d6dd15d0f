/- MakeSOA. -/
import Derived.Test.YtnnoooecbbkggaaDoorMake
import Derived.Test.YtnnoooecbbkggaaDoorOwnG
namespace Go.Proofs.YtnnoooecbbkggaaDoor
open Go.RowKit Go.Shelf
attribute [local go_sem] Oper.semAt_some

set_option maxRecDepth 100000 in
set_option maxHeartbeats 1000000 in
theorem appendFourG_any (v : Int) (b : List UInt8) (bv : Value) (base : Nat) (w : World) (h0 : -9223372036854775808 ≤ v) (h1 : v ≤ 9223372036854775807) (ho : OwnG base 5 bv b w) (hbs : base ≤ w.heap.size) (hl : b.length ≤ 100100) :
    Calls Tryd.prog 56 #[bv, .int .i64 v] w fun e w' => ∃ v' : Value, e = .returned v' ∧ OwnG base 5 v' (b ++ Rd.four v) w' ∧ Below base w w' := by
  refine (callsIn_wide (n := 8)).1 ?_
  refine callsIn_of_wp Tryd.func56 rfl trivial ?_ rfl
  simp only [Tryd.ntmps56, List.size_toArray, List.length_cons, List.length_nil, Nat.reduceAdd, Nat.reduceSub, Array.replicate_succ, Array.replicate_zero, List.push_toArray, List.append_toArray, List.nil_append, List.cons_append]
  have hw : base ≤ (w.alloc (.cells #[.int .u8 (v / 16777216 % 256), .int .u8 (v / 65536 % 256), .int .u8 (v / 256 % 256), .int .u8 (v % 256)] 5)).heap.size := by simp; omega
  have HF := Lib.hid (bytes_four v)
  have hl4 : (Rd.four v).length = 4 := rfl
  have hob := ownG_below ho ((Below.refl _ w).alloc (Nat.le_refl _) (.cells #[.int .u8 (v / 16777216 % 256), .int .u8 (v / 65536 % 256), .int .u8 (v / 256 % 256), .int .u8 (v % 256)] 5))
  gi_wp2_with (gi_at_builtin; refine wpListIn_apg _ rfl _ _ 70 rfl base 5 Tryd.underlying70 infoByte _ b rfl hob ⟨_, 0, none⟩ 4 4 (Rd.four v) rfl rfl (fun j u hj => cells_new _ [.int .u8 (v / 16777216 % 256), .int .u8 (v / 65536 % 256), .int .u8 (v / 256 % 256), .int .u8 (v % 256)] _ j u (by rw [← HF.out]; exact hj)) (by omega) hw ?_; intro v2 w2 ho2 ha2; refine Hid.out ?_)
  refine Lib.hid ?_
  gi_wp2
  go_ret
  exact ⟨v2, rfl, ho2, ((Below.refl base w).alloc hbs _).trans ha2⟩

theorem idx0 (x y : Int) (W : World) : (Instr.index 73 (.agg #[.int .i64 x, .int .i64 1, .int .i64 2, .int .i64 3, .int .i64 y]) (.int .i64 0)).run Tryd.prog W = .ok (.int .i64 x) W := by kernel_rfl
theorem idx1 (x y : Int) (W : World) : (Instr.index 73 (.agg #[.int .i64 x, .int .i64 1, .int .i64 2, .int .i64 3, .int .i64 y]) (.int .i64 1)).run Tryd.prog W = .ok (.int .i64 1) W := by kernel_rfl
theorem idx2 (x y : Int) (W : World) : (Instr.index 73 (.agg #[.int .i64 x, .int .i64 1, .int .i64 2, .int .i64 3, .int .i64 y]) (.int .i64 2)).run Tryd.prog W = .ok (.int .i64 2) W := by kernel_rfl
theorem idx3 (x y : Int) (W : World) : (Instr.index 73 (.agg #[.int .i64 x, .int .i64 1, .int .i64 2, .int .i64 3, .int .i64 y]) (.int .i64 3)).run Tryd.prog W = .ok (.int .i64 3) W := by kernel_rfl
theorem idx4 (x y : Int) (W : World) : (Instr.index 73 (.agg #[.int .i64 x, .int .i64 1, .int .i64 2, .int .i64 3, .int .i64 y]) (.int .i64 4)).run Tryd.prog W = .ok (.int .i64 y) W := by kernel_rfl

namespace Rd
def soaTo (n : List UInt8) (x y : Int) : Nat → List UInt8
  | 0 => n ++ [0]
  | 1 => n ++ [0] ++ four x
  | 2 => n ++ [0] ++ four x ++ four 1
  | 3 => n ++ [0] ++ four x ++ four 1 ++ four 2
  | 4 => n ++ [0] ++ four x ++ four 1 ++ four 2 ++ four 3
  | _ => soaData n x y
theorem soaTo_len (n : List UInt8) (x y : Int) : ∀ k, k ≤ 5 → (soaTo n x y k).length ≤ n.length + 21 := by
  have h4 : ∀ v, (four v).length = 4 := fun _ => rfl
  intro k hk
  match k, hk with
  | 0, _ => simp [soaTo]
  | 1, _ => simp [soaTo, h4]
  | 2, _ => simp [soaTo, h4]
  | 3, _ => simp [soaTo, h4]
  | 4, _ => simp [soaTo, h4]
  | 5, _ => simp [soaTo, soaData, h4]
end Rd

set_option maxRecDepth 100000 in
set_option maxHeartbeats 8000000 in
theorem makeSOA_any (n : List UInt8) (l x y : Int) (w : World) (hn : n.length ≤ 90000) (hx0 : -9223372036854775808 ≤ x) (hx1 : x ≤ 9223372036854775807) (hy0 : -9223372036854775808 ≤ y) (hy1 : y ≤ 9223372036854775807) :
    Calls Tryd.prog 33 #[.string ⟨n.toArray⟩, .int .i64 l, .int .i64 x, .int .i64 y] w fun e w' => e = .returned (rrV (Rd.makeSOA n l x y)) ∧ Below w.heap.size w w' := by
  obtain ⟨fx, hfx⟩ : ∃ fx, Rd.isFour x = fx := ⟨_, rfl⟩
  obtain ⟨fy, hfy⟩ : ∃ fy, Rd.isFour y = fy := ⟨_, rfl⟩
  have HFX := Lib.hid hfx
  have HFY := Lib.hid hfy
  have hcase : (fx = false ∨ (fx = true ∧ fy = false)) ∧ Hid (rrV (Rd.makeSOA n l x y) = .agg #[.string ⟨#[]⟩, .int .i64 0, .int .i64 0, .int .i64 0, .string ⟨#[]⟩]) ∨ fx = true ∧ fy = true ∧ Hid (Rd.makeSOA n l x y = Rd.checkedR ⟨n, 6, 1, l, Rd.soaTo n x y 5⟩) := by
    cases fx
    · exact .inl ⟨.inl rfl, Lib.hid (by unfold Rd.makeSOA; rw [hfx]; rfl)⟩
    · cases fy
      · exact .inl ⟨.inr ⟨rfl, rfl⟩, Lib.hid (by unfold Rd.makeSOA; rw [hfx, hfy]; rfl)⟩
      · exact .inr ⟨rfl, rfl, Lib.hid (by unfold Rd.makeSOA; rw [hfx, hfy]; rfl)⟩
  clear hfx hfy
  rcases hcase with ⟨hcase, H⟩ | ⟨rfl, rfl, H⟩
  · rcases hcase with rfl | ⟨rfl, rfl⟩
    all_goals
      go_enter Tryd.func33, Tryd.ntmps33
      go_wp2_with (first
        | (go_at_call 54; with_reducible refine (isFour_any x _).mono ?_; rw [HFX.out]; rintro e w1 ⟨rfl, rfl⟩)
        | (go_at_call 54; with_reducible refine (isFour_any y _).mono ?_; rw [HFY.out]; rintro e w1 ⟨rfl, rfl⟩))
      exact bodyPost_ret (v := .agg #[.string ⟨#[]⟩, .int .i64 0, .int .i64 0, .int .i64 0, .string ⟨#[]⟩]) (by simp [results, Tryd.results33, go_sem]) rfl ⟨by rw [H.out], (Below.refl _ w).alloc (Nat.le_refl _) _⟩
  · have e1 := app_bytes n [0]
    have hl1 : (n ++ [0]).length ≤ 90001 := by simp; omega
    obtain ⟨q, hq⟩ : ∃ q, n ++ [0] = q := ⟨_, rfl⟩
    rw [hq] at e1 hl1
    have HQ := Lib.hid hq
    clear hq
    have hsz : (⟨q.toArray⟩ : ByteArray).size = q.length := by show q.toArray.size = _; simp
    have hcv := Lib.run_convert_string_bytes (P := Tryd.prog) (w.alloc (.cells #[.string ⟨#[]⟩, .int .i64 0, .int .i64 0, .int .i64 0, .string ⟨#[]⟩] 23)) 9 70 5 ⟨q.toArray⟩ Tryd.underlying9 Tryd.underlying70 Tryd.underlying5
    have ho0 := ownG_conv (w.alloc (.cells #[.string ⟨#[]⟩, .int .i64 0, .int .i64 0, .int .i64 0, .string ⟨#[]⟩] 23)) 5 q (by omega)
    have hb0 := Lib.bytesWorld_below (w.alloc (.cells #[.string ⟨#[]⟩, .int .i64 0, .int .i64 0, .int .i64 0, .string ⟨#[]⟩] 23)) 5 ⟨q.toArray⟩
    rw [hsz] at hcv
    rw [World.size_alloc] at hcv ho0 hb0
    clear hsz
    generalize grownCap (w.alloc (.cells #[.string ⟨#[]⟩, .int .i64 0, .int .i64 0, .int .i64 0, .string ⟨#[]⟩] 23)) q.length 0 5 = cap at hcv ho0
    generalize Lib.bytesWorld (w.alloc (.cells #[.string ⟨#[]⟩, .int .i64 0, .int .i64 0, .int .i64 0, .string ⟨#[]⟩] 23)) 5 ⟨q.toArray⟩ = W0 at *
    go_enter Tryd.func33, Tryd.ntmps33
    go_wp2_with (first
      | (go_at_call 54; with_reducible refine (isFour_any x _).mono ?_; rw [HFX.out]; rintro e w1 ⟨rfl, rfl⟩)
      | (go_at_call 54; with_reducible refine (isFour_any y _).mono ?_; rw [HFY.out]; rintro e w1 ⟨rfl, rfl⟩))
    have HS := Lib.hid (Rd.soaTo_len n x y)
    go_loopw [9, 27] (fun v i wr => ∃ (dv : Value) (k : Nat) (dl : List UInt8), v = dv ∧ i = .int .i64 (k : Int) ∧ k ≤ 5 ∧ dl.length ≤ 90021 ∧ OwnG (w.heap.size + 1) 5 dv dl wr ∧ Below (w.heap.size + 1) (w.alloc (.cells #[.string ⟨#[]⟩, .int .i64 0, .int .i64 0, .int .i64 0, .string ⟨#[]⟩] 23)) wr ∧ Hid (dl = Rd.soaTo n x y k)) (fun _ i _ => 6 - (intOf i).toNat)
    case atStart => exact ⟨_, 0, q, rfl, rfl, by omega, by omega, ho0, hb0, Lib.hid HQ.out.symm⟩
    case round =>
      obtain ⟨dv, k, dl, rfl, rfl, hk, hdl, ho, hb, hh⟩ := hrel
      have hwr : w.heap.size + 1 ≤ wr.heap.size := by have := hb.size; simpa using this
      have hcase : k = 5 ∨ k = 0 ∨ k = 1 ∨ k = 2 ∨ k = 3 ∨ k = 4 := by omega
      rcases hcase with rfl | hcase
      · obtain ⟨r, hr⟩ : ∃ r, Rd.checkedR ⟨n, 6, 1, l, dl⟩ = r := ⟨_, rfl⟩
        have hc := fun W => checked_any n 6 l dl W (by omega) (by omega)
        rw [hr] at hc
        have HN : Hid (rrV (Rd.makeSOA n l x y) = rrV r) := Lib.hid (by rw [H.out, ← hh.out, hr])
        have HC := Lib.hid hc
        have hst := ownG_str (P := Tryd.prog) (src := 70) (dst := 9) Tryd.underlying70 Tryd.underlying5 Tryd.underlying9 ho
        clear hc hr hh
        obtain ⟨n', t', c', l', d'⟩ := r
        unfold rrV at HC
        go_wp2_with (go_at_call 55; refine (HC.out _).mono ?_; rintro e w2 ⟨rfl, b2⟩; replace hb := hb.trans (b2.mono hwr); obtain ⟨hc2, hf2⟩ := bcell1 hb)
        exact bodyPost_ret (v := .agg #[.string ⟨n'.toArray⟩, .int .i64 t', .int .i64 c', .int .i64 l', .string ⟨d'.toArray⟩]) (by simp [results, Tryd.results33, go_sem, hc2, hf2]) rfl ⟨by rw [HN.out]; rfl, below5' hb _ _ _ _ _⟩
      rcases hcase with rfl | rfl | rfl | rfl | rfl
      · have HN : Hid (dl ++ Rd.four x = Rd.soaTo n x y 1) := Lib.hid (by rw [hh.out]; rfl)
        have hl2 : (dl ++ Rd.four x).length ≤ 90021 := by rw [HN.out]; have := HS.out 1 (by omega); omega
        have ix := idx0 x y wr
        clear hh
        go_wp2_with (go_at_call 56; refine (appendFourG_any x dl _ _ _ (by omega) (by omega) ho hwr (by omega)).mono ?_; rintro e w2 ⟨v2, rfl, ho2, b2⟩)
        go_roundw
        case rel => exact ⟨v2, 1, dl ++ Rd.four x, rfl, rfl, by omega, hl2, ho2, hb.trans b2, HN⟩
        case measure => simp [intOf]
      · have HN : Hid (dl ++ Rd.four 1 = Rd.soaTo n x y 2) := Lib.hid (by rw [hh.out]; rfl)
        have hl2 : (dl ++ Rd.four 1).length ≤ 90021 := by rw [HN.out]; have := HS.out 2 (by omega); omega
        have ix := idx1 x y wr
        clear hh
        go_wp2_with (go_at_call 56; refine (appendFourG_any 1 dl _ _ _ (by omega) (by omega) ho hwr (by omega)).mono ?_; rintro e w2 ⟨v2, rfl, ho2, b2⟩)
        go_roundw
        case rel => exact ⟨v2, 2, dl ++ Rd.four 1, rfl, rfl, by omega, hl2, ho2, hb.trans b2, HN⟩
        case measure => simp [intOf]
      · have HN : Hid (dl ++ Rd.four 2 = Rd.soaTo n x y 3) := Lib.hid (by rw [hh.out]; rfl)
        have hl2 : (dl ++ Rd.four 2).length ≤ 90021 := by rw [HN.out]; have := HS.out 3 (by omega); omega
        have ix := idx2 x y wr
        clear hh
        go_wp2_with (go_at_call 56; refine (appendFourG_any 2 dl _ _ _ (by omega) (by omega) ho hwr (by omega)).mono ?_; rintro e w2 ⟨v2, rfl, ho2, b2⟩)
        go_roundw
        case rel => exact ⟨v2, 3, dl ++ Rd.four 2, rfl, rfl, by omega, hl2, ho2, hb.trans b2, HN⟩
        case measure => simp [intOf]
      · have HN : Hid (dl ++ Rd.four 3 = Rd.soaTo n x y 4) := Lib.hid (by rw [hh.out]; rfl)
        have hl2 : (dl ++ Rd.four 3).length ≤ 90021 := by rw [HN.out]; have := HS.out 4 (by omega); omega
        have ix := idx3 x y wr
        clear hh
        go_wp2_with (go_at_call 56; refine (appendFourG_any 3 dl _ _ _ (by omega) (by omega) ho hwr (by omega)).mono ?_; rintro e w2 ⟨v2, rfl, ho2, b2⟩)
        go_roundw
        case rel => exact ⟨v2, 4, dl ++ Rd.four 3, rfl, rfl, by omega, hl2, ho2, hb.trans b2, HN⟩
        case measure => simp [intOf]
      · have HN : Hid (dl ++ Rd.four y = Rd.soaTo n x y 5) := Lib.hid (by rw [hh.out]; rfl)
        have hl2 : (dl ++ Rd.four y).length ≤ 90021 := by rw [HN.out]; have := HS.out 5 (by omega); omega
        have ix := idx4 x y wr
        clear hh
        go_wp2_with (go_at_call 56; refine (appendFourG_any y dl _ _ _ (by omega) (by omega) ho hwr (by omega)).mono ?_; rintro e w2 ⟨v2, rfl, ho2, b2⟩)
        go_roundw
        case rel => exact ⟨v2, 5, dl ++ Rd.four y, rfl, rfl, by omega, hl2, ho2, hb.trans b2, HN⟩
        case measure => simp [intOf]
end Go.Proofs.YtnnoooecbbkggaaDoor
