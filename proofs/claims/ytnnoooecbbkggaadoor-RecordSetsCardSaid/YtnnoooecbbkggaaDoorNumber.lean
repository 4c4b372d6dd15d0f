/- Numbers of four bytes: number, four, appendFour. -/
import Derived.Test.YtnnoooecbbkggaaDoorCheck
import Derived.Laws.OwnMore
namespace Go.Proofs.YtnnoooecbbkggaaDoor
open Go.RowKit Go.Shelf
attribute [local go_sem] Oper.semAt_some

theorem wraps_i64 (n : Int) (h0 : 0 ≤ n) (h1 : n < 2 ^ 62) : IntKind.i64.wrap n = n := by rw [IntKind.wrap_i64]; omega
theorem or8 (x y : Int) (h0 : 0 ≤ x) (h1 : x % 256 = 0) (h2 : x < 1099511627776) (h3 : 0 ≤ y) (h4 : y < 256) : bits .or .i64 x y = x + y :=
  bits_join .i64 62 (by decide) wraps_i64 8 x y h0 h1 (by omega) h3 h4 (by omega)
theorem or16 (x y : Int) (h0 : 0 ≤ x) (h1 : x % 65536 = 0) (h2 : x < 1099511627776) (h3 : 0 ≤ y) (h4 : y < 65536) : bits .or .i64 x y = x + y :=
  bits_join .i64 62 (by decide) wraps_i64 16 x y h0 h1 (by omega) h3 h4 (by omega)
theorem or24 (x y : Int) (h0 : 0 ≤ x) (h1 : x % 16777216 = 0) (h2 : x < 1099511627776) (h3 : 0 ≤ y) (h4 : y < 16777216) : bits .or .i64 x y = x + y :=
  bits_join .i64 62 (by decide) wraps_i64 24 x y h0 h1 (by omega) h3 h4 (by omega)

theorem num4_eq (a b c d : UInt8) : bits .or .i64 (bits .or .i64 (bits .or .i64 (wrap64 (wrap64 (a.toNat : Int) * 16777216)) (wrap64 (wrap64 (b.toNat : Int) * 65536))) (wrap64 (wrap64 (c.toNat : Int) * 256))) (wrap64 (d.toNat : Int)) = (Rd.num4 a b c d : Int) := by
  have ha := a.toNat_lt
  have hb := b.toNat_lt
  have hc := c.toNat_lt
  have hd := d.toNat_lt
  have e : ∀ z : Int, 0 ≤ z → z < 1099511627776 → wrap64 z = z := fun z h0 h1 => by unfold wrap64; omega
  rw [e (a.toNat : Int) (by omega) (by omega), e (b.toNat : Int) (by omega) (by omega), e (c.toNat : Int) (by omega) (by omega), e (d.toNat : Int) (by omega) (by omega)]
  rw [e _ (by omega) (by omega), e _ (by omega) (by omega), e _ (by omega) (by omega)]
  rw [or24 ((a.toNat : Int) * 16777216) ((b.toNat : Int) * 65536) (by omega) (by omega) (by omega) (by omega) (by omega), or16 ((a.toNat : Int) * 16777216 + (b.toNat : Int) * 65536) ((c.toNat : Int) * 256) (by omega) (by omega) (by omega) (by omega) (by omega), or8 _ _ (by omega) (by omega) (by omega) (by omega) (by omega)]
  unfold Rd.num4
  omega

set_option maxRecDepth 100000 in
set_option maxHeartbeats 1000000 in
theorem number_any (a b c d : UInt8) (w : World) :
    Calls Tryd.prog 48 #[.string ⟨#[a, b, c, d]⟩] w fun e w' => e = .returned (.int .i64 (Rd.num4 a b c d : Int)) ∧ Drew w w' := by
  have ha := a.toNat_lt
  have hb := b.toNat_lt
  have hc := c.toNat_lt
  have hd := d.toNat_lt
  go_enter Tryd.func48, Tryd.ntmps48
  go_wp2
  go_quiet (fail)
  go_wp2
  go_ret
  exact ⟨ret_int (num4_eq a b c d), ⟨nq, rfl⟩⟩

theorem bytes_four (v : Int) : (Rd.four v).map encB = [.int .u8 (v / 16777216 % 256), .int .u8 (v / 65536 % 256), .int .u8 (v / 256 % 256), .int .u8 (v % 256)] := by
  have e : ∀ z : Int, encB (UInt8.ofNat (z % 256).toNat) = .int .u8 (z % 256) := fun z => by
    unfold encB
    rw [UInt8.toNat_ofNat', Nat.mod_eq_of_lt (by omega), Int.toNat_of_nonneg (by omega)]
  simp only [Rd.four, List.map_cons, List.map_nil, e]

set_option maxRecDepth 100000 in
set_option maxHeartbeats 1000000 in
theorem four_any (v : Int) (w : World) (_h0 : -9223372036854775808 ≤ v) (_h1 : v ≤ 9223372036854775807) :
    Calls Tryd.prog 58 #[.int .i64 v] w fun e w' => e = .returned (.string ⟨(Rd.four v).toArray⟩) ∧ Below w.heap.size w w' := by
  have hF := bytes_four v
  obtain ⟨F, hFF⟩ : ∃ F, Rd.four v = F := ⟨_, rfl⟩
  have hl : F.length = 4 := by rw [← hFF]; rfl
  rw [hFF] at hF ⊢
  have hst : (convert 70 9 (.slice (some ⟨w.heap.size, 0, none⟩) 4 4)).run Tryd.prog (w.alloc (.cells #[.int .u8 (v / 16777216 % 256), .int .u8 (v / 65536 % 256), .int .u8 (v / 256 % 256), .int .u8 (v % 256)] 5)) = .ok (.string ⟨F.toArray⟩) (w.alloc (.cells #[.int .u8 (v / 16777216 % 256), .int .u8 (v / 65536 % 256), .int .u8 (v / 256 % 256), .int .u8 (v % 256)] 5)) := by
    have h := run_lit_str F [.int .u8 (v / 16777216 % 256), .int .u8 (v / 65536 % 256), .int .u8 (v / 256 % 256), .int .u8 (v % 256)] hF w
    rw [hl] at h
    exact h
  clear hFF hF hl
  go_enter Tryd.func58, Tryd.ntmps58
  go_wp2
  go_ret
  exact ⟨rfl, (Below.refl _ w).alloc (Nat.le_refl _) _⟩

set_option maxRecDepth 100000 in
set_option maxHeartbeats 1000000 in
theorem appendFour_any (v : Int) (b : List UInt8) (bv : Value) (base : Nat) (w : World) (_h0 : -9223372036854775808 ≤ v) (_h1 : v ≤ 9223372036854775807) (ho : OwnE encB 5 base bv b w) (hbs : base ≤ w.heap.size) (hl : b.length ≤ 100000) :
    Calls Tryd.prog 56 #[bv, .int .i64 v] w fun e w' => ∃ v' : Value, e = .returned v' ∧ OwnE encB 5 base v' (b ++ Rd.four v) w' ∧ Below base w w' := by
  refine (callsIn_wide (n := 8)).1 ?_
  refine callsIn_of_wp Tryd.func56 rfl trivial ?_ rfl
  simp only [Tryd.ntmps56, List.size_toArray, List.length_cons, List.length_nil, Nat.reduceAdd, Nat.reduceSub, Array.replicate_succ, Array.replicate_zero, List.push_toArray, List.append_toArray, List.nil_append, List.cons_append]
  have hw : base ≤ (w.alloc (.cells #[.int .u8 (v / 16777216 % 256), .int .u8 (v / 65536 % 256), .int .u8 (v / 256 % 256), .int .u8 (v % 256)] 5)).heap.size := by simp; omega
  have HF := Lib.hid (bytes_four v)
  have hl4 : (Rd.four v).length = 4 := rfl
  gi_wp2_with (gi_at_builtin; refine wpListIn_apd _ rfl _ _ 70 rfl encB encB_one base 5 _ 1 Tryd.underlying70 infoByte rfl _ b rfl (ownE_alloc ho _) ⟨_, 0, none⟩ 4 4 (Rd.four v) rfl rfl (fun j u hj => cells_new _ [.int .u8 (v / 16777216 % 256), .int .u8 (v / 65536 % 256), .int .u8 (v / 256 % 256), .int .u8 (v % 256)] _ j u (by rw [← HF.out]; exact hj)) (by omega) (by omega) hw ?_; intro v2 w2 ho2 ha2 _; refine Hid.out ?_)
  refine Lib.hid ?_
  gi_wp2
  go_ret
  exact ⟨v2, rfl, ho2, ((Below.refl base w).alloc hbs _).trans ha2.below⟩
end Go.Proofs.YtnnoooecbbkggaaDoor
