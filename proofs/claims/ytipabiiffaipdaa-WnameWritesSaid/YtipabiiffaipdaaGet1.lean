/- endOfLabels, target, Or: the parts of Get. -/
import Derived.Test.YtipabiiffaipdaaGetMath
import Derived.Test.YtipabiiffaipdaaPlaces
import Derived.Laws.BitsLemmas
namespace Go.Proofs.Ytipabiiffaipdaa
open Go.RowKit Go.Shelf
attribute [local go_sem] Oper.semAt_some

def pairRet (x : Option Nat) : Value := match x with
  | some e => .tuple #[.int .i64 (e : Int), .bool true]
  | none => .tuple #[.int .i64 0, .bool false]
def eolI (b : List UInt8) (z : Int) : Option Nat := if z < 0 then none else Wn.eol b z.toNat
theorem eolI_nat (b : List UInt8) (k : Nat) : eolI b (k : Int) = Wn.eol b k := by
  unfold eolI; rw [if_neg (by omega)]; rfl
theorem bneN {a b : UInt8} (h : a.toNat ≠ b.toNat) : ((a.toNat : Int) == (b.toNat : Int)) = false := nbeqI (fun e => h (by rw [e]))

set_option maxRecDepth 100000 in
set_option maxHeartbeats 1000000 in
theorem endl_any (b : List UInt8) (bv : Value) (z : Int) (w : World) (hr : ReadB bv b w) (hlen : b.length ≤ 100000) (hz1 : -9223372036854775808 ≤ z) (hz2 : z ≤ 9223372036854775807) :
    Calls Try.prog 28 #[bv, .int .i64 z] w fun e w' => e = .returned (pairRet (eolI b z)) ∧ w = w' := by
  obtain ⟨ao, cap, rfl, hc⟩ := hr.form
  by_cases hneg : z < 0
  · have H : Hid (eolI b z = none) := Lib.hid (if_pos hneg)
    go_enter Try.func28, Try.ntmps28
    go_wp2
    go_loop [1] (fun i => i = .int .i64 z) (fun _ => 0)
    case atStart => rfl
    case round =>
      obtain rfl := hrel
      go_wp2
      go_ret2
      exact ⟨by rw [H.out]; rfl, rfl⟩
  · obtain ⟨p, rfl⟩ := Int.eq_ofNat_of_zero_le (by omega : 0 ≤ z)
    obtain ⟨x, hx⟩ : ∃ x, Wn.eol b p = x := ⟨_, rfl⟩
    have HR : Hid (pairRet (eolI b (p : Int)) = pairRet x) := Lib.hid (by rw [eolI_nat, hx])
    have HC := Lib.hid hc
    have HX := Lib.hid hx
    clear hc hx hneg
    go_enter Try.func28, Try.ntmps28
    go_wp2
    go_loop [1] (fun i => ∃ k : Nat, i = .int .i64 (k : Int) ∧ k ≤ 9223372036854775807 ∧ Hid (Wn.eol b k = x)) (fun i => b.length + 1 - (intOf i).toNat)
    case atStart => exact ⟨p, rfl, by omega, HX⟩
    case round =>
      obtain ⟨k, rfl, hk, hh⟩ := hrel
      have h0k : 0 ≤ (k : Int) := by omega
      by_cases hlt : k < b.length
      · obtain ⟨g, off, rfl, c1⟩ := HC.out k hlt
        unfold encB at c1
        have E1 := Lib.hid (fun h => Wn.eol_end (b := b) hlt h)
        have E2 := Lib.hid (fun h h' => Wn.eol_bad (b := b) hlt h h')
        have E3 := Lib.hid (fun h h' => Wn.eol_step (b := b) hlt h h')
        obtain ⟨c, hcc⟩ : ∃ c, c = b[k] := ⟨_, rfl⟩
        rw [← hcc] at c1 E1 E2 E3
        have hc255 : c.toNat ≤ 255 := by have := c.toNat_lt; omega
        clear hcc
        by_cases h0 : c.toNat = 0
        · have t1 : ((c.toNat : Int) == 0) = true := by rw [h0]; rfl
          have HF : Hid (pairRet (eolI b (p : Int)) = .tuple #[.int .i64 (k : Int), .bool true]) := Lib.hid (by rw [HR.out, ← hh.out, E1.out (.inl h0)]; rfl)
          clear h0
          go_wp2
          go_ret2
          exact ⟨by rw [HF.out]; rfl, rfl⟩
        · have t1 : ((c.toNat : Int) == 0) = false := by rw [beq_eq_false_iff_ne]; omega
          by_cases h1 : 192 ≤ c.toNat
          · have HF : Hid (pairRet (eolI b (p : Int)) = .tuple #[.int .i64 (k : Int), .bool true]) := Lib.hid (by rw [HR.out, ← hh.out, E1.out (.inr h1)]; rfl)
            clear h0
            go_wp2
            go_ret2
            exact ⟨by rw [HF.out]; rfl, rfl⟩
          · by_cases h2 : 63 < c.toNat
            · have HF : Hid (pairRet (eolI b (p : Int)) = .tuple #[.int .i64 0, .bool false]) := Lib.hid (by rw [HR.out, ← hh.out, E2.out h2 (by omega)]; rfl)
              clear h0
              go_wp2
              go_ret2
              exact ⟨by rw [HF.out]; rfl, rfl⟩
            · have HS : Hid (Wn.eol b (k + (1 + c.toNat)) = x) := Lib.hid (by rw [← E3.out h0 (by omega)]; exact hh.out)
              clear h0
              go_wp2
              exact ⟨⟨k + (1 + c.toNat), by go_num, by omega, HS⟩, by simp [intOf]; omega⟩
      · have HF : Hid (pairRet (eolI b (p : Int)) = .tuple #[.int .i64 0, .bool false]) := Lib.hid (by rw [HR.out, ← hh.out, Wn.eol_none (by omega)]; rfl)
        go_wp2
        go_ret2
        exact ⟨by rw [HF.out]; rfl, rfl⟩

theorem andNot192 : ∀ c : Fin 256, 192 ≤ c.val → bits .andNot .u8 (c.val : Int) 192 = (c.val : Int) - 192 := by decide +kernel
theorem wraps_i64 (n : Int) (h₀ : 0 ≤ n) (h₁ : n < 2 ^ 62) : IntKind.i64.wrap n = n := by rw [IntKind.wrap_i64]; omega
theorem or256 (x y : Int) (h0 : 0 ≤ x) (h1 : x % 256 = 0) (h2 : x < 1000000) (h3 : 0 ≤ y) (h4 : y < 256) : bits .or .i64 x y = x + y :=
  bits_join .i64 62 (by decide) wraps_i64 8 x y h0 h1 (by omega) h3 h4 (by omega)
theorem target_ret {c d : UInt8} (h : 192 ≤ c.toNat) (hc : c.toNat ≤ 255) (hd : d.toNat ≤ 255) :
    Ending.returned (.tuple #[.int .i64 (bits .or .i64 (wrap64 (wrap64 (bits .andNot .u8 (c.toNat : Int) 192) * 256)) (d.toNat : Int)), .bool true]) = .returned (pairRet (some ((c.toNat - 192) * 256 + d.toNat))) := by
  have e : bits .or .i64 (wrap64 (wrap64 (bits .andNot .u8 (c.toNat : Int) 192) * 256)) (d.toNat : Int) = (((c.toNat - 192) * 256 + d.toNat : Nat) : Int) := by
    have h1 := andNot192 ⟨c.toNat, by omega⟩ h
    rw [h1, show wrap64 ((c.toNat : Int) - 192) = (c.toNat : Int) - 192 by unfold wrap64; omega, show wrap64 (((c.toNat : Int) - 192) * 256) = ((c.toNat : Int) - 192) * 256 by unfold wrap64; omega,
      or256 _ _ (by omega) (by omega) (by omega) (by omega) (by omega)]
    omega
  rw [e]; rfl

set_option maxRecDepth 100000 in
set_option maxHeartbeats 1000000 in
theorem target_any (b : List UInt8) (bv : Value) (k : Nat) (w : World) (hr : ReadB bv b w) (hlen : b.length ≤ 100000) (hk : k < b.length) (h192 : 192 ≤ b[k].toNat) :
    Calls Try.prog 30 #[bv, .int .i64 (k : Int)] w fun e w' => e = .returned (pairRet (Wn.ptr b k)) ∧ Drew w w' := by
  obtain ⟨ao, cap, rfl, hc⟩ := hr.form
  by_cases hlt : k + 1 < b.length
  · obtain ⟨g, off, rfl, c1⟩ := hc k hk
    obtain ⟨g2, off2, e2, c2⟩ := hc (k + 1) hlt
    cases e2
    unfold encB at c1 c2
    have HP := Lib.hid (Wn.ptr_some hlt)
    obtain ⟨c, hcc⟩ : ∃ c, c = b[k] := ⟨_, rfl⟩
    obtain ⟨d, hd⟩ : ∃ d, d = b[k + 1] := ⟨_, rfl⟩
    rw [← hcc] at c1 HP h192
    rw [← hd] at c2 HP
    have hc255 : c.toNat ≤ 255 := by have := c.toNat_lt; omega
    have hd255 : d.toNat ≤ 255 := by have := d.toNat_lt; omega
    clear hc hcc hd
    go_enter Try.func30, Try.ntmps30
    go_wp2
    go_quiet (fail)
    go_wp2
    go_ret2
    refine ⟨?_, ⟨_, rfl⟩⟩
    rw [HP.out]
    exact target_ret h192 hc255 hd255
  · have H : Hid (pairRet (Wn.ptr b k) = .tuple #[.int .i64 0, .bool false]) := Lib.hid (by rw [Wn.ptr_none (by omega)]; rfl)
    go_enter Try.func30, Try.ntmps30
    go_wp2
    go_ret2
    exact ⟨by rw [H.out]; rfl, Drew.refl _⟩

/-- The first one that is not 0. -/
def orI : List Int → Int
  | [] => 0
  | x :: r => if x = 0 then orI r else x

set_option maxRecDepth 100000 in
set_option maxHeartbeats 1000000 in
theorem or_any (zs : List Int) (v : Value) (w : World) (hr : ReadI v zs w) (hlen : zs.length ≤ 100000) :
    Calls Try.prog 29 #[v] w fun e w' => e = .returned (.int .i64 (orI zs)) ∧ w = w' := by
  obtain ⟨ao, cap, rfl, hc⟩ := hr.form
  obtain ⟨x, hx⟩ : ∃ x, orI zs = x := ⟨_, rfl⟩
  rw [hx]
  have HC := Lib.hid hc
  have HX := Lib.hid hx
  clear hc hx
  go_enter Try.func29, Try.ntmps29
  go_wp2
  go_loop [8] (fun i => ∃ k : Nat, k ≤ zs.length ∧ i = .int .i64 (k : Int) ∧ Hid (orI (zs.drop k) = x)) (fun i => zs.length + 1 - (intOf i).toNat)
  case atStart => exact ⟨0, by omega, rfl, HX⟩
  case round =>
    obtain ⟨k, hk, rfl, hh⟩ := hrel
    by_cases hlt : k < zs.length
    · obtain ⟨g, off, rfl, c1⟩ := HC.out k hlt
      have hst := hh.out
      rw [List.drop_eq_getElem_cons hlt, orI] at hst
      obtain ⟨y, hy⟩ : ∃ y, y = zs[k] := ⟨_, rfl⟩
      rw [← hy] at c1 hst
      clear hy hh
      by_cases h0 : y = 0
      · rw [if_pos h0] at hst
        have HN := Lib.hid hst
        subst h0
        clear hst
        go_wp2
        exact ⟨⟨k + 1, by omega, by go_num, HN⟩, by simp [intOf]; omega⟩
      · rw [if_neg h0] at hst
        have HF := Lib.hid hst
        have t1 : (y != 0) = true := by rw [bne_iff_ne]; exact h0
        clear h0 hst
        go_wp2
        go_ret
        exact ⟨ret_int HF.out, rfl⟩
    · have hst := hh.out
      rw [List.drop_of_length_le (by omega), orI] at hst
      have HF := Lib.hid hst
      clear hst hh
      go_wp2
      go_ret
      exact ⟨ret_int HF.out, rfl⟩
end Go.Proofs.Ytipabiiffaipdaa
