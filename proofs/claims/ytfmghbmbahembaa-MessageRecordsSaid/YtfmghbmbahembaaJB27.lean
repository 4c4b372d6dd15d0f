/- 2 texts put together: RGet, RTwo. -/
import Derived.Test.YtfmghbmbahembaaJB10
import Derived.Test.YtfmghbmbahembaaJB14
import Derived.Test.YtfmghbmbahembaaJB16
import Derived.Test.YtfmghbmbahembaaJB24
/- The document's own Get (freshetref1). -/
namespace Go.Proofs.Ytfmghbmbahembaa
open Go.RowKit Go.Shelf
attribute [local go_sem] Oper.semAt_some

namespace Wn
/-- What is read from a on, within the part that began at fr. -/
def getA (b : List UInt8) (fr a : Nat) : Option (List UInt8 × Nat) := match eol b a with
  | none => none
  | some e => if b[e]?.getD 0 = 0 then some (part b a e ++ [0], e + 1) else match ptr b e with
    | none => none
    | some t => if t < fr then (getU b t).map (fun r => (part b a e ++ r.1, e + 2)) else none
theorem getA_self (b : List UInt8) (p : Nat) : getA b p p = getU b p := by
  unfold getA
  cases h : eol b p with
  | none => rw [getU_none h]
  | some e =>
    obtain ⟨_, he, _⟩ := eol_some h
    simp only
    rw [List.getElem?_eq_getElem he, Option.getD_some]
    split
    · rename_i h0; rw [getU_zero h he h0]
    · rename_i h0
      rw [getU_ptr h he h0]
      cases ptr b e <;> rfl
theorem fin_over {R : List UInt8} {nk : Nat} {r : Option (List UInt8 × Nat)} (h : 255 < R.length) : fin R nk r = none := by
  cases r with
  | none => rfl
  | some r => exact fin_no (by rw [List.length_append]; omega)
theorem getA_none {b : List UInt8} {fr a : Nat} (h : eol b a = none) : getA b fr a = none := by unfold getA; rw [h]
theorem part_self (b : List UInt8) (a : Nat) : part b a a = [] := by unfold part; simp
theorem getA_zero {b : List UInt8} {fr a : Nat} (h : a < b.length) (h0 : b[a].toNat = 0) : getA b fr a = some ([0], a + 1) := by
  unfold getA
  rw [eol_end h (.inl h0)]
  simp only
  rw [List.getElem?_eq_getElem h, Option.getD_some, if_pos (by rw [← UInt8.toNat_inj]; exact h0), part_self]
  rfl
theorem getA_ptr {b : List UInt8} {fr a : Nat} (h : a < b.length) (h0 : 192 ≤ b[a].toNat) : getA b fr a = match ptr b a with
    | none => none
    | some t => if t < fr then (getU b t).map (fun r => (r.1, a + 2)) else none := by
  unfold getA
  rw [eol_end h (.inr h0)]
  simp only
  rw [List.getElem?_eq_getElem h, Option.getD_some, if_neg (by intro e; rw [e] at h0; simp at h0), part_self]
  rfl
theorem part_step {b : List UInt8} {a m e : Nat} (h1 : a ≤ m) (h2 : m ≤ e) : part b a e = part b a m ++ part b m e := by
  unfold part
  conv => lhs; rw [← List.take_append_drop (m - a) ((b.drop a).take (e - a))]
  rw [List.take_take, List.drop_take, List.drop_drop, show min (m - a) (e - a) = m - a by omega, show a + (m - a) = m by omega, show e - a - (m - a) = e - m by omega]
theorem fin_app {R P : List UInt8} {nk : Nat} {x : Option (List UInt8 × Nat)} : fin R nk (x.map fun r => (P ++ r.1, r.2)) = fin (R ++ P) nk x := by
  cases x with
  | none => rfl
  | some r => simp only [Option.map_some, fin, List.append_assoc]
theorem getA_step {b : List UInt8} {fr a : Nat} (h : a < b.length) (h0 : b[a].toNat ≠ 0) (h1 : b[a].toNat ≤ 63) : getA b fr a = (getA b fr (a + (1 + b[a].toNat))).map fun r => (part b a (a + (1 + b[a].toNat)) ++ r.1, r.2) := by
  unfold getA
  rw [eol_step h h0 h1]
  cases he : eol b (a + (1 + b[a].toNat)) with
  | none => rfl
  | some e =>
    obtain ⟨hle, hlt, _⟩ := eol_some he
    simp only
    rw [part_step (m := a + (1 + b[a].toNat)) (by omega) hle]
    split
    · simp
    · cases ptr b e with
      | none => rfl
      | some t =>
        simp only
        split
        · cases getU b t with
          | none => rfl
          | some r => simp
        · rfl
theorem fin_next {R : List UInt8} {nk a : Nat} {x : Option (List UInt8 × Nat)} : fin R nk (x.map fun r => (r.1, a + 2)) = fin R (if nk = 0 then a + 2 else nk) x := by
  cases x with
  | none => rfl
  | some r =>
    simp only [Option.map_some, fin]
    by_cases hn : nk = 0
    · simp [hn]
    · simp [hn]
end Wn

def rgetRet : Option (List UInt8 × Nat) → Value
  | some (n, k) => .tuple #[.string ⟨n.toArray⟩, .int .i64 (k : Int), .bool true]
  | none => .tuple #[.string ⟨#[]⟩, .int .i64 0, .bool false]
def nxI (nk : Nat) : Int := if nk = 0 then -1 else nk

set_option maxRecDepth 100000 in
set_option maxHeartbeats 4000000 in
theorem rget_any (b : List UInt8) (bv : Value) (z : Int) (w : World) (hr : ReadB bv b w) (hcap : ∀ ao n c, bv = .slice ao n c → n ≤ c) (hlen : b.length ≤ 100000) (hz1 : -9223372036854775808 ≤ z) (hz2 : z ≤ 9223372036854775807) :
    Calls Try.prog 29 #[bv, .int .i64 z] w fun e w' => e = .returned (rgetRet (Wn.get b z)) ∧ w = w' := by
  obtain ⟨G, hG⟩ : ∃ G, Wn.get b z = G := ⟨_, rfl⟩
  rw [hG]
  have hr' := hr
  obtain ⟨ao, cap, rfl, hcell⟩ := hr.form
  by_cases hneg : z < 0
  · obtain rfl : G = none := by rw [← hG, Wn.get_neg hneg]
    clear hG hcell
    go_enter Try.func29, Try.ntmps29
    go_wp2
    go_loop [1] (fun a => a = .int .i64 z) (fun _ => 0)
    case atStart => rfl
    case round =>
      obtain rfl := hrel
      go_wp2
      go_ret3
      exact ⟨rfl, rfl⟩
  · obtain ⟨p0, rfl⟩ := Int.eq_ofNat_of_zero_le (by omega : 0 ≤ z)
    rw [Wn.get_nat, ← Wn.getA_self] at hG
    have HG := Lib.hid hG
    have HCELL := Lib.hid hcell
    have HR := Lib.hid hr'
    have HCAP := Lib.hid hcap
    clear hr hr' hG hneg hcell hcap
    go_enter Try.func29, Try.ntmps29
    go_wp2
    go_loop [1, 7, 8, 9] (fun at' s nx fr => ∃ (a p nk : Nat) (R : List UInt8), at' = .int .i64 (a : Int) ∧ s = .string ⟨R.toArray⟩ ∧ nx = .int .i64 (nxI nk) ∧ fr = .int .i64 (p : Int) ∧ R.length ≤ 400 ∧ a ≤ 9223372036854775807 ∧ p ≤ 9223372036854775807 ∧ nk ≤ 100002 ∧ Hid (Wn.fin R nk (Wn.getA b p a) = G)) (fun at' _ _ fr => (intOf fr).toNat * (b.length + 1) + (b.length - (intOf at').toNat))
    case atStart => exact ⟨p0, p0, 0, [], rfl, rfl, rfl, rfl, by simp, by omega, by omega, by omega, HG⟩
    case round =>
      obtain ⟨a, p, nk, R, rfl, rfl, rfl, rfl, hR, ha, hp, hnk, hh⟩ := hrel
      have ha0 : 0 ≤ (a : Int) := by omega
      by_cases hlt : a < b.length
      · obtain ⟨g, off, rfl, c1⟩ := HCELL.out a hlt
        obtain ⟨c, hcc⟩ : ∃ c, c = b[a] := ⟨_, rfl⟩
        rw [← hcc] at c1
        replace c1 : w.cell? ⟨g, off + a, none⟩ = some (.int .u8 (c.toNat : Int)) := c1
        have hc255 : c.toNat ≤ 255 := by have := c.toNat_lt; omega
        have HCC := Lib.hid hcc
        clear hcc
        by_cases h0 : c.toNat = 0
        · have hg := hh.out
          rw [Wn.getA_zero hlt (by rw [← HCC.out]; exact h0)] at hg
          have t1 : ((c.toNat : Int) == 0) = true := by rw [h0]; rfl
          have e1 := app_bytes R [0]
          have hl1 : (R ++ [0]).length = R.length + 1 := by simp
          have HL1 := Lib.hid hl1
          clear h0 hl1
          by_cases hbig : 255 < R.length + 1
          · rw [Wn.fin_no (by simp; omega)] at hg
            obtain rfl := hg
            by_cases hn0 : nk = 0
            · subst hn0
              have hx : nxI 0 < 0 := by decide
              go_wp2
              go_ret3
              exact ⟨rfl, rfl⟩
            · have hx : ¬ nxI nk < 0 := by unfold nxI; rw [if_neg hn0]; omega
              go_wp2
              go_ret3
              exact ⟨rfl, rfl⟩
          · rw [Wn.fin_yes (by simp; omega)] at hg
            have HGE := Lib.hid hg
            clear hg
            by_cases hn0 : nk = 0
            · subst hn0
              have hx : nxI 0 < 0 := by decide
              go_wp2
              go_ret3
              exact ⟨by rw [← HGE.out]; rfl, rfl⟩
            · have hx : ¬ nxI nk < 0 := by unfold nxI; rw [if_neg hn0]; omega
              have HRET : Hid (rgetRet G = .tuple #[.string ⟨(R ++ [0]).toArray⟩, .int .i64 (nxI nk), .bool true]) := Lib.hid (by rw [← HGE.out, if_neg hn0]; unfold nxI; rw [if_neg hn0]; rfl)
              clear hn0
              go_wp2
              go_ret3
              exact ⟨by rw [HRET.out]; rfl, rfl⟩
        · have t1 : ((c.toNat : Int) == 0) = false := by rw [beq_eq_false_iff_ne]; omega
          by_cases h192 : 192 ≤ c.toNat
          · have hg := hh.out
            rw [Wn.getA_ptr hlt (by rw [← HCC.out]; exact h192)] at hg
            have HGG := Lib.hid hg
            clear h0 hg
            by_cases hl1 : a + 1 < b.length
            · have hpt := Wn.ptr_some hl1
              obtain ⟨g', off', e', c2⟩ := HCELL.out (a + 1) hl1
              cases e'
              obtain ⟨d, hdd⟩ : ∃ d, d = b[a + 1] := ⟨_, rfl⟩
              rw [← hdd] at c2 hpt
              replace c2 : w.cell? ⟨g, off + (a + 1), none⟩ = some (.int .u8 (d.toNat : Int)) := c2
              have hd255 : d.toNat ≤ 255 := by have := d.toNat_lt; omega
              rw [← HCC.out] at hpt
              obtain ⟨t, htt⟩ : ∃ t, t = (c.toNat - 192) * 256 + d.toNat := ⟨_, rfl⟩
              rw [← htt] at hpt
              have HPT := Lib.hid hpt
              have HTT := Lib.hid htt
              by_cases htp : (p : Int) ≤ ((c.toNat : Int) - 192) * 256 + (d.toNat : Int)
              · obtain rfl : G = none := by rw [← HGG.out, HPT.out]; simp only; rw [if_neg (by omega)]; rfl
                clear hdd hpt htt
                by_cases hn0 : nk = 0
                · subst hn0
                  have hx : nxI 0 < 0 := by decide
                  go_wp2
                  go_ret3
                  exact ⟨rfl, rfl⟩
                · have hx : ¬ nxI nk < 0 := by unfold nxI; rw [if_neg hn0]; omega
                  clear hn0
                  go_wp2
                  go_ret3
                  exact ⟨rfl, rfl⟩
              · have hst : Wn.fin R (if nk = 0 then a + 2 else nk) (Wn.getA b t t) = G := by
                  rw [← HGG.out, HPT.out]; simp only; rw [if_pos (show t < p by omega), Wn.fin_next, Wn.getA_self]
                have hmul : t * (b.length + 1) + (b.length + 1) ≤ p * (b.length + 1) := by
                  rw [← Nat.succ_mul]; exact Nat.mul_le_mul_right _ (by omega)
                have HST := Lib.hid hst
                have HMUL := Lib.hid hmul
                clear hst hmul hdd hpt htt
                by_cases hn0 : nk = 0
                · subst hn0
                  have hx : nxI 0 < 0 := by decide
                  go_wp2
                  refine ⟨⟨t, t, a + 2, R, by rw [HTT.out]; congr 1; omega, rfl, by unfold nxI; rw [if_neg (by omega)]; congr 1, by rw [HTT.out]; congr 1; omega, hR, by have := HTT.out; omega, by have := HTT.out; omega, by omega, HST⟩, ?_⟩
                  simp only [intOf]
                  have h1 := HMUL.out
                  have h2 : (((c.toNat : Int) - 192) * 256 + (d.toNat : Int)).toNat = t := by have := HTT.out; omega
                  rw [h2, Int.toNat_natCast, Int.toNat_natCast]
                  omega
                · have hx : ¬ nxI nk < 0 := by unfold nxI; rw [if_neg hn0]; omega
                  have HN0 := Lib.hid hn0
                  clear hn0
                  go_wp2
                  refine ⟨⟨t, t, nk, R, by rw [HTT.out]; congr 1; omega, rfl, rfl, by rw [HTT.out]; congr 1; omega, hR, by have := HTT.out; omega, by have := HTT.out; omega, hnk, ?_⟩, ?_⟩
                  · have := HST.out
                    rw [if_neg HN0.out] at this
                    exact Lib.hid this
                  · simp only [intOf]
                    have h1 := HMUL.out
                    have h2 : (((c.toNat : Int) - 192) * 256 + (d.toNat : Int)).toNat = t := by have := HTT.out; omega
                    rw [h2, Int.toNat_natCast, Int.toNat_natCast]
                    omega
            · obtain rfl : G = none := by rw [← HGG.out, Wn.ptr_none (by omega)]; rfl
              go_wp2
              go_ret3
              exact ⟨rfl, rfl⟩
          · by_cases hbad : 63 < c.toNat ∨ b.length < a + 1 + c.toNat ∨ 255 < R.length
            · obtain rfl : G = none := by
                rw [← hh.out]
                by_cases h3 : 255 < R.length
                · exact Wn.fin_over h3
                · by_cases h4 : 63 < c.toNat
                  · rw [Wn.getA_none (Wn.eol_bad hlt (by rw [← HCC.out]; exact h4) (by rw [← HCC.out]; omega))]; rfl
                  · rw [Wn.getA_none (by rw [Wn.eol_step hlt (by rw [← HCC.out]; exact h0) (by rw [← HCC.out]; omega), ← HCC.out, Wn.eol_none (by omega)])]; rfl
              have hcase : 63 < c.toNat ∨ (c.toNat ≤ 63 ∧ b.length < a + 1 + c.toNat) ∨ (c.toNat ≤ 63 ∧ a + 1 + c.toNat ≤ b.length ∧ 255 < R.length) := by omega
              clear hbad h0
              rcases hcase with h3 | ⟨h3, h4⟩ | ⟨h3, h4, h5⟩
              all_goals
                go_wp2
                go_ret3
                exact ⟨rfl, rfl⟩
            · have h3 : c.toNat ≤ 63 := by omega
              have h4 : a + 1 + c.toNat ≤ b.length := by omega
              have h5 : R.length ≤ 255 := by omega
              have hst := hh.out
              rw [Wn.getA_step hlt (by rw [← HCC.out]; exact h0) (by rw [← HCC.out]; exact h3), Wn.fin_app, ← HCC.out] at hst
              obtain ⟨pv, hpv, hpr⟩ := run_part HR.out HCAP.out (p := a) (e := a + 1 + c.toNat) (by omega) h4
              have hpe : (b.drop a).take (a + 1 + c.toNat - a) = Wn.part b a (a + (1 + c.toNat)) := by unfold Wn.part; congr 1; omega
              rw [hpe] at hpr
              obtain ⟨P, hP⟩ : ∃ P, P = Wn.part b a (a + (1 + c.toNat)) := ⟨_, rfl⟩
              have hPl : P.length = 1 + c.toNat := by rw [hP, Wn.part_length (by omega)]; omega
              rw [← hP] at hpr hst
              have hcv := run_read_str hpr
              have happ := app_bytes R P
              have hpv' : ∀ W, (Instr.slice 22 (.slice (some ⟨g, off, none⟩) b.length cap) (some (.int .i64 (a : Int))) (some (.int .i64 ((a : Int) + 1 + (c.toNat : Int)))) none).run Try.prog W = .ok pv W := fun W => by have := hpv W; rw [show ((a + 1 + c.toNat : Nat) : Int) = (a : Int) + 1 + (c.toNat : Int) by omega] at this; exact this
              have HST := Lib.hid hst
              have hPle : P.length ≤ 64 := by omega
              have HPL := Lib.hid hPl
              clear hpv hpe hP hPl hpr hst h0 hbad
              go_wp2
              refine ⟨⟨a + (1 + c.toNat), p, nk, R ++ P, by rw [show (a : Int) + 1 + (c.toNat : Int) = ((a + (1 + c.toNat) : Nat) : Int) by omega], rfl, rfl, rfl, by rw [List.length_append, HPL.out]; omega, by omega, hp, hnk, HST⟩, ?_⟩
              simp only [intOf]
              rw [Int.toNat_natCast, Int.toNat_natCast]
              have h6 : ((a : Int) + 1 + (c.toNat : Int)).toNat = a + 1 + c.toNat := by omega
              rw [h6]
              omega
      · obtain rfl : G = none := by rw [← hh.out, Wn.getA_none (Wn.eol_none (by omega))]; rfl
        go_wp2
        go_ret3
        exact ⟨rfl, rfl⟩
end Go.Proofs.Ytfmghbmbahembaa

/- The document's own two: a number of two bytes. -/
namespace Go.Proofs.Ytfmghbmbahembaa
open Go.RowKit Go.Shelf
attribute [local go_sem] Oper.semAt_some

def twoV (o : Option Nat) : Value := .tuple #[.int .i64 ((o.getD 0 : Nat) : Int), .bool o.isSome]
theorem num2_eq (a b : UInt8) : bits .or .i64 (wrap64 (wrap64 (a.toNat : Int) * 256)) (wrap64 (b.toNat : Int)) = ((a.toNat * 256 + b.toNat : Nat) : Int) := by
  have ha := a.toNat_lt
  have hb := b.toNat_lt
  have e : ∀ z : Int, 0 ≤ z → z < 1099511627776 → wrap64 z = z := fun z h0 h1 => by unfold wrap64; omega
  rw [e (a.toNat : Int) (by omega) (by omega), e (b.toNat : Int) (by omega) (by omega), e _ (by omega) (by omega)]
  rw [or8 ((a.toNat : Int) * 256) (b.toNat : Int) (by omega) (by omega) (by omega) (by omega) (by omega)]
  omega

set_option maxRecDepth 100000 in
set_option maxHeartbeats 2000000 in
theorem rtwo_any (b : List UInt8) (bv : Value) (k : Nat) (w : World) (hr : ReadB bv b w) (hlen : b.length ≤ 100000) (hk : k ≤ 1000000) :
    Calls Try.prog 28 #[bv, .int .i64 (k : Int)] w fun e w' => e = .returned (twoV (Ms.two? b k)) ∧ Drew w w' := by
  obtain ⟨ao, cap, rfl, hcell⟩ := hr.form
  by_cases h : k + 2 ≤ b.length
  · obtain ⟨g, f, rfl, c0⟩ := hcell k (by omega)
    obtain ⟨g', f', e', c1⟩ := hcell (k + 1) (by omega)
    cases e'
    have H : Hid (Ms.two? b k = some (b[k].toNat * 256 + b[k + 1].toNat)) := Lib.hid (by
      unfold Ms.two?
      rw [List.getElem?_eq_getElem (show k < b.length by omega), List.getElem?_eq_getElem (show k + 1 < b.length by omega)])
    obtain ⟨x, hx⟩ : ∃ x, b[k] = x := ⟨_, rfl⟩
    obtain ⟨y, hy⟩ : ∃ x, b[k + 1] = x := ⟨_, rfl⟩
    rw [hx] at c0 H
    rw [hy] at c1 H
    unfold encB at c0 c1
    clear hx hy hcell hr
    go_enter Try.func28, Try.ntmps28
    go_wp2
    go_quiet (fail)
    go_wp2
    go_ret2
    exact ⟨by rw [H.out, num2_eq]; rfl, ⟨nq, rfl⟩⟩
  · have H : Hid (Ms.two? b k = none) := Lib.hid (by
      unfold Ms.two?
      cases b[k]? with
      | none => rfl
      | some x => rw [List.getElem?_eq_none (by omega)])
    clear hcell hr
    go_enter Try.func28, Try.ntmps28
    go_wp2
    go_ret2
    exact ⟨by rw [H.out]; rfl, Drew.refl w⟩
end Go.Proofs.Ytfmghbmbahembaa
