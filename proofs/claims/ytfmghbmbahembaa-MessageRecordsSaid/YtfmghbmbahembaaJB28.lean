/- The document's own data (freshetref1): a record's data, its names read out whole. -/
import Derived.Test.YtfmghbmbahembaaJB23
import Derived.Test.YtfmghbmbahembaaJB27
/- The document's own data (freshetref1): a record's data, its names read out whole. -/
namespace Go.Proofs.Ytfmghbmbahembaa
open Go.RowKit Go.Shelf
attribute [local go_sem] Oper.semAt_some

namespace Wn
theorem get_len {b : List UInt8} {p : Nat} {x : List UInt8 × Nat} (h : get b (p : Int) = some x) : x.1.length ≤ 255 := by
  rw [get_nat] at h
  cases hu : getU b p with
  | none => rw [hu] at h; cases h
  | some y =>
    obtain ⟨m, k⟩ := y
    rw [hu] at h
    by_cases hl : ([] ++ m).length ≤ 255
    · rw [fin_yes hl] at h; cases h; exact hl
    · rw [fin_no hl] at h; cases h
end Wn
namespace Ms
theorem dl_cases (t : Int) : (t = 15 ∧ dl t = (2, 1, 0)) ∨ (t = 33 ∧ dl t = (6, 1, 0)) ∨ (t = 6 ∧ dl t = (0, 2, 20)) ∨ (t = 2 ∧ dl t = (0, 1, 0)) ∨ (t = 5 ∧ dl t = (0, 1, 0)) ∨ (t = 12 ∧ dl t = (0, 1, 0)) ∨
    (t ≠ 15 ∧ t ≠ 33 ∧ t ≠ 6 ∧ t ≠ 2 ∧ t ≠ 5 ∧ t ≠ 12 ∧ dl t = (0, 0, 0)) := by
  by_cases h1 : t = 15; · subst h1; exact .inl ⟨rfl, rfl⟩
  by_cases h2 : t = 33; · subst h2; exact .inr (.inl ⟨rfl, rfl⟩)
  by_cases h3 : t = 6; · subst h3; exact .inr (.inr (.inl ⟨rfl, rfl⟩))
  by_cases h4 : t = 2; · subst h4; exact .inr (.inr (.inr (.inl ⟨rfl, rfl⟩)))
  by_cases h5 : t = 5; · subst h5; exact .inr (.inr (.inr (.inr (.inl ⟨rfl, rfl⟩))))
  by_cases h6 : t = 12; · subst h6; exact .inr (.inr (.inr (.inr (.inr (.inl ⟨rfl, rfl⟩)))))
  refine .inr (.inr (.inr (.inr (.inr (.inr ⟨h1, h2, h3, h4, h5, h6, ?_⟩)))))
  by_cases h7 : t = 1; · subst h7; rfl
  by_cases h8 : t = 28; · subst h8; rfl
  unfold dl Rd.lay
  simp [h1, h2, h3, h4, h5, h6, h7, h8]
theorem dNames_no {b : List UInt8} {lim n k : Nat} (h : Wn.get b (k : Int) = none) : dNames b lim (n + 1) k = none := by
  simp only [dNames]; rw [h]
theorem dNames_far {b : List UInt8} {lim n k nx : Nat} {x : List UInt8} (h : Wn.get b (k : Int) = some (x, nx)) (hl : lim < nx) : dNames b lim (n + 1) k = none := by
  simp only [dNames]; rw [h]; simp only; rw [if_pos hl]
theorem dNames_yes {b : List UInt8} {lim n k nx : Nat} {x : List UInt8} (h : Wn.get b (k : Int) = some (x, nx)) (hl : nx ≤ lim) : dNames b lim (n + 1) k = (dNames b lim n nx).map (fun y => (x ++ y.1, y.2)) := by
  simp only [dNames]; rw [h]; simp only; rw [if_neg (by omega)]
/-- What is still to be read, behind what was. -/
def Ahead (b : List UInt8) (lim n k : Nat) (S : List UInt8) (G : Option (List UInt8 × Nat)) : Prop := (dNames b lim n k).map (fun y => (S ++ y.1, y.2)) = G
theorem ahead_no {b : List UInt8} {lim n k : Nat} {S : List UInt8} {G : Option (List UInt8 × Nat)} (h : Ahead b lim (n + 1) k S G) (hg : Wn.get b (k : Int) = none) : G = none := by
  rw [← h, dNames_no hg]; rfl
theorem ahead_far {b : List UInt8} {lim n k nx : Nat} {S x : List UInt8} {G : Option (List UInt8 × Nat)} (h : Ahead b lim (n + 1) k S G) (hg : Wn.get b (k : Int) = some (x, nx)) (hl : lim < nx) : G = none := by
  rw [← h, dNames_far hg hl]; rfl
theorem ahead_yes {b : List UInt8} {lim n k nx : Nat} {S x : List UInt8} {G : Option (List UInt8 × Nat)} (h : Ahead b lim (n + 1) k S G) (hg : Wn.get b (k : Int) = some (x, nx)) (hl : nx ≤ lim) : Ahead b lim n nx (S ++ x) G := by
  rw [← h]
  unfold Ahead
  rw [dNames_yes hg hl, Option.map_map]
  congr 1
  funext y
  simp
theorem ahead_end {b : List UInt8} {lim k : Nat} {S : List UInt8} {G : Option (List UInt8 × Nat)} (h : Ahead b lim 0 k S G) : G = some (S, k) := by
  rw [← h]; simp [dNames]
theorem ahead_start (b : List UInt8) (lim n k : Nat) : Ahead b lim n k [] (dNames b lim n k) := by
  unfold Ahead
  cases dNames b lim n k with
  | none => rfl
  | some y => rfl
def dEnd (b : List UInt8) (lim c : Nat) (T : List UInt8) : Option (List UInt8 × Nat) → Option (List UInt8)
  | none => none
  | some (s, e) => if e + c = lim then some (T ++ s ++ (b.drop e).take (lim - e)) else none
theorem dData_eq {b : List UInt8} {k sz A m c : Nat} {t : Int} (h : dl t = (A, m, c)) (hm : m ≠ 0) : dData b k sz t = if sz < A then none else dEnd b (k + sz) c ((b.drop k).take A) (dNames b (k + sz) m (k + A)) := by
  unfold dData
  rw [h]
  simp only
  rw [if_neg hm]
  split
  · rfl
  · cases dNames b (k + sz) m (k + A) with
    | none => rfl
    | some x => rfl
theorem dEnd_yes {b : List UInt8} {lim c e : Nat} {T s : List UInt8} (h : e + c = lim) : dEnd b lim c T (some (s, e)) = some (T ++ s ++ (b.drop e).take (lim - e)) := if_pos h
theorem dEnd_no {b : List UInt8} {lim c e : Nat} {T s : List UInt8} (h : ¬ e + c = lim) : dEnd b lim c T (some (s, e)) = none := if_neg h
end Ms

theorem rget_none : rgetRet none = .tuple #[.string ⟨#[]⟩, .int .i64 0, .bool false] := rfl
theorem rget_some (n : List UInt8) (k : Nat) : rgetRet (some (n, k)) = .tuple #[.string ⟨n.toArray⟩, .int .i64 (k : Int), .bool true] := rfl
def dataV : Option (List UInt8) → Value
  | some s => .tuple #[.string ⟨s.toArray⟩, .bool true]
  | none => .tuple #[.string ⟨#[]⟩, .bool false]

set_option maxRecDepth 100000 in
set_option maxHeartbeats 4000000 in
theorem rdata_any (b : List UInt8) (bv : Value) (k sz : Nat) (t : Int) (w : World) (hr : ReadB bv b w) (hcap : ∀ ao n c, bv = .slice ao n c → n ≤ c) (hlen : b.length ≤ 100000) (hk : k + sz ≤ b.length) :
    Calls Try.prog 31 #[bv, .int .i64 (k : Int), .int .i64 (sz : Int), .int .i64 t] w fun e w' => e = .returned (dataV (Ms.dData b k sz t)) ∧ w = w' := by
  rcases Ms.dl_cases t with ⟨rfl, hd⟩ | ⟨rfl, hd⟩ | ⟨rfl, hd⟩ | ⟨rfl, hd⟩ | ⟨rfl, hd⟩ | ⟨rfl, hd⟩ | ⟨h1, h2, h3, h4, h5, h6, hd⟩
  case inr.inr.inr.inr.inr.inr =>
    have H : Hid (Ms.dData b k sz t = some ((b.drop k).take sz)) := Lib.hid (by unfold Ms.dData; rw [hd]; rfl)
    replace h1 := beq_eq_false_iff_ne.2 h1
    replace h2 := beq_eq_false_iff_ne.2 h2
    replace h3 := beq_eq_false_iff_ne.2 h3
    replace h4 := beq_eq_false_iff_ne.2 h4
    replace h5 := beq_eq_false_iff_ne.2 h5
    replace h6 := beq_eq_false_iff_ne.2 h6
    obtain ⟨pv, hpv, hpr⟩ := run_part hr hcap (p := k) (e := k + sz) (by omega) hk
    rw [show k + sz - k = sz by omega] at hpr
    have hcv := run_read_str hpr
    replace hpv : ∀ W, (Instr.slice 22 bv (some (.int .i64 (k : Int))) (some (.int .i64 ((k : Int) + (sz : Int)))) none).run Try.prog W = .ok pv W := fun W => by have := hpv W; rwa [show ((k + sz : Nat) : Int) = (k : Int) + (sz : Int) by omega] at this
    clear hd hr hcap hpr
    go_enter Try.func31, Try.ntmps31
    go_wp2
    go_ret2
    exact ⟨by rw [H.out]; rfl, rfl⟩
  case inl =>
    have HD := Lib.hid (Ms.dData_eq (b := b) (k := k) (sz := sz) hd (by omega))
    generalize Ms.dData b k sz _ = D at HD ⊢
    by_cases hs : sz < 2
    · obtain rfl : D = none := by rw [HD.out, if_pos hs]
      clear hd hr hcap
      go_enter Try.func31, Try.ntmps31
      go_wp2
      go_ret2
      exact ⟨rfl, rfl⟩
    · obtain ⟨G, hG⟩ : ∃ G, Ms.dNames b (k + sz) 1 (k + 2) = G := ⟨_, rfl⟩
      obtain ⟨T, hT⟩ : ∃ T, T = (b.drop k).take 2 := ⟨_, rfl⟩
      replace HD : Hid (D = Ms.dEnd b (k + sz) 0 T G) := Lib.hid (by rw [HD.out, if_neg hs, hG, hT])
      have hst := Ms.ahead_start b (k + sz) 1 (k + 2)
      rw [hG] at hst
      have hTl : T.length ≤ 6 := by rw [hT, List.length_take]; omega
      obtain ⟨pv, hpv, hpr⟩ := run_part hr hcap (p := k) (e := k + 2) (by omega) (by omega)
      rw [show k + 2 - k = 2 by omega, ← hT] at hpr
      have hcv := run_read_str hpr
      replace hpv : ∀ W, (Instr.slice 22 bv (some (.int .i64 (k : Int))) (some (.int .i64 ((k : Int) + 2))) none).run Try.prog W = .ok pv W := fun W => by have := hpv W; rwa [show ((k + 2 : Nat) : Int) = (k : Int) + 2 by omega] at this
      have HST := Lib.hid hst
      have HR := Lib.hid hr
      have HCAP := Lib.hid hcap
      have C := Lib.hid (fun (p : Nat) (hp : p ≤ 100000) => rget_any b bv (p : Int) w hr hcap hlen (by omega) (by omega))
      clear hd hr hcap hpr hG hst hT
      go_enter Try.func31, Try.ntmps31
      go_wp2
      go_loop [13, 14, 15] (fun s a i => ∃ (j p : Nat) (S : List UInt8), s = .string ⟨(T ++ S).toArray⟩ ∧ a = .int .i64 (p : Int) ∧ i = .int .i64 (j : Int) ∧ j ≤ 1 ∧ p ≤ k + sz ∧ S.length ≤ 255 * j ∧ Hid (Ms.Ahead b (k + sz) (1 - j) p S G)) (fun _ _ i => 1 + 1 - (intOf i).toNat)
      case atStart => exact ⟨0, k + 2, [], by rw [List.append_nil], rfl, rfl, by omega, by omega, by simp, HST⟩
      case round =>
        obtain ⟨j, p, S, rfl, rfl, rfl, hj, hp, hS, hh⟩ := hrel
        by_cases hjm : j < 1
        · have hh2 := hh.out
          rw [show 1 - j = (1 - (j + 1)) + 1 by omega] at hh2
          cases hg : Wn.get b (p : Int) with
          | none =>
            obtain rfl := Ms.ahead_no hh2 hg
            obtain rfl : D = none := HD.out
            have HG := Lib.hid hg
            clear hg hh2
            go_wp2_with (go_at_call 29; refine (C.out p (by omega)).mono ?_; rw [HG.out, rget_none]; rintro e w' ⟨rfl, rfl⟩)
            go_ret2
            exact ⟨rfl, rfl⟩
          | some x =>
            obtain ⟨n, nx⟩ := x
            have hnl : n.length ≤ 255 := Wn.get_len hg
            have HG := Lib.hid hg
            by_cases hf : k + sz < nx
            · obtain rfl := Ms.ahead_far hh2 hg hf
              obtain rfl : D = none := HD.out
              clear hg hh2
              go_wp2_with (go_at_call 29; refine (C.out p (by omega)).mono ?_; rw [HG.out, rget_some]; rintro e w' ⟨rfl, rfl⟩)
              go_ret2
              exact ⟨rfl, rfl⟩
            · have HN := Lib.hid (Ms.ahead_yes hh2 hg (by omega))
              have happ := app_bytes (T ++ S) n
              clear hg hh2
              go_wp2_with (go_at_call 29; refine (C.out p (by omega)).mono ?_; rw [HG.out, rget_some]; rintro e w' ⟨rfl, rfl⟩)
              refine ⟨⟨j + 1, nx, S ++ n, by first | rfl | rw [List.append_assoc], rfl, rfl, by omega, by omega, by rw [List.length_append]; omega, HN⟩, ?_⟩
              simp [intOf]; omega
        · obtain rfl : j = 1 := by omega
          have hend := Ms.ahead_end hh.out
          subst hend
          by_cases hc : p + 0 = k + sz
          · have hD := HD.out.trans (Ms.dEnd_yes hc)
            obtain ⟨qv, hqv, hqr⟩ := run_part HR.out HCAP.out (p := p) (e := k + sz) (by omega) hk
            obtain ⟨U, hU⟩ : ∃ U, (b.drop p).take (k + sz - p) = U := ⟨_, rfl⟩
            rw [hU] at hqr hD
            subst hD
            have hUl : U.length ≤ 100000 := by rw [← hU, List.length_take, List.length_drop]; omega
            have hcv2 := run_read_str hqr
            have happ := app_bytes (T ++ S) U
            replace hqv : ∀ W, (Instr.slice 22 bv (some (.int .i64 (p : Int))) (some (.int .i64 ((k : Int) + (sz : Int)))) none).run Try.prog W = .ok qv W := fun W => by have := hqv W; rwa [show ((k + sz : Nat) : Int) = (k : Int) + (sz : Int) by omega] at this
            have hq1 : ((p : Int) == (k : Int) + (sz : Int)) = true := by rw [beq_iff_eq]; omega
            clear hqr hU HD
            go_wp2
            go_ret2
            exact ⟨rfl, rfl⟩
          · obtain rfl : D = none := HD.out.trans (Ms.dEnd_no hc)
            have hq1 : ((p : Int) == (k : Int) + (sz : Int)) = false := by rw [beq_eq_false_iff_ne]; omega
            go_wp2
            go_ret2
            exact ⟨rfl, rfl⟩
  case inr.inl =>
    have HD := Lib.hid (Ms.dData_eq (b := b) (k := k) (sz := sz) hd (by omega))
    generalize Ms.dData b k sz _ = D at HD ⊢
    by_cases hs : sz < 6
    · obtain rfl : D = none := by rw [HD.out, if_pos hs]
      clear hd hr hcap
      go_enter Try.func31, Try.ntmps31
      go_wp2
      go_ret2
      exact ⟨rfl, rfl⟩
    · obtain ⟨G, hG⟩ : ∃ G, Ms.dNames b (k + sz) 1 (k + 6) = G := ⟨_, rfl⟩
      obtain ⟨T, hT⟩ : ∃ T, T = (b.drop k).take 6 := ⟨_, rfl⟩
      replace HD : Hid (D = Ms.dEnd b (k + sz) 0 T G) := Lib.hid (by rw [HD.out, if_neg hs, hG, hT])
      have hst := Ms.ahead_start b (k + sz) 1 (k + 6)
      rw [hG] at hst
      have hTl : T.length ≤ 6 := by rw [hT, List.length_take]; omega
      obtain ⟨pv, hpv, hpr⟩ := run_part hr hcap (p := k) (e := k + 6) (by omega) (by omega)
      rw [show k + 6 - k = 6 by omega, ← hT] at hpr
      have hcv := run_read_str hpr
      replace hpv : ∀ W, (Instr.slice 22 bv (some (.int .i64 (k : Int))) (some (.int .i64 ((k : Int) + 6))) none).run Try.prog W = .ok pv W := fun W => by have := hpv W; rwa [show ((k + 6 : Nat) : Int) = (k : Int) + 6 by omega] at this
      have HST := Lib.hid hst
      have HR := Lib.hid hr
      have HCAP := Lib.hid hcap
      have C := Lib.hid (fun (p : Nat) (hp : p ≤ 100000) => rget_any b bv (p : Int) w hr hcap hlen (by omega) (by omega))
      clear hd hr hcap hpr hG hst hT
      go_enter Try.func31, Try.ntmps31
      go_wp2
      go_loop [13, 14, 15] (fun s a i => ∃ (j p : Nat) (S : List UInt8), s = .string ⟨(T ++ S).toArray⟩ ∧ a = .int .i64 (p : Int) ∧ i = .int .i64 (j : Int) ∧ j ≤ 1 ∧ p ≤ k + sz ∧ S.length ≤ 255 * j ∧ Hid (Ms.Ahead b (k + sz) (1 - j) p S G)) (fun _ _ i => 1 + 1 - (intOf i).toNat)
      case atStart => exact ⟨0, k + 6, [], by rw [List.append_nil], rfl, rfl, by omega, by omega, by simp, HST⟩
      case round =>
        obtain ⟨j, p, S, rfl, rfl, rfl, hj, hp, hS, hh⟩ := hrel
        by_cases hjm : j < 1
        · have hh2 := hh.out
          rw [show 1 - j = (1 - (j + 1)) + 1 by omega] at hh2
          cases hg : Wn.get b (p : Int) with
          | none =>
            obtain rfl := Ms.ahead_no hh2 hg
            obtain rfl : D = none := HD.out
            have HG := Lib.hid hg
            clear hg hh2
            go_wp2_with (go_at_call 29; refine (C.out p (by omega)).mono ?_; rw [HG.out, rget_none]; rintro e w' ⟨rfl, rfl⟩)
            go_ret2
            exact ⟨rfl, rfl⟩
          | some x =>
            obtain ⟨n, nx⟩ := x
            have hnl : n.length ≤ 255 := Wn.get_len hg
            have HG := Lib.hid hg
            by_cases hf : k + sz < nx
            · obtain rfl := Ms.ahead_far hh2 hg hf
              obtain rfl : D = none := HD.out
              clear hg hh2
              go_wp2_with (go_at_call 29; refine (C.out p (by omega)).mono ?_; rw [HG.out, rget_some]; rintro e w' ⟨rfl, rfl⟩)
              go_ret2
              exact ⟨rfl, rfl⟩
            · have HN := Lib.hid (Ms.ahead_yes hh2 hg (by omega))
              have happ := app_bytes (T ++ S) n
              clear hg hh2
              go_wp2_with (go_at_call 29; refine (C.out p (by omega)).mono ?_; rw [HG.out, rget_some]; rintro e w' ⟨rfl, rfl⟩)
              refine ⟨⟨j + 1, nx, S ++ n, by first | rfl | rw [List.append_assoc], rfl, rfl, by omega, by omega, by rw [List.length_append]; omega, HN⟩, ?_⟩
              simp [intOf]; omega
        · obtain rfl : j = 1 := by omega
          have hend := Ms.ahead_end hh.out
          subst hend
          by_cases hc : p + 0 = k + sz
          · have hD := HD.out.trans (Ms.dEnd_yes hc)
            obtain ⟨qv, hqv, hqr⟩ := run_part HR.out HCAP.out (p := p) (e := k + sz) (by omega) hk
            obtain ⟨U, hU⟩ : ∃ U, (b.drop p).take (k + sz - p) = U := ⟨_, rfl⟩
            rw [hU] at hqr hD
            subst hD
            have hUl : U.length ≤ 100000 := by rw [← hU, List.length_take, List.length_drop]; omega
            have hcv2 := run_read_str hqr
            have happ := app_bytes (T ++ S) U
            replace hqv : ∀ W, (Instr.slice 22 bv (some (.int .i64 (p : Int))) (some (.int .i64 ((k : Int) + (sz : Int)))) none).run Try.prog W = .ok qv W := fun W => by have := hqv W; rwa [show ((k + sz : Nat) : Int) = (k : Int) + (sz : Int) by omega] at this
            have hq1 : ((p : Int) == (k : Int) + (sz : Int)) = true := by rw [beq_iff_eq]; omega
            clear hqr hU HD
            go_wp2
            go_ret2
            exact ⟨rfl, rfl⟩
          · obtain rfl : D = none := HD.out.trans (Ms.dEnd_no hc)
            have hq1 : ((p : Int) == (k : Int) + (sz : Int)) = false := by rw [beq_eq_false_iff_ne]; omega
            go_wp2
            go_ret2
            exact ⟨rfl, rfl⟩
  case inr.inr.inl =>
    have HD := Lib.hid (Ms.dData_eq (b := b) (k := k) (sz := sz) hd (by omega))
    generalize Ms.dData b k sz _ = D at HD ⊢
    by_cases hs : sz < 0
    · exact absurd hs (Nat.not_lt_zero _)
    · obtain ⟨G, hG⟩ : ∃ G, Ms.dNames b (k + sz) 2 (k + 0) = G := ⟨_, rfl⟩
      obtain ⟨T, hT⟩ : ∃ T, T = (b.drop k).take 0 := ⟨_, rfl⟩
      replace HD : Hid (D = Ms.dEnd b (k + sz) 20 T G) := Lib.hid (by rw [HD.out, if_neg hs, hG, hT])
      have hst := Ms.ahead_start b (k + sz) 2 (k + 0)
      rw [hG] at hst
      have hTl : T.length ≤ 6 := by rw [hT, List.length_take]; omega
      obtain ⟨pv, hpv, hpr⟩ := run_part hr hcap (p := k) (e := k + 0) (by omega) (by omega)
      rw [show k + 0 - k = 0 by omega, ← hT] at hpr
      have hcv := run_read_str hpr
      replace hpv : ∀ W, (Instr.slice 22 bv (some (.int .i64 (k : Int))) (some (.int .i64 ((k : Int)))) none).run Try.prog W = .ok pv W := fun W => by have := hpv W; rwa [show ((k + 0 : Nat) : Int) = (k : Int) by omega] at this
      have HST := Lib.hid hst
      have HR := Lib.hid hr
      have HCAP := Lib.hid hcap
      have C := Lib.hid (fun (p : Nat) (hp : p ≤ 100000) => rget_any b bv (p : Int) w hr hcap hlen (by omega) (by omega))
      clear hd hr hcap hpr hG hst hT
      go_enter Try.func31, Try.ntmps31
      go_wp2
      go_loop [13, 14, 15] (fun s a i => ∃ (j p : Nat) (S : List UInt8), s = .string ⟨(T ++ S).toArray⟩ ∧ a = .int .i64 (p : Int) ∧ i = .int .i64 (j : Int) ∧ j ≤ 2 ∧ p ≤ k + sz ∧ S.length ≤ 255 * j ∧ Hid (Ms.Ahead b (k + sz) (2 - j) p S G)) (fun _ _ i => 2 + 1 - (intOf i).toNat)
      case atStart => exact ⟨0, k + 0, [], by rw [List.append_nil], rfl, rfl, by omega, by omega, by simp, HST⟩
      case round =>
        obtain ⟨j, p, S, rfl, rfl, rfl, hj, hp, hS, hh⟩ := hrel
        by_cases hjm : j < 2
        · have hh2 := hh.out
          rw [show 2 - j = (2 - (j + 1)) + 1 by omega] at hh2
          cases hg : Wn.get b (p : Int) with
          | none =>
            obtain rfl := Ms.ahead_no hh2 hg
            obtain rfl : D = none := HD.out
            have HG := Lib.hid hg
            clear hg hh2
            go_wp2_with (go_at_call 29; refine (C.out p (by omega)).mono ?_; rw [HG.out, rget_none]; rintro e w' ⟨rfl, rfl⟩)
            go_ret2
            exact ⟨rfl, rfl⟩
          | some x =>
            obtain ⟨n, nx⟩ := x
            have hnl : n.length ≤ 255 := Wn.get_len hg
            have HG := Lib.hid hg
            by_cases hf : k + sz < nx
            · obtain rfl := Ms.ahead_far hh2 hg hf
              obtain rfl : D = none := HD.out
              clear hg hh2
              go_wp2_with (go_at_call 29; refine (C.out p (by omega)).mono ?_; rw [HG.out, rget_some]; rintro e w' ⟨rfl, rfl⟩)
              go_ret2
              exact ⟨rfl, rfl⟩
            · have HN := Lib.hid (Ms.ahead_yes hh2 hg (by omega))
              have happ := app_bytes (T ++ S) n
              clear hg hh2
              go_wp2_with (go_at_call 29; refine (C.out p (by omega)).mono ?_; rw [HG.out, rget_some]; rintro e w' ⟨rfl, rfl⟩)
              refine ⟨⟨j + 1, nx, S ++ n, by first | rfl | rw [List.append_assoc], rfl, rfl, by omega, by omega, by rw [List.length_append]; omega, HN⟩, ?_⟩
              simp [intOf]; omega
        · obtain rfl : j = 2 := by omega
          have hend := Ms.ahead_end hh.out
          subst hend
          by_cases hc : p + 20 = k + sz
          · have hD := HD.out.trans (Ms.dEnd_yes hc)
            obtain ⟨qv, hqv, hqr⟩ := run_part HR.out HCAP.out (p := p) (e := k + sz) (by omega) hk
            obtain ⟨U, hU⟩ : ∃ U, (b.drop p).take (k + sz - p) = U := ⟨_, rfl⟩
            rw [hU] at hqr hD
            subst hD
            have hUl : U.length ≤ 100000 := by rw [← hU, List.length_take, List.length_drop]; omega
            have hcv2 := run_read_str hqr
            have happ := app_bytes (T ++ S) U
            replace hqv : ∀ W, (Instr.slice 22 bv (some (.int .i64 (p : Int))) (some (.int .i64 ((k : Int) + (sz : Int)))) none).run Try.prog W = .ok qv W := fun W => by have := hqv W; rwa [show ((k + sz : Nat) : Int) = (k : Int) + (sz : Int) by omega] at this
            have hq1 : ((p : Int) + 20 == (k : Int) + (sz : Int)) = true := by rw [beq_iff_eq]; omega
            clear hqr hU HD
            go_wp2
            go_ret2
            exact ⟨rfl, rfl⟩
          · obtain rfl : D = none := HD.out.trans (Ms.dEnd_no hc)
            have hq1 : ((p : Int) + 20 == (k : Int) + (sz : Int)) = false := by rw [beq_eq_false_iff_ne]; omega
            go_wp2
            go_ret2
            exact ⟨rfl, rfl⟩
  case inr.inr.inr.inl =>
    have HD := Lib.hid (Ms.dData_eq (b := b) (k := k) (sz := sz) hd (by omega))
    generalize Ms.dData b k sz _ = D at HD ⊢
    by_cases hs : sz < 0
    · exact absurd hs (Nat.not_lt_zero _)
    · obtain ⟨G, hG⟩ : ∃ G, Ms.dNames b (k + sz) 1 (k + 0) = G := ⟨_, rfl⟩
      obtain ⟨T, hT⟩ : ∃ T, T = (b.drop k).take 0 := ⟨_, rfl⟩
      replace HD : Hid (D = Ms.dEnd b (k + sz) 0 T G) := Lib.hid (by rw [HD.out, if_neg hs, hG, hT])
      have hst := Ms.ahead_start b (k + sz) 1 (k + 0)
      rw [hG] at hst
      have hTl : T.length ≤ 6 := by rw [hT, List.length_take]; omega
      obtain ⟨pv, hpv, hpr⟩ := run_part hr hcap (p := k) (e := k + 0) (by omega) (by omega)
      rw [show k + 0 - k = 0 by omega, ← hT] at hpr
      have hcv := run_read_str hpr
      replace hpv : ∀ W, (Instr.slice 22 bv (some (.int .i64 (k : Int))) (some (.int .i64 ((k : Int)))) none).run Try.prog W = .ok pv W := fun W => by have := hpv W; rwa [show ((k + 0 : Nat) : Int) = (k : Int) by omega] at this
      have HST := Lib.hid hst
      have HR := Lib.hid hr
      have HCAP := Lib.hid hcap
      have C := Lib.hid (fun (p : Nat) (hp : p ≤ 100000) => rget_any b bv (p : Int) w hr hcap hlen (by omega) (by omega))
      clear hd hr hcap hpr hG hst hT
      go_enter Try.func31, Try.ntmps31
      go_wp2
      go_loop [13, 14, 15] (fun s a i => ∃ (j p : Nat) (S : List UInt8), s = .string ⟨(T ++ S).toArray⟩ ∧ a = .int .i64 (p : Int) ∧ i = .int .i64 (j : Int) ∧ j ≤ 1 ∧ p ≤ k + sz ∧ S.length ≤ 255 * j ∧ Hid (Ms.Ahead b (k + sz) (1 - j) p S G)) (fun _ _ i => 1 + 1 - (intOf i).toNat)
      case atStart => exact ⟨0, k + 0, [], by rw [List.append_nil], rfl, rfl, by omega, by omega, by simp, HST⟩
      case round =>
        obtain ⟨j, p, S, rfl, rfl, rfl, hj, hp, hS, hh⟩ := hrel
        by_cases hjm : j < 1
        · have hh2 := hh.out
          rw [show 1 - j = (1 - (j + 1)) + 1 by omega] at hh2
          cases hg : Wn.get b (p : Int) with
          | none =>
            obtain rfl := Ms.ahead_no hh2 hg
            obtain rfl : D = none := HD.out
            have HG := Lib.hid hg
            clear hg hh2
            go_wp2_with (go_at_call 29; refine (C.out p (by omega)).mono ?_; rw [HG.out, rget_none]; rintro e w' ⟨rfl, rfl⟩)
            go_ret2
            exact ⟨rfl, rfl⟩
          | some x =>
            obtain ⟨n, nx⟩ := x
            have hnl : n.length ≤ 255 := Wn.get_len hg
            have HG := Lib.hid hg
            by_cases hf : k + sz < nx
            · obtain rfl := Ms.ahead_far hh2 hg hf
              obtain rfl : D = none := HD.out
              clear hg hh2
              go_wp2_with (go_at_call 29; refine (C.out p (by omega)).mono ?_; rw [HG.out, rget_some]; rintro e w' ⟨rfl, rfl⟩)
              go_ret2
              exact ⟨rfl, rfl⟩
            · have HN := Lib.hid (Ms.ahead_yes hh2 hg (by omega))
              have happ := app_bytes (T ++ S) n
              clear hg hh2
              go_wp2_with (go_at_call 29; refine (C.out p (by omega)).mono ?_; rw [HG.out, rget_some]; rintro e w' ⟨rfl, rfl⟩)
              refine ⟨⟨j + 1, nx, S ++ n, by first | rfl | rw [List.append_assoc], rfl, rfl, by omega, by omega, by rw [List.length_append]; omega, HN⟩, ?_⟩
              simp [intOf]; omega
        · obtain rfl : j = 1 := by omega
          have hend := Ms.ahead_end hh.out
          subst hend
          by_cases hc : p + 0 = k + sz
          · have hD := HD.out.trans (Ms.dEnd_yes hc)
            obtain ⟨qv, hqv, hqr⟩ := run_part HR.out HCAP.out (p := p) (e := k + sz) (by omega) hk
            obtain ⟨U, hU⟩ : ∃ U, (b.drop p).take (k + sz - p) = U := ⟨_, rfl⟩
            rw [hU] at hqr hD
            subst hD
            have hUl : U.length ≤ 100000 := by rw [← hU, List.length_take, List.length_drop]; omega
            have hcv2 := run_read_str hqr
            have happ := app_bytes (T ++ S) U
            replace hqv : ∀ W, (Instr.slice 22 bv (some (.int .i64 (p : Int))) (some (.int .i64 ((k : Int) + (sz : Int)))) none).run Try.prog W = .ok qv W := fun W => by have := hqv W; rwa [show ((k + sz : Nat) : Int) = (k : Int) + (sz : Int) by omega] at this
            have hq1 : ((p : Int) == (k : Int) + (sz : Int)) = true := by rw [beq_iff_eq]; omega
            clear hqr hU HD
            go_wp2
            go_ret2
            exact ⟨rfl, rfl⟩
          · obtain rfl : D = none := HD.out.trans (Ms.dEnd_no hc)
            have hq1 : ((p : Int) == (k : Int) + (sz : Int)) = false := by rw [beq_eq_false_iff_ne]; omega
            go_wp2
            go_ret2
            exact ⟨rfl, rfl⟩
  case inr.inr.inr.inr.inl =>
    have HD := Lib.hid (Ms.dData_eq (b := b) (k := k) (sz := sz) hd (by omega))
    generalize Ms.dData b k sz _ = D at HD ⊢
    by_cases hs : sz < 0
    · exact absurd hs (Nat.not_lt_zero _)
    · obtain ⟨G, hG⟩ : ∃ G, Ms.dNames b (k + sz) 1 (k + 0) = G := ⟨_, rfl⟩
      obtain ⟨T, hT⟩ : ∃ T, T = (b.drop k).take 0 := ⟨_, rfl⟩
      replace HD : Hid (D = Ms.dEnd b (k + sz) 0 T G) := Lib.hid (by rw [HD.out, if_neg hs, hG, hT])
      have hst := Ms.ahead_start b (k + sz) 1 (k + 0)
      rw [hG] at hst
      have hTl : T.length ≤ 6 := by rw [hT, List.length_take]; omega
      obtain ⟨pv, hpv, hpr⟩ := run_part hr hcap (p := k) (e := k + 0) (by omega) (by omega)
      rw [show k + 0 - k = 0 by omega, ← hT] at hpr
      have hcv := run_read_str hpr
      replace hpv : ∀ W, (Instr.slice 22 bv (some (.int .i64 (k : Int))) (some (.int .i64 ((k : Int)))) none).run Try.prog W = .ok pv W := fun W => by have := hpv W; rwa [show ((k + 0 : Nat) : Int) = (k : Int) by omega] at this
      have HST := Lib.hid hst
      have HR := Lib.hid hr
      have HCAP := Lib.hid hcap
      have C := Lib.hid (fun (p : Nat) (hp : p ≤ 100000) => rget_any b bv (p : Int) w hr hcap hlen (by omega) (by omega))
      clear hd hr hcap hpr hG hst hT
      go_enter Try.func31, Try.ntmps31
      go_wp2
      go_loop [13, 14, 15] (fun s a i => ∃ (j p : Nat) (S : List UInt8), s = .string ⟨(T ++ S).toArray⟩ ∧ a = .int .i64 (p : Int) ∧ i = .int .i64 (j : Int) ∧ j ≤ 1 ∧ p ≤ k + sz ∧ S.length ≤ 255 * j ∧ Hid (Ms.Ahead b (k + sz) (1 - j) p S G)) (fun _ _ i => 1 + 1 - (intOf i).toNat)
      case atStart => exact ⟨0, k + 0, [], by rw [List.append_nil], rfl, rfl, by omega, by omega, by simp, HST⟩
      case round =>
        obtain ⟨j, p, S, rfl, rfl, rfl, hj, hp, hS, hh⟩ := hrel
        by_cases hjm : j < 1
        · have hh2 := hh.out
          rw [show 1 - j = (1 - (j + 1)) + 1 by omega] at hh2
          cases hg : Wn.get b (p : Int) with
          | none =>
            obtain rfl := Ms.ahead_no hh2 hg
            obtain rfl : D = none := HD.out
            have HG := Lib.hid hg
            clear hg hh2
            go_wp2_with (go_at_call 29; refine (C.out p (by omega)).mono ?_; rw [HG.out, rget_none]; rintro e w' ⟨rfl, rfl⟩)
            go_ret2
            exact ⟨rfl, rfl⟩
          | some x =>
            obtain ⟨n, nx⟩ := x
            have hnl : n.length ≤ 255 := Wn.get_len hg
            have HG := Lib.hid hg
            by_cases hf : k + sz < nx
            · obtain rfl := Ms.ahead_far hh2 hg hf
              obtain rfl : D = none := HD.out
              clear hg hh2
              go_wp2_with (go_at_call 29; refine (C.out p (by omega)).mono ?_; rw [HG.out, rget_some]; rintro e w' ⟨rfl, rfl⟩)
              go_ret2
              exact ⟨rfl, rfl⟩
            · have HN := Lib.hid (Ms.ahead_yes hh2 hg (by omega))
              have happ := app_bytes (T ++ S) n
              clear hg hh2
              go_wp2_with (go_at_call 29; refine (C.out p (by omega)).mono ?_; rw [HG.out, rget_some]; rintro e w' ⟨rfl, rfl⟩)
              refine ⟨⟨j + 1, nx, S ++ n, by first | rfl | rw [List.append_assoc], rfl, rfl, by omega, by omega, by rw [List.length_append]; omega, HN⟩, ?_⟩
              simp [intOf]; omega
        · obtain rfl : j = 1 := by omega
          have hend := Ms.ahead_end hh.out
          subst hend
          by_cases hc : p + 0 = k + sz
          · have hD := HD.out.trans (Ms.dEnd_yes hc)
            obtain ⟨qv, hqv, hqr⟩ := run_part HR.out HCAP.out (p := p) (e := k + sz) (by omega) hk
            obtain ⟨U, hU⟩ : ∃ U, (b.drop p).take (k + sz - p) = U := ⟨_, rfl⟩
            rw [hU] at hqr hD
            subst hD
            have hUl : U.length ≤ 100000 := by rw [← hU, List.length_take, List.length_drop]; omega
            have hcv2 := run_read_str hqr
            have happ := app_bytes (T ++ S) U
            replace hqv : ∀ W, (Instr.slice 22 bv (some (.int .i64 (p : Int))) (some (.int .i64 ((k : Int) + (sz : Int)))) none).run Try.prog W = .ok qv W := fun W => by have := hqv W; rwa [show ((k + sz : Nat) : Int) = (k : Int) + (sz : Int) by omega] at this
            have hq1 : ((p : Int) == (k : Int) + (sz : Int)) = true := by rw [beq_iff_eq]; omega
            clear hqr hU HD
            go_wp2
            go_ret2
            exact ⟨rfl, rfl⟩
          · obtain rfl : D = none := HD.out.trans (Ms.dEnd_no hc)
            have hq1 : ((p : Int) == (k : Int) + (sz : Int)) = false := by rw [beq_eq_false_iff_ne]; omega
            go_wp2
            go_ret2
            exact ⟨rfl, rfl⟩
  case inr.inr.inr.inr.inr.inl =>
    have HD := Lib.hid (Ms.dData_eq (b := b) (k := k) (sz := sz) hd (by omega))
    generalize Ms.dData b k sz _ = D at HD ⊢
    by_cases hs : sz < 0
    · exact absurd hs (Nat.not_lt_zero _)
    · obtain ⟨G, hG⟩ : ∃ G, Ms.dNames b (k + sz) 1 (k + 0) = G := ⟨_, rfl⟩
      obtain ⟨T, hT⟩ : ∃ T, T = (b.drop k).take 0 := ⟨_, rfl⟩
      replace HD : Hid (D = Ms.dEnd b (k + sz) 0 T G) := Lib.hid (by rw [HD.out, if_neg hs, hG, hT])
      have hst := Ms.ahead_start b (k + sz) 1 (k + 0)
      rw [hG] at hst
      have hTl : T.length ≤ 6 := by rw [hT, List.length_take]; omega
      obtain ⟨pv, hpv, hpr⟩ := run_part hr hcap (p := k) (e := k + 0) (by omega) (by omega)
      rw [show k + 0 - k = 0 by omega, ← hT] at hpr
      have hcv := run_read_str hpr
      replace hpv : ∀ W, (Instr.slice 22 bv (some (.int .i64 (k : Int))) (some (.int .i64 ((k : Int)))) none).run Try.prog W = .ok pv W := fun W => by have := hpv W; rwa [show ((k + 0 : Nat) : Int) = (k : Int) by omega] at this
      have HST := Lib.hid hst
      have HR := Lib.hid hr
      have HCAP := Lib.hid hcap
      have C := Lib.hid (fun (p : Nat) (hp : p ≤ 100000) => rget_any b bv (p : Int) w hr hcap hlen (by omega) (by omega))
      clear hd hr hcap hpr hG hst hT
      go_enter Try.func31, Try.ntmps31
      go_wp2
      go_loop [13, 14, 15] (fun s a i => ∃ (j p : Nat) (S : List UInt8), s = .string ⟨(T ++ S).toArray⟩ ∧ a = .int .i64 (p : Int) ∧ i = .int .i64 (j : Int) ∧ j ≤ 1 ∧ p ≤ k + sz ∧ S.length ≤ 255 * j ∧ Hid (Ms.Ahead b (k + sz) (1 - j) p S G)) (fun _ _ i => 1 + 1 - (intOf i).toNat)
      case atStart => exact ⟨0, k + 0, [], by rw [List.append_nil], rfl, rfl, by omega, by omega, by simp, HST⟩
      case round =>
        obtain ⟨j, p, S, rfl, rfl, rfl, hj, hp, hS, hh⟩ := hrel
        by_cases hjm : j < 1
        · have hh2 := hh.out
          rw [show 1 - j = (1 - (j + 1)) + 1 by omega] at hh2
          cases hg : Wn.get b (p : Int) with
          | none =>
            obtain rfl := Ms.ahead_no hh2 hg
            obtain rfl : D = none := HD.out
            have HG := Lib.hid hg
            clear hg hh2
            go_wp2_with (go_at_call 29; refine (C.out p (by omega)).mono ?_; rw [HG.out, rget_none]; rintro e w' ⟨rfl, rfl⟩)
            go_ret2
            exact ⟨rfl, rfl⟩
          | some x =>
            obtain ⟨n, nx⟩ := x
            have hnl : n.length ≤ 255 := Wn.get_len hg
            have HG := Lib.hid hg
            by_cases hf : k + sz < nx
            · obtain rfl := Ms.ahead_far hh2 hg hf
              obtain rfl : D = none := HD.out
              clear hg hh2
              go_wp2_with (go_at_call 29; refine (C.out p (by omega)).mono ?_; rw [HG.out, rget_some]; rintro e w' ⟨rfl, rfl⟩)
              go_ret2
              exact ⟨rfl, rfl⟩
            · have HN := Lib.hid (Ms.ahead_yes hh2 hg (by omega))
              have happ := app_bytes (T ++ S) n
              clear hg hh2
              go_wp2_with (go_at_call 29; refine (C.out p (by omega)).mono ?_; rw [HG.out, rget_some]; rintro e w' ⟨rfl, rfl⟩)
              refine ⟨⟨j + 1, nx, S ++ n, by first | rfl | rw [List.append_assoc], rfl, rfl, by omega, by omega, by rw [List.length_append]; omega, HN⟩, ?_⟩
              simp [intOf]; omega
        · obtain rfl : j = 1 := by omega
          have hend := Ms.ahead_end hh.out
          subst hend
          by_cases hc : p + 0 = k + sz
          · have hD := HD.out.trans (Ms.dEnd_yes hc)
            obtain ⟨qv, hqv, hqr⟩ := run_part HR.out HCAP.out (p := p) (e := k + sz) (by omega) hk
            obtain ⟨U, hU⟩ : ∃ U, (b.drop p).take (k + sz - p) = U := ⟨_, rfl⟩
            rw [hU] at hqr hD
            subst hD
            have hUl : U.length ≤ 100000 := by rw [← hU, List.length_take, List.length_drop]; omega
            have hcv2 := run_read_str hqr
            have happ := app_bytes (T ++ S) U
            replace hqv : ∀ W, (Instr.slice 22 bv (some (.int .i64 (p : Int))) (some (.int .i64 ((k : Int) + (sz : Int)))) none).run Try.prog W = .ok qv W := fun W => by have := hqv W; rwa [show ((k + sz : Nat) : Int) = (k : Int) + (sz : Int) by omega] at this
            have hq1 : ((p : Int) == (k : Int) + (sz : Int)) = true := by rw [beq_iff_eq]; omega
            clear hqr hU HD
            go_wp2
            go_ret2
            exact ⟨rfl, rfl⟩
          · obtain rfl : D = none := HD.out.trans (Ms.dEnd_no hc)
            have hq1 : ((p : Int) == (k : Int) + (sz : Int)) = false := by rw [beq_eq_false_iff_ne]; omega
            go_wp2
            go_ret2
            exact ⟨rfl, rfl⟩
end Go.Proofs.Ytfmghbmbahembaa
