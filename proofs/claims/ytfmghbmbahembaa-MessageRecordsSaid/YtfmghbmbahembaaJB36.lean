/- 2 texts put together: RdM, Decode. -/
import Derived.Test.YtfmghbmbahembaaJB23
import Derived.Test.YtfmghbmbahembaaJB33
import Derived.Test.YtfmghbmbahembaaJB35
/- What the reader tells is what the document's words tell. -/
namespace Go.Proofs.Ytfmghbmbahembaa
open Go.Proofs.Ytfmghbmbahembaa

/-! ### Questions -/
theorem cQ_dQ (b : List UInt8) (p : Nat) : (cQTo b (some p)).map (fun e => (cQ b (some p), e)) = Ms.dQ b p := by
  unfold cQTo cQ Ms.dQ
  cases hg : Wn.get b (p : Int) with
  | none => rw [nameTo_no hg]; rfl
  | some x =>
    obtain ⟨n, nx⟩ := x
    rw [nameTo_yes hg, nameAt_yes hg]
    simp only [twoTo, twoAt, Option.bind_some]
    cases h1 : Ms.two? b nx with
    | none => rfl
    | some t =>
      simp only [Option.map_some, Option.bind_some]
      cases h2 : Ms.two? b (nx + 2) with
      | none => rfl
      | some c => rfl
theorem cQs_dQs (b : List UInt8) : ∀ (n p : Nat), cQs b n (some p) = Ms.dQs b n p
  | 0, p => rfl
  | n + 1, p => by
    have h := cQ_dQ b p
    simp only [cQs, Ms.dQs]
    cases hs : cQTo b (some p) with
    | none =>
      rw [hs] at h
      rw [cQs_none, ← h]
      rfl
    | some e =>
      rw [hs] at h
      rw [← h]
      simp only [Option.map_some]
      rw [cQs_dQs b n e]

/-! ### A record ahead of its data -/
theorem numL_four (l : List UInt8) (h : l.length = 4) : numL l = Rd.number l := by
  match l, h with
  | [a, b, c, d], _ =>
    simp only [numL, List.foldl_cons, List.foldl_nil, Rd.number, Rd.num4, List.getD_cons_zero, List.getD_cons_succ]
    omega
theorem rec_raw (b : List UInt8) (p : Nat) : recGood b (some p) = (Ms.dRaw b p).bind fun w => (dataGood b (w.typ : Int) w.size w.at').map fun x => (⟨w.name, (w.typ : Int), (w.cls : Int), ttlOf (w.ttl : Int), x.1⟩, x.2) := by
  have hd : ∀ t sz k, b.length < k + sz → dataGood b t sz k = none := fun t sz k hk => by
    unfold dataGood
    cases (namesAt b (Rd.layD t).2.1 (numTo b (some k) (Rd.layD t).1)).2 with
    | none => rfl
    | some q => simp only [Option.bind_some]; rw [if_neg (by omega)]
  unfold recGood Ms.dRaw
  simp only
  cases hg : Wn.get b (p : Int) with
  | none => rw [nameTo_no hg]; rfl
  | some x =>
    obtain ⟨n, nx⟩ := x
    rw [nameTo_yes hg, nameAt_yes hg]
    simp only
    by_cases hlen : nx + 10 ≤ b.length
    · rw [twoTo_in (show nx + 2 ≤ b.length by omega), twoTo_in (show nx + 2 + 2 ≤ b.length by omega), twoAt_in (show nx + 2 ≤ b.length by omega), twoAt_in (show nx + 2 + 2 ≤ b.length by omega), two_tw (show nx + 2 ≤ b.length by omega), two_tw (show nx + 2 + 2 ≤ b.length by omega), two_tw (show nx + 8 + 2 ≤ b.length by omega)]
      have e4 : numTo b (some (nx + 2 + 2)) 4 = some (nx + 8) := by unfold numTo; simp only; rw [if_pos (by omega)]
      have e5 : numAt b (some (nx + 2 + 2)) 4 = Rd.number ((b.drop (nx + 4)).take 4) := by
        unfold numAt
        simp only
        rw [if_pos (by omega), show nx + 2 + 2 = nx + 4 by omega]
        exact numL_four _ (by rw [List.length_take, List.length_drop]; omega)
      rw [e4, e5, twoTo_in (show nx + 8 + 2 ≤ b.length by omega), twoAt_in (show nx + 8 + 2 ≤ b.length by omega)]
      simp only [Option.bind_some]
      by_cases hb : nx + 10 + tw b (nx + 8) ≤ b.length
      · rw [if_pos hb]; rfl
      · rw [if_neg hb, hd _ _ _ (by omega)]; rfl
    · -- some number is cut off
      have h8 : Ms.two? b (nx + 8) = none := two_off (by omega)
      have lhs : twoTo b (numTo b (twoTo b (twoTo b (some nx))) 4) = none := by
        cases h1 : twoTo b (some nx) with
        | none => rfl
        | some a =>
          have ha : a = nx + 2 := by
            by_cases h2 : nx + 2 ≤ b.length
            · rw [twoTo_in h2] at h1; cases h1; rfl
            · unfold twoTo at h1; simp only [Option.bind_some] at h1; rw [two_off h2] at h1; cases h1
          subst ha
          cases h2 : twoTo b (some (nx + 2)) with
          | none => rfl
          | some a =>
            have ha : a = nx + 4 := by
              by_cases h3 : nx + 2 + 2 ≤ b.length
              · rw [twoTo_in h3] at h2; cases h2; rfl
              · unfold twoTo at h2; simp only [Option.bind_some] at h2; rw [two_off h3] at h2; cases h2
            subst ha
            unfold numTo
            simp only
            split
            · unfold twoTo; simp only [Option.bind_some]; rw [two_off (by omega)]; rfl
            · rfl
      rw [lhs, h8]
      cases Ms.two? b nx with
      | none => rfl
      | some t => cases Ms.two? b (nx + 2) <;> rfl

/-! ### Its data -/
theorem namesAt_none (b : List UInt8) : ∀ n, (namesAt b n none).2 = none
  | 0 => rfl
  | n + 1 => namesAt_none b n
theorem names_dNames (b : List UInt8) (lim : Nat) : ∀ (n p : Nat), (∀ q, (namesAt b n (some p)).2 = some q → p ≤ q ∧ (q ≤ lim → Ms.dNames b lim n p = some ((namesAt b n (some p)).1, q)) ∧ (lim < q → n ≠ 0 → Ms.dNames b lim n p = none)) ∧ ((namesAt b n (some p)).2 = none → Ms.dNames b lim n p = none)
  | 0, p => ⟨fun q h => (by cases h; exact ⟨Nat.le_refl _, fun _ => rfl, fun _ h => absurd rfl h⟩), fun h => (by cases h)⟩
  | n + 1, p => by
    cases hg : Wn.get b (p : Int) with
    | none =>
      have e : (namesAt b (n + 1) (some p)).2 = none := by simp only [namesAt]; rw [nameTo_no hg]; exact namesAt_none b n
      exact ⟨fun q h => (by rw [e] at h; cases h), fun _ => Ms.dNames_no hg⟩
    | some x =>
      obtain ⟨m, nx⟩ := x
      have hp := (get_le hg).1
      simp only at hp
      have e1 : namesAt b (n + 1) (some p) = (m ++ (namesAt b n (some nx)).1, (namesAt b n (some nx)).2) := by simp only [namesAt]; rw [nameTo_yes hg, nameAt_yes hg]
      obtain ⟨ih1, ih2⟩ := names_dNames b lim n nx
      rw [e1]
      simp only
      by_cases hl : lim < nx
      · refine ⟨fun q h => ?_, fun _ => Ms.dNames_far hg hl⟩
        have := (ih1 q h).1
        exact ⟨by omega, fun _ => by omega, fun _ _ => Ms.dNames_far hg hl⟩
      · rw [Ms.dNames_yes hg (by omega)]
        refine ⟨fun q h => ?_, fun h => by rw [ih2 h]; rfl⟩
        obtain ⟨a1, a2, a3⟩ := ih1 q h
        refine ⟨by omega, fun hq => by rw [a2 hq]; rfl, fun hq _ => ?_⟩
        by_cases hn : n = 0
        · subst hn
          simp only [namesAt, Option.some.injEq] at h
          omega
        · rw [a3 hq hn]; rfl
/-- What follows names, each valid. -/
theorem namesAt_run (b : List UInt8) : ∀ (n p : Nat) {q : Nat} (A R : List UInt8), (namesAt b n (some p)).2 = some q → ∃ ps, Rd.run (A ++ (namesAt b n (some p)).1 ++ R) n A.length = some (ps, A.length + (namesAt b n (some p)).1.length)
  | 0, p, q, A, R, _ => ⟨[], by simp [Rd.run, namesAt]⟩
  | n + 1, p, q, A, R, h => by
    cases hg : Wn.get b (p : Int) with
    | none =>
      have e : (namesAt b (n + 1) (some p)).2 = none := by simp only [namesAt]; rw [nameTo_no hg]; exact namesAt_none b n
      rw [e] at h; cases h
    | some x =>
      obtain ⟨m, nx⟩ := x
      have e1 : namesAt b (n + 1) (some p) = (m ++ (namesAt b n (some nx)).1, (namesAt b n (some nx)).2) := by simp only [namesAt]; rw [nameTo_yes hg, nameAt_yes hg]
      rw [e1] at h ⊢
      simp only at h ⊢
      have hv := Wn.get_valid hg
      have hz : Rd.nsz ((A ++ (m ++ (namesAt b n (some nx)).1) ++ R).drop A.length) = m.length := by
        rw [List.append_assoc, List.drop_left, List.append_assoc, Rd.nsz_append (by rw [Rd.nsz_valid hv]; exact Rd.ne_nil_of_valid hv), Rd.nsz_valid hv]
      obtain ⟨ps, hps⟩ := namesAt_run b n nx (A ++ m) R h
      rw [Rd.run_succ hz (Rd.ne_nil_of_valid hv)]
      have e2 : A ++ (m ++ (namesAt b n (some nx)).1) ++ R = A ++ m ++ (namesAt b n (some nx)).1 ++ R := by simp
      rw [e2, show A.length + m.length = (A ++ m).length by simp, hps]
      exact ⟨_, by simp only [Option.map_some]; rw [List.length_append, List.length_append]; congr 2; omega⟩
theorem take_drop_take (l : List UInt8) (k a n : Nat) (h : a ≤ n) : (l.drop k).take a ++ (l.drop (k + a)).take (n - a) = (l.drop k).take n := by
  rw [← List.drop_drop, ← List.take_append_drop a ((l.drop k).take n), List.take_take, Nat.min_eq_left h, List.drop_take]
theorem lay_more {t : Int} {a n c : Nat} (h : Rd.lay t = some (a, n, c)) : t ≠ 16 ∧ (n = 0 → c = 0) := by
  unfold Rd.lay at h
  split at h
  · cases h; exact ⟨by omega, fun _ => rfl⟩
  split at h
  · cases h; exact ⟨by omega, fun _ => rfl⟩
  split at h
  · cases h; exact ⟨by omega, fun h => by cases h⟩
  split at h
  · cases h; exact ⟨by omega, fun h => by cases h⟩
  split at h
  · cases h; exact ⟨by omega, fun h => by cases h⟩
  split at h
  · cases h; exact ⟨by omega, fun h => by cases h⟩
  · cases h
theorem data_of (b : List UInt8) (t : Int) (k sz a n c : Nat) (hL : Rd.layD t = (a, n, c)) : dataGood b t sz k = (namesAt b n (numTo b (some k) a)).2.bind fun q => if q ≤ k + sz ∧ k + sz ≤ b.length then some (bytesAt b (some k) a ++ (namesAt b n (numTo b (some k) a)).1 ++ (b.drop q).take (k + sz - q), k + sz) else none := by
  unfold dataGood
  rw [hL]
theorem data_flat (b : List UInt8) (t : Int) (k sz a c : Nat) (hL : Rd.layD t = (a, 0, c)) (hk : k + sz ≤ b.length) : dataGood b t sz k = if a ≤ sz then some ((b.drop k).take sz, k + sz) else none := by
  rw [data_of b t k sz a 0 c hL]
  by_cases ha : k + a ≤ b.length
  · have e1 : numTo b (some k) a = some (k + a) := if_pos ha
    have e2 : bytesAt b (some k) a = (b.drop k).take a := if_pos ha
    rw [e1, e2]
    simp only [namesAt, Option.bind_some, List.append_nil]
    by_cases hs : a ≤ sz
    · rw [if_pos ⟨by omega, hk⟩, if_pos hs, show k + sz - (k + a) = sz - a by omega, take_drop_take b k a sz hs]
    · rw [if_neg (by omega), if_neg hs]
  · have e1 : numTo b (some k) a = none := if_neg ha
    rw [e1, if_neg (by omega)]
    rfl
theorem dataGood_end (b : List UInt8) (t : Int) (k sz : Nat) {d : List UInt8} {e : Nat} (h : dataGood b t sz k = some (d, e)) : e = k + sz := by
  unfold dataGood at h
  obtain ⟨q, _, hq⟩ := Option.bind_eq_some_iff.1 h
  split at hq
  · cases hq; rfl
  · cases hq
theorem layD_some {t : Int} {x : Nat × Nat × Nat} (h : Rd.lay t = some x) : Rd.layD t = x := by unfold Rd.layD; rw [h]; rfl
theorem layD_none {t : Int} (h : Rd.lay t = none) : Rd.layD t = (0, 0, 0) := by unfold Rd.layD; rw [h]; rfl
theorem data_good (b : List UInt8) (t : Int) (k sz : Nat) (hk : k + sz ≤ b.length) :
    (∀ d e, dataGood b t sz k = some (d, e) → e = k + sz ∧ (Ms.dData b k sz t = some d ∨ (Ms.dData b k sz t = none ∧ Rd.dataOk t d = false))) ∧
    (dataGood b t sz k = none → Ms.dData b k sz t = none ∨ ∃ d, Ms.dData b k sz t = some d ∧ Rd.dataOk t d = false) := by
  refine ⟨fun d e h => ⟨dataGood_end b t k sz h, ?_⟩, fun h => ?_⟩
  · cases hl : Rd.lay t with
    | none =>
      have hdl : Ms.dl t = (0, 0, 0) := by unfold Ms.dl; rw [hl]
      rw [data_flat b t k sz 0 0 (layD_none hl) hk, if_pos (by omega)] at h
      cases h
      left
      unfold Ms.dData
      rw [hdl]; rfl
    | some x =>
      obtain ⟨a, n, c⟩ := x
      obtain ⟨h16, hc0⟩ := lay_more hl
      by_cases hn : n = 0
      · subst hn
        have hdl : Ms.dl t = (0, 0, 0) := by unfold Ms.dl; rw [hl]; rfl
        rw [data_flat b t k sz a c (layD_some hl) hk] at h
        split at h
        · cases h
          left
          unfold Ms.dData
          rw [hdl]; rfl
        · cases h
      · have hdl : Ms.dl t = (a, n, c) := by unfold Ms.dl; rw [hl]; simp [hn]
        rw [data_of b t k sz a n c (layD_some hl)] at h
        obtain ⟨q, hq, h2⟩ := Option.bind_eq_some_iff.1 h
        split at h2
        · rename_i hqs
          have ha : k + a ≤ b.length := by
            by_cases ha : k + a ≤ b.length
            · exact ha
            · have e1 : numTo b (some k) a = none := if_neg ha
              rw [e1, namesAt_none] at hq; cases hq
          have e1 : numTo b (some k) a = some (k + a) := if_pos ha
          have e2 : bytesAt b (some k) a = (b.drop k).take a := if_pos ha
          rw [e1] at hq h2
          rw [e2] at h2
          obtain ⟨m1, m2, _⟩ := (names_dNames b (k + sz) n (k + a)).1 q hq
          have hA : ((b.drop k).take a).length = a := by rw [List.length_take, List.length_drop]; omega
          rw [Ms.dData_eq hdl hn, if_neg (by omega), m2 hqs.1]
          by_cases hqc : q + c = k + sz
          · left
            rw [Ms.dEnd_yes hqc]
            simp only [Option.some.injEq, Prod.mk.injEq] at h2
            rw [← h2.1]
          · right
            refine ⟨Ms.dEnd_no hqc, Rd.dataOk_off h16 hl (fun ps e hr => ?_)⟩
            simp only [Option.some.injEq, Prod.mk.injEq] at h2
            rw [← h2.1] at hr ⊢
            obtain ⟨ps', hps⟩ := namesAt_run b n (k + a) ((b.drop k).take a) ((b.drop q).take (k + sz - q)) hq
            rw [hA] at hps
            rw [hps] at hr
            cases hr
            simp only [List.length_append, List.length_take, List.length_drop]
            omega
        · cases h2
  · cases hl : Rd.lay t with
    | none =>
      rw [data_flat b t k sz 0 0 (layD_none hl) hk, if_pos (by omega)] at h
      cases h
    | some x =>
      obtain ⟨a, n, c⟩ := x
      obtain ⟨h16, hc0⟩ := lay_more hl
      by_cases hn : n = 0
      · subst hn
        have hdl : Ms.dl t = (0, 0, 0) := by unfold Ms.dl; rw [hl]; rfl
        rw [data_flat b t k sz a c (layD_some hl) hk] at h
        split at h
        · cases h
        · rename_i hs
          right
          refine ⟨(b.drop k).take sz, by unfold Ms.dData; rw [hdl]; rfl, Rd.dataOk_off h16 hl (fun ps e hr => ?_)⟩
          simp only [Rd.run, Option.some.injEq, Prod.mk.injEq] at hr
          rw [List.length_take, List.length_drop]
          omega
      · have hdl : Ms.dl t = (a, n, c) := by unfold Ms.dl; rw [hl]; simp [hn]
        left
        rw [data_of b t k sz a n c (layD_some hl)] at h
        rw [Ms.dData_eq hdl hn]
        by_cases hs : sz < a
        · rw [if_pos hs]
        · rw [if_neg hs]
          have e1 : numTo b (some k) a = some (k + a) := if_pos (by omega)
          rw [e1] at h
          obtain ⟨m1, m2⟩ := names_dNames b (k + sz) n (k + a)
          cases hq : (namesAt b n (some (k + a))).2 with
          | none => rw [m2 hq]; rfl
          | some q =>
            rw [hq] at h
            simp only [Option.bind_some] at h
            split at h
            · cases h
            · rename_i hqs
              obtain ⟨_, _, m3⟩ := m1 q hq
              rw [m3 (by omega) hn]; rfl
theorem data_opt (b : List UInt8) (k sz : Nat) (hk : k + sz ≤ b.length) : dataGood b 41 sz k = some ((b.drop k).take sz, k + sz) := by
  rw [data_flat b 41 k sz 0 0 rfl hk, if_pos (by omega)]

/-! ### Records -/
theorem rec_some {b : List UInt8} {p : Nat} {w : Ms.Raw} (h : Ms.dRaw b p = some w) : w.at' + w.size ≤ b.length := by
  obtain ⟨_, _, _, _, _, _, _, _, _, h5, rfl⟩ := Ms.dRaw_some h
  exact h5
theorem check_data {r : Rd.RR} (h : Rd.dataOk r.typ r.data = false) : Rd.check r = false := by unfold Rd.check; rw [h, Bool.and_false]
theorem dRec_cRec (b : List UInt8) (i : Nat) (s : Ms.St) : (cRec b i s = none → Ms.dRec b i s = none) ∧ (∀ s', cRec b i s = some s' → s.acc.length ≤ s'.acc.length ∧ (s'.acc.length ≤ 64 → s.acc.length ≤ 64 → Ms.dRec b i s = some s') ∧ (64 < s'.acc.length → s.acc.length ≤ 64 → Ms.dRec b i s = none)) := by
  have hr := rec_raw b s.at'
  cases hw : Ms.dRaw b s.at' with
  | none =>
    rw [hw] at hr
    have e1 : cRec b i s = none := by unfold cRec; rw [hr]; rfl
    have e2 : Ms.dRec b i s = none := by unfold Ms.dRec; rw [hw]
    exact ⟨fun _ => e2, fun s' h => by rw [e1] at h; cases h⟩
  | some w =>
    rw [hw] at hr
    simp only [Option.bind_some] at hr
    have hle := rec_some hw
    have e2 : Ms.dRec b i s = if w.typ = 41 then (if i ≠ 2 ∨ w.name ≠ [0] ∨ s.edns = true then none else some ⟨w.at' + w.size, true, w.cls, s.acc⟩)
      else match Ms.dData b w.at' w.size w.typ with
        | none => none
        | some d => if Rd.check (Ms.recOf w d) = true ∧ s.acc.length < 64 then some ⟨w.at' + w.size, s.edns, s.esz, s.acc ++ [Ms.recOf w d]⟩ else none := by unfold Ms.dRec; rw [hw]; rfl
    rw [e2]
    by_cases h41 : w.typ = 41
    · have hg : dataGood b (w.typ : Int) w.size w.at' = some ((b.drop w.at').take w.size, w.at' + w.size) := by
        rw [h41]; exact data_opt b _ _ hle
      rw [hg] at hr
      have e1 : cRec b i s = if i = 2 ∧ w.name = [0] ∧ s.edns = false then some ⟨w.at' + w.size, true, w.cls, s.acc⟩ else none := by
        rw [cRec_eq b i s hr, if_pos (by show ((w.typ : Int)) = 41; omega)]
      rw [e1, if_pos h41]
      by_cases hc : i = 2 ∧ w.name = [0] ∧ s.edns = false
      · have hn : ¬ (i ≠ 2 ∨ w.name ≠ [0] ∨ s.edns = true) := by
          rintro (h | h | h)
          · exact h hc.1
          · exact h hc.2.1
          · rw [hc.2.2] at h; cases h
        rw [if_pos hc, if_neg hn]
        exact ⟨fun h => (by cases h), fun s' h => (by cases h; exact ⟨Nat.le_refl _, fun _ _ => rfl, fun h1 h2 => absurd h2 (by simp only at h1; omega)⟩)⟩
      · have hn : i ≠ 2 ∨ w.name ≠ [0] ∨ s.edns = true := by
          by_cases h1 : i = 2
          · by_cases h2 : w.name = [0]
            · cases h3 : s.edns with
              | true => exact .inr (.inr rfl)
              | false => exact absurd ⟨h1, h2, h3⟩ hc
            · exact .inr (.inl h2)
          · exact .inl h1
        rw [if_neg hc, if_pos hn]
        exact ⟨fun _ => rfl, fun s' h => (by cases h)⟩
    · rw [if_neg h41]
      have hrec : ∀ d, (⟨w.name, (w.typ : Int), (w.cls : Int), ttlOf (w.ttl : Int), d⟩ : Rd.RR) = Ms.recOf w d := fun d => by
        unfold Ms.recOf ttlOf
        congr 1
        by_cases h : 2147483648 ≤ w.ttl
        · rw [if_pos h, if_pos (by omega)]
        · rw [if_neg h, if_neg (by omega)]
      obtain ⟨g1, g2⟩ := data_good b (w.typ : Int) w.at' w.size hle
      cases hg : dataGood b (w.typ : Int) w.size w.at' with
      | none =>
        rw [hg] at hr
        have e1 : cRec b i s = none := by unfold cRec; rw [hr]; rfl
        refine ⟨fun _ => ?_, fun s' h => by rw [e1] at h; cases h⟩
        rcases g2 hg with h | ⟨d, h, hd⟩
        · rw [h]
        · rw [h]
          simp only
          rw [if_neg (fun hh => by rw [check_data (r := Ms.recOf w d) hd] at hh; cases hh.1)]
      | some x =>
        obtain ⟨d, e⟩ := x
        rw [hg] at hr
        simp only [Option.map_some] at hr
        rw [hrec d] at hr
        obtain ⟨rfl, hD⟩ := g1 d e hg
        have e1 : cRec b i s = if Rd.check (Ms.recOf w d) = true then some ⟨w.at' + w.size, s.edns, s.esz, s.acc ++ [Ms.recOf w d]⟩ else none := by
          rw [cRec_eq b i s hr, if_neg (by show ¬ ((w.typ : Int)) = 41; omega)]
        rw [e1]
        rcases hD with hD | ⟨hD, hdo⟩
        · rw [hD]
          simp only
          cases hck : Rd.check (Ms.recOf w d) with
          | false =>
            refine ⟨fun _ => by simp, fun s' h => by simp at h⟩
          | true =>
            refine ⟨fun h => by simp at h, fun s' h => ?_⟩
            simp only [if_true, Option.some.injEq] at h
            subst h
            simp only [List.length_append, List.length_singleton]
            refine ⟨by omega, fun h1 h2 => by rw [if_pos ⟨trivial, by omega⟩], fun h1 h2 => by rw [if_neg (fun h => by omega)]⟩
        · rw [hD]
          have hck := check_data (r := Ms.recOf w d) hdo
          rw [hck]
          exact ⟨fun _ => rfl, fun s' h => by simp at h⟩
theorem cSec_acc (b : List UInt8) (i : Nat) : ∀ (n : Nat) {s s' : Ms.St}, cSec b i n s = some s' → s.acc.length ≤ s'.acc.length
  | 0, s, s', h => by cases h; exact Nat.le_refl _
  | n + 1, s, s', h => by
    simp only [cSec] at h
    obtain ⟨x, hx, h2⟩ := Option.bind_eq_some_iff.1 h
    have h3 := ((dRec_cRec b i s).2 x hx).1
    have h4 := cSec_acc b i n h2
    omega
theorem few_dSec (b : List UInt8) (i : Nat) : ∀ (n : Nat) (s : Ms.St), s.acc.length ≤ 64 → few (cSec b i n s) = Ms.dSec b i n s
  | 0, s, h => by simp only [cSec, few, Option.bind_some, Ms.dSec]; rw [if_pos h]
  | n + 1, s, h => by
    obtain ⟨h1, h2⟩ := dRec_cRec b i s
    simp only [cSec, Ms.dSec]
    cases hc : cRec b i s with
    | none => rw [h1 hc]; rfl
    | some x =>
      obtain ⟨k1, k2, k3⟩ := h2 x hc
      by_cases hx : x.acc.length ≤ 64
      · rw [k2 hx h]
        simp only [Option.bind_some]
        exact few_dSec b i n x hx
      · rw [k3 (by omega) h]
        simp only [Option.bind_some]
        cases hs : cSec b i n x with
        | none => rfl
        | some y =>
          have := cSec_acc b i n hs
          simp only [few, Option.bind_some]
          rw [if_neg (by omega)]
/-- Decode, as the document has it. -/
theorem cBody_dBody {b : List UInt8} (h12 : 12 ≤ b.length) : (if headOk b then cBody b else none) = Ms.dBody b := by
  unfold Ms.dBody
  rw [two_tw (show 4 + 2 ≤ b.length by omega), two_tw (show 6 + 2 ≤ b.length by omega), two_tw (show 8 + 2 ≤ b.length by omega), two_tw (show 10 + 2 ≤ b.length by omega)]
  simp only
  by_cases h1 : 4096 < b.length ∨ Ms.threes b ≠ 0
  · rw [if_pos h1]
    have : headOk b = false := by
      unfold headOk
      rcases h1 with h | h
      · rw [decide_eq_false (p := b.length ≤ 4096) (by omega), Bool.and_false, Bool.and_false]
      · rw [decide_eq_false h]; rfl
    rw [this]; rfl
  · rw [if_neg h1]
    have ht : Ms.threes b = 0 := Decidable.not_not.1 fun h => h1 (.inr h)
    have hl : b.length ≤ 4096 := by
      have : ¬ 4096 < b.length := fun h => h1 (.inl h)
      omega
    by_cases hq : 4 < tw b 4
    · rw [if_pos hq]
      have : headOk b = false := by
        unfold headOk
        rw [decide_eq_false (p := tw b 4 ≤ 4) (by omega), Bool.false_and, Bool.and_false]
      rw [this]; rfl
    · rw [if_neg hq]
      have hok : headOk b = true := by
        unfold headOk
        rw [decide_eq_true ht, decide_eq_true (p := tw b 4 ≤ 4) (by omega), decide_eq_true hl]; rfl
      rw [if_pos hok]
      unfold cBody
      rw [cQs_dQs]
      cases Ms.dQs b (tw b 4) 12 with
      | none => rfl
      | some x =>
        obtain ⟨qs, k⟩ := x
        simp only [Option.bind_some]
        unfold tail0
        rw [few_dSec b 0 _ _ (by simp)]
        cases Ms.dSec b 0 (tw b 6) ⟨k, false, 0, []⟩ with
        | none => rfl
        | some s0 =>
          simp only [Option.bind_some]
          unfold tail1
          rw [few_dSec b 1 _ _ (by simp)]
          cases Ms.dSec b 1 (tw b 8) ⟨s0.at', s0.edns, s0.esz, []⟩ with
          | none => rfl
          | some s1 =>
            simp only [Option.bind_some]
            unfold tail2
            rw [few_dSec b 2 _ _ (by simp)]
            cases Ms.dSec b 2 (tw b 10) ⟨s1.at', s1.edns, s1.esz, []⟩ with
            | none => rfl
            | some s2 => rfl
end Go.Proofs.Ytfmghbmbahembaa

/- Decode. -/
namespace Go.Proofs.Ytfmghbmbahembaa
open Go.RowKit Go.Shelf

theorem cDec_dec (b : List UInt8) : cDec b = Ms.dec b := by
  unfold cDec Ms.dec
  by_cases h : b.length < 12
  · rw [if_pos h, if_pos h]
  · rw [if_neg h, if_neg h, cBody_dBody (by omega)]
    cases Ms.dBody b <;> rfl
theorem decode_any (b : List UInt8) (bv : Value) (w : World) (hr : ReadB bv b w) (hcap : CapOk bv) (hlen : b.length ≤ 100000) :
    Calls Try.prog 12 #[bv] w (DecRet (Ms.dec b) w) := by
  rw [← cDec_dec]; exact cdecode_any b bv w hr hcap hlen
end Go.Proofs.Ytfmghbmbahembaa
