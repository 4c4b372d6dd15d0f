/- The document's own Text (freshetref1). -/
import Derived.Test.YtiodfiegknkceaaDoorRef1
import Derived.Test.YtiodfiegknkceaaDoorTextMath
namespace Go.Proofs.YtiodfiegknkceaaDoor
open Go.RowKit Go.Shelf
attribute [local go_sem] Oper.semAt_some

namespace Nm
theorem labsD_bad {n : List UInt8} (h : valid n = false) : labsD n = [] := by
  unfold valid at h
  unfold labsD
  cases e : labs n with
  | none => rfl
  | some l => rw [e] at h; cases h
theorem text_bad {n : List UInt8} (h : valid n = false) : text n = [] := by
  unfold text
  rw [if_neg, labsD_bad h]
  · rfl
  · rintro rfl
    revert h; decide
theorem text_good {n : List UInt8} (h : valid n = true) : text n = if labsD n = [] then [46] else (labsD n).flatMap labText := by
  obtain ⟨_, e, g, hl⟩ := labs_of_valid h
  by_cases hn : labsD n = []
  · rw [if_pos hn]
    rw [hn] at e
    rw [e]; rfl
  · rw [if_neg hn]
    unfold text
    rw [if_neg (by rw [e]; exact made_ne hn g)]
theorem labText_take {L : List (List UInt8)} {i : Nat} (h : i < L.length) : (L.take (i + 1)).flatMap labText = ((L.take i).flatMap labText ++ L[i].flatMap byteText) ++ [46] := by
  rw [List.take_succ_eq_append_getElem h, List.flatMap_append]
  simp [labText]
end Nm

set_option maxRecDepth 100000 in
set_option maxHeartbeats 8000000 in
theorem rtext_any (n : List UInt8) (w : World) (hs : n.length ≤ 100000) :
    Calls Tryd.prog 24 #[.string ⟨n.toArray⟩] w fun e w' => e = .returned (.string ⟨(Nm.text n).toArray⟩) ∧ Below w.heap.size w w' := by
  obtain ⟨tx, htx⟩ : ∃ t, Nm.text n = t := ⟨_, rfl⟩
  rw [htx]
  obtain ⟨x, hx⟩ : ∃ x, Nm.valid n = x := ⟨_, rfl⟩
  have HX := Lib.hid hx
  cases x
  · obtain rfl : tx = [] := by rw [← htx]; exact Nm.text_bad hx
    clear htx hx
    go_enter Tryd.func24, Tryd.ntmps24
    go_wp2_with (go_at_call 12; refine (rlabels_any n _ hs).mono ?_; rintro e w1 ⟨v, L, rfl, ho, b1, hL, hl⟩; rw [HX.out])
    go_ret
    exact ⟨rfl, b1⟩
  have HTX := Lib.hid ((Nm.text_good hx).symm.trans htx)
  have HGD : Hid (∀ L, L = Nm.labsD n → ∀ l ∈ L, l.length ≤ 63) := Lib.hid (fun L e l hl => by rw [e] at hl; exact (Nm.labsD_good n l hl).2)
  clear htx hx
  go_enter Tryd.func24, Tryd.ntmps24
  go_wp2_with fail
  refine (rlabels_any n _ hs).mono ?_
  rintro e w1 ⟨v, L, rfl, ho, b1, hL, hl⟩
  rw [HX.out]
  replace hL := hL HX.out
  have HT := HTX.out
  rw [← hL] at HT
  have HG := Lib.hid (HGD.out L hL)
  have hrd := ownS_read ho
  obtain ⟨ao, cap, rfl, hc⟩ := hrd.form
  have HC := Lib.hid hc
  have HT2 := Lib.hid HT
  clear ho hL hrd hc HT HTX HGD
  by_cases hnil : L = []
  · subst hnil
    obtain rfl : tx = [46] := HT2.out.symm.trans (if_pos rfl)
    go_wp2
    go_ret
    exact ⟨rfl, b1⟩
  have HTE : Hid (tx = L.flatMap Nm.labText) := Lib.hid (HT2.out.symm.trans (if_neg hnil))
  have hpos : 0 < L.length := List.length_pos_iff.2 hnil
  have t0 : ((L.length : Int) == 0) = false := by rw [beq_eq_false_iff_ne]; omega
  clear HT2
  go_wp2
  go_loopw [5, 6] (fun s i wr => ∃ (k : Nat) (t : List UInt8), k ≤ L.length ∧ s = .string ⟨t.toArray⟩ ∧ i = .int .i64 (k : Int) ∧ t.length ≤ 300 * k ∧ Below w1.heap.size w1 wr ∧ Hid (t = (L.take k).flatMap Nm.labText)) (fun _ i _ => L.length + 1 - (intOf i).toNat)
  case atStart => exact ⟨0, [], by omega, rfl, rfl, by simp, Below.refl _ _, Lib.hid rfl⟩
  case round =>
    obtain ⟨k, t, hk, rfl, rfl, htl, hb, hh⟩ := hrel
    by_cases hlt : k < L.length
    · have hll := HG.out L[k] (List.getElem_mem hlt)
      obtain ⟨b, off, rfl, c1⟩ := HC.out k hlt
      have hstep := Nm.labText_take hlt
      rw [← hh.out] at hstep
      obtain ⟨l, hle⟩ : ∃ l, l = L[k] := ⟨_, rfl⟩
      rw [← hle] at c1 hll hstep
      replace c1 : w1.cell? ⟨b, off + k, none⟩ = some (.string ⟨l.toArray⟩) := c1
      have HC1 := Lib.hid c1
      have HST := Lib.hid hstep
      have hkint : (0 : Int) ≤ (k : Int) := by omega
      clear hle hstep hh c1
      have c2 := (hb.cell (p := ⟨b, off + k, none⟩) (cell_lt HC1.out)).trans HC1.out
      go_wp2
      go_loopw [5, 7] (fun s j wq => ∃ (m : Nat) (t' : List UInt8), m ≤ l.length ∧ s = .string ⟨t'.toArray⟩ ∧ j = .int .i64 (m : Int) ∧ t'.length ≤ t.length + 4 * m ∧ Below w1.heap.size w1 wq ∧ Hid (t' = t ++ (l.take m).flatMap Nm.byteText)) (fun _ j _ => l.length + 1 - (intOf j).toNat)
      case atStart => exact ⟨0, t, by omega, rfl, rfl, by omega, hb, Lib.hid (by simp)⟩
      case round =>
        obtain ⟨m, t', hm, rfl, rfl, htl', hb', hh'⟩ := hrel
        have hwq := hb'.size
        have c3 := (hb'.cell (p := ⟨b, off + k, none⟩) (cell_lt HC1.out)).trans HC1.out
        by_cases hlt' : m < l.length
        · have hc : ((⟨l.toArray⟩ : ByteArray)[m]'hlt') = l[m] := rfl
          have hft := flat_take hlt'
          obtain ⟨c, hcc⟩ : ∃ c, c = l[m] := ⟨_, rfl⟩
          rw [← hcc] at hc hft
          have HT3 : Hid (t ++ (l.take (m + 1)).flatMap Nm.byteText = t' ++ Nm.byteText c) := Lib.hid (by rw [hft, hh'.out, List.append_assoc])
          have hc255 : c.toNat ≤ 255 := by have := c.toNat_lt; omega
          clear hcc hft hh'
          by_cases h12 : c = 46 ∨ c = 92
          · have HB := Lib.hid (show Nm.byteText c = [92, c] by unfold Nm.byteText; rw [if_pos h12])
            have hcv : (convert 44 9 (.slice (some ⟨wr.heap.size, 0, none⟩) 1 1)).run Tryd.prog (wr.alloc (.cells #[.int .u8 (c.toNat : Int)] 5)) = .ok (.string ⟨[c].toArray⟩) (wr.alloc (.cells #[.int .u8 (c.toNat : Int)] 5)) := run_lit_str [c] [.int .u8 (c.toNat : Int)] rfl wr
            have e1 := app_bytes t' [92]
            have e2 := app_bytes (t' ++ [92]) [c]
            obtain ⟨t2, ht2⟩ : ∃ t2, t2 = t' ++ [92] ++ [c] := ⟨_, rfl⟩
            have hl1 : (t' ++ [92]).length ≤ 100000 := by simp; omega
            have hl2 : t2.length ≤ t'.length + 4 := by rw [ht2]; simp
            have hl2' : t2.length ≤ 100000 := by omega
            rw [← ht2] at e2
            have HN := Lib.hid (show t2 = t ++ (l.take (m + 1)).flatMap Nm.byteText by rw [HT3.out, ht2, HB.out]; simp)
            clear ht2
            by_cases h46 : c = 46
            · have t1 : ((c.toNat : Int) == 46) = true := by rw [h46]; rfl
              clear h12 h46
              go_wp2
              exact ⟨⟨m + 1, t2, by omega, rfl, by go_num, by omega, hb'.alloc hwq _, HN⟩, by simp [intOf]; omega⟩
            · have t1 : ((c.toNat : Int) == 46) = false := nbeqI (b := 46) h46
              have t2' : ((c.toNat : Int) == 92) = true := by rw [h12.resolve_left h46]; rfl
              clear h12 h46
              go_wp2
              exact ⟨⟨m + 1, t2, by omega, rfl, by go_num, by omega, hb'.alloc hwq _, HN⟩, by simp [intOf]; omega⟩
          · have t1 : ((c.toNat : Int) == 46) = false := nbeqI (b := 46) (fun e => h12 (.inl e))
            have t2 : ((c.toNat : Int) == 92) = false := nbeqI (b := 92) (fun e => h12 (.inr e))
            by_cases h3 : 33 ≤ c.toNat ∧ c.toNat ≤ 126
            · have HB := Lib.hid (show Nm.byteText c = [c] by unfold Nm.byteText; rw [if_neg h12, if_pos h3])
              obtain ⟨h3a, h3b⟩ := h3
              clear h12
              have hcv : (convert 44 9 (.slice (some ⟨wr.heap.size, 0, none⟩) 1 1)).run Tryd.prog (wr.alloc (.cells #[.int .u8 (c.toNat : Int)] 5)) = .ok (.string ⟨[c].toArray⟩) (wr.alloc (.cells #[.int .u8 (c.toNat : Int)] 5)) := run_lit_str [c] [.int .u8 (c.toNat : Int)] rfl wr
              have e2 := app_bytes t' [c]
              obtain ⟨t3, ht3⟩ : ∃ t3, t3 = t' ++ [c] := ⟨_, rfl⟩
              have hl2 : t3.length ≤ t'.length + 4 := by rw [ht3]; simp
              have hl2' : t3.length ≤ 100000 := by omega
              rw [← ht3] at e2
              have HN := Lib.hid (show t3 = t ++ (l.take (m + 1)).flatMap Nm.byteText by rw [HT3.out, ht3, HB.out])
              clear ht3
              go_wp2
              exact ⟨⟨m + 1, t3, by omega, rfl, by go_num, by omega, hb'.alloc hwq _, HN⟩, by simp [intOf]; omega⟩
            · have HB := Lib.hid (show Nm.byteText c = [92, 48 + c / 100, 48 + c / 10 % 10, 48 + c % 10] by unfold Nm.byteText; rw [if_neg h12, if_neg h3])
              have hcase : c.toNat < 33 ∨ (33 ≤ c.toNat ∧ 126 < c.toNat) := by omega
              have d1 : ((48 + c / 100 : UInt8).toNat : Int) = 48 + (c.toNat : Int) / 100 := by simp; omega
              have d2 : ((48 + c / 10 % 10 : UInt8).toNat : Int) = 48 + (c.toNat : Int) / 10 % 10 := by simp; omega
              have d3 : ((48 + c % 10 : UInt8).toNat : Int) = 48 + (c.toNat : Int) % 10 := by simp; omega
              have hcv : (convert 44 9 (.slice (some ⟨wr.heap.size, 0, none⟩) 3 3)).run Tryd.prog (wr.alloc (.cells #[.int .u8 (48 + (c.toNat : Int) / 100), .int .u8 (48 + (c.toNat : Int) / 10 % 10), .int .u8 (48 + (c.toNat : Int) % 10)] 5)) = .ok (.string ⟨[48 + c / 100, 48 + c / 10 % 10, 48 + c % 10].toArray⟩) (wr.alloc (.cells #[.int .u8 (48 + (c.toNat : Int) / 100), .int .u8 (48 + (c.toNat : Int) / 10 % 10), .int .u8 (48 + (c.toNat : Int) % 10)] 5)) :=
                run_lit_str [48 + c / 100, 48 + c / 10 % 10, 48 + c % 10] [.int .u8 (48 + (c.toNat : Int) / 100), .int .u8 (48 + (c.toNat : Int) / 10 % 10), .int .u8 (48 + (c.toNat : Int) % 10)] (by simp only [List.map_cons, List.map_nil, encB, d1, d2, d3]) wr
              clear d1 d2 d3 h12 h3
              have e1 := app_bytes t' [92]
              obtain ⟨ds, hds⟩ : ∃ ds, ds = [48 + c / 100, 48 + c / 10 % 10, 48 + c % 10] := ⟨_, rfl⟩
              have hdl : ds.length = 3 := by rw [hds]; rfl
              have e2 := app_bytes (t' ++ [92]) ds
              obtain ⟨t4, ht4⟩ : ∃ t4, t4 = t' ++ [92] ++ ds := ⟨_, rfl⟩
              have hl1 : (t' ++ [92]).length ≤ 100000 := by simp; omega
              have hl2 : t4.length ≤ t'.length + 4 := by rw [ht4]; simp [hdl]
              have hl2' : t4.length ≤ 100000 := by omega
              rw [← ht4] at e2
              have HN := Lib.hid (show t4 = t ++ (l.take (m + 1)).flatMap Nm.byteText by rw [HT3.out, ht4, HB.out, hds]; simp)
              rw [← hds] at hcv
              have hdl2 : ds.length ≤ 3 := by omega
              clear ht4 hds hdl
              rcases hcase with hx | ⟨hx, hy⟩
              all_goals
                go_wp2
                all_goals first
                  | exact ⟨⟨m + 1, t4, by omega, rfl, by go_num, by omega, hb'.alloc hwq _, HN⟩, by simp [intOf]; omega⟩
                  | (exfalso; omega)
        · obtain rfl : m = l.length := by omega
          have HN2 : Hid (t' ++ [46] = (L.take (k + 1)).flatMap Nm.labText) := Lib.hid (by rw [HST.out, hh'.out, List.take_length])
          have e1 := app_bytes t' [46]
          obtain ⟨t5, ht5⟩ : ∃ t5, t5 = t' ++ [46] := ⟨_, rfl⟩
          have hl5 : t5.length ≤ t'.length + 1 := by rw [ht5]; simp
          rw [← ht5] at e1 HN2
          have hl5' : t5.length ≤ 100000 := by omega
          clear hh' ht5
          go_wp2
          exact ⟨⟨k + 1, t5, by omega, rfl, by go_num, by omega, hb', HN2⟩, by simp [intOf]; omega⟩
    · obtain rfl : k = L.length := by omega
      have HF := Lib.hid (show tx = t by rw [HTE.out, hh.out, List.take_length])
      clear hh
      go_wp2
      go_ret
      exact ⟨ret_str HF.out.symm, below_trans b1 hb⟩
end Go.Proofs.YtiodfiegknkceaaDoor
