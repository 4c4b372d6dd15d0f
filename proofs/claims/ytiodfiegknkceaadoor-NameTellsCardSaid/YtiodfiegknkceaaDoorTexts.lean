/- NameTexts: its walk. -/
import Derived.Test.YtiodfiegknkceaaDoorTextMath
import Derived.Test.YtiodfiegknkceaaDoorFrame
import Derived.Laws.OwnMore
namespace Go.Proofs.YtiodfiegknkceaaDoor
open Go.RowKit Go.Shelf
attribute [local go_sem] Oper.semAt_some

theorem app_bytes (a b : List UInt8) : (⟨a.toArray⟩ : ByteArray) ++ ⟨b.toArray⟩ = ⟨(a ++ b).toArray⟩ := by apply ByteArray.ext; simp [ByteArray.data_append]
/-- string of a fresh list of bytes. -/
theorem run_lit_str (l : List UInt8) (vs : List Value) (hv : l.map encB = vs) (W : World) :
    (convert 44 9 (.slice (some ⟨W.heap.size, 0, none⟩) l.length l.length)).run Tryd.prog (W.alloc (.cells vs.toArray 5)) = .ok (.string ⟨l.toArray⟩) (W.alloc (.cells vs.toArray 5)) := by
  subst hv
  exact run_convert_bytes_back (P := Tryd.prog) _ 44 9 5 ⟨W.heap.size, 0, none⟩ l.length l Tryd.underlying44 Tryd.underlying5 Tryd.underlying9 (fun j hj => cells_new W (l.map encB) 5 j (encB l[j]) (by simp [hj]))
theorem run_arg_str {v : Value} {l : List UInt8} {W : World} (h : ReadB v l W) (hne : l ≠ []) : (convert 44 9 v).run Tryd.prog W = .ok (.string ⟨l.toArray⟩) W := by
  obtain ⟨ao, cap, rfl, hc⟩ := h.form
  cases l with
  | nil => exact absurd rfl hne
  | cons c l =>
    obtain ⟨b, off, rfl, _⟩ := hc 0 (by simp)
    exact run_convert_bytes_back (P := Tryd.prog) W 44 9 5 ⟨b, off, none⟩ cap (c :: l) Tryd.underlying44 Tryd.underlying5 Tryd.underlying9 (fun j hj => by
      obtain ⟨b', off', e, c1⟩ := hc j hj
      cases e
      have e2 : (⟨b, off, none⟩ : Addr).add j = ⟨b, off + j, none⟩ := by unfold Addr.add; split <;> simp_all
      rw [e2]; exact c1)
theorem readB_below {v : Value} {l : List UInt8} {W W' : World} (h : ReadB v l W) (hb : Below W.heap.size W W') : ReadB v l W' := by
  obtain ⟨ao, cap, rfl, hc⟩ := h.form
  exact ⟨ao, cap, rfl, fun j hj => by
    obtain ⟨b, off, e, c⟩ := hc j hj
    exact ⟨b, off, e, (hb.cell (cell_lt c)).trans c⟩⟩

namespace Nm
theorem encL_replicate (m : Nat) (l : List UInt8) : encL (List.replicate m l) = m * (1 + l.length) := by
  induction m with
  | zero => simp [encL]
  | succ m ih => rw [List.replicate_succ, encL, ih, Nat.succ_mul]; omega
theorem flat_init (l : List UInt8) (m : Nat) : ((List.replicate (m + 1) l).flatMap labText).take (((List.replicate (m + 1) l).flatMap labText).length - 1) = (List.replicate m l).flatMap labText ++ l.flatMap byteText := by
  rw [List.replicate_succ', List.flatMap_append]
  simp only [List.flatMap_cons, List.flatMap_nil, List.append_nil, labText_eq, ← List.append_assoc]
  rw [List.length_append, List.length_singleton, Nat.add_sub_cancel, List.take_left' rfl]
end Nm
theorem texts_facts (l : List UInt8) (m : Nat) (g1 : 1 ≤ l.length) (g2 : l.length ≤ 40) (h1 : 1 ≤ m) (h4 : m ≤ 4) (L : List (List UInt8)) (s : List UInt8) (hL : L = List.replicate m l) (hs : s = (List.replicate m l).flatMap Nm.labText) :
    Hid (joinRet L = .tuple #[.string ⟨(Nm.made L).toArray⟩, .int .i64 0]) ∧ Hid (parseRet s = .tuple #[.string ⟨(Nm.made L).toArray⟩, .int .i64 0]) ∧ Hid (parseRet (s.take (s.length - 1)) = .tuple #[.string ⟨#[]⟩, .int .i64 2]) ∧ Hid (Nm.text (Nm.made L) = s) ∧ (Nm.made L).length ≤ 255 ∧ 1 ≤ s.length := by
  have hne : L ≠ [] := by
    intro e
    rw [e] at hL
    have := congrArg List.length hL
    simp at this
    omega
  have g : Nm.good L := by
    intro x hx
    rw [hL] at hx
    rw [(List.mem_replicate.1 hx).2]; omega
  have hle : Nm.encL L ≤ 4 * (1 + 40) := by
    rw [hL, Nm.encL_replicate]; exact Nat.mul_le_mul h4 (by omega)
  have hl : (Nm.made L).length ≤ 255 := by rw [Nm.made_length]; omega
  have hs' : s = L.flatMap Nm.labText := by rw [hs, hL]
  have hp := Nm.parse_text hne g hl
  obtain ⟨k, rfl⟩ : ∃ k, m = k + 1 := ⟨m - 1, by omega⟩
  have h3 := Nm.parse_open (List.replicate k l) (l := l) (by intro e; rw [e] at g1; simp at g1)
  rw [← Nm.flat_init, ← hs] at h3
  refine ⟨Lib.hid (joinRet_some (Nm.join_some.2 ⟨rfl, g, hl⟩)), Lib.hid ?_, Lib.hid (parseRet_none h3), Lib.hid (by rw [hs']; exact Nm.text_made hne g hl), hl, ?_⟩
  · unfold parseRet; rw [hs', hp]; rfl
  · rw [hs']
    have := (Nm.text_len L).1
    have h5 : 1 ≤ Nm.encL L := by rw [hL, Nm.encL_replicate, Nat.succ_mul]; omega
    omega

set_option maxRecDepth 100000 in
set_option maxHeartbeats 4000000 in
theorem texts1_any (l : List UInt8) (z : Int) (sv : Value) (w : World) (hr : ReadB sv l w) (hlen : l.length ≤ 9223372036854775807) (hz : -9223372036854775808 ≤ z ∧ z ≤ 9223372036854775807) (hv : VarsOk w) :
    Calls Tryd.prog 10 #[sv, .int .i64 z] w fun e w' => e = .returned (.bool true) ∧ Below w.heap.size w w' := by
  obtain ⟨ao, cap, rfl, hc⟩ := hr.form
  by_cases hg : l.length < 1 ∨ 40 < l.length ∨ z < 1 ∨ 4 < z
  · have hcase : l = [] ∨ (1 ≤ l.length ∧ 40 < l.length) ∨ (1 ≤ l.length ∧ l.length ≤ 40 ∧ z < 1) ∨ (1 ≤ l.length ∧ l.length ≤ 40 ∧ 1 ≤ z ∧ 4 < z) := by
      rcases Nat.eq_zero_or_pos l.length with h | h
      · exact .inl (List.length_eq_zero_iff.1 h)
      · omega
    clear hg hc hr
    rcases hcase with rfl | ⟨g1, g2⟩ | ⟨g1, g2, g3⟩ | ⟨g1, g2, g3, g4⟩
    all_goals
      go_enter Tryd.func10, Tryd.ntmps10
      go_wp2_with (go_at_call 11; refine (awake_any _ hv).mono ?_; rintro e w1 ⟨rfl, b1⟩)
      go_ret
      exact ⟨rfl, b1⟩
  have g1 : 1 ≤ l.length := by omega
  have g2 : l.length ≤ 40 := by omega
  have g3 : 1 ≤ z := by omega
  have g4 : z ≤ 4 := by omega
  have hne : l ≠ [] := by intro e; rw [e] at g1; simp at g1
  have HNE := Lib.hid hne
  clear hg hne
  refine (callsIn_wide (n := 9)).1 ?_
  refine callsIn_of_wp Tryd.func10 rfl trivial ?_ rfl
  simp only [Tryd.ntmps10, List.size_toArray, List.length_cons, List.length_nil, Nat.reduceAdd, Nat.reduceSub, Array.replicate_succ, Array.replicate_zero, List.push_toArray, List.append_toArray, List.nil_append, List.cons_append]
  have HC := Lib.hid hc
  clear hc
  gi_wp2
  gi_loopw [5, 7] (fun s5 s7 wr => ∃ (i : Nat) (t : List UInt8), s5 = .string ⟨t.toArray⟩ ∧ s7 = .int .i64 (i : Int) ∧ i ≤ l.length ∧ t.length ≤ 4 * i ∧ Below w.heap.size w wr ∧ Hid (t = (l.take i).flatMap Nm.byteText)) (fun _ s7 _ => l.length + 1 - (intOf s7).toNat)
  case atStart => exact ⟨0, [], rfl, rfl, by omega, by simp, Below.refl _ _, Lib.hid rfl⟩
  case round =>
    obtain ⟨i, t, rfl, rfl, hi, ht, hb, hh⟩ := hrel
    have hwr := hb.size
    by_cases hlt : i < l.length
    · obtain ⟨b, off, rfl, c1⟩ := HC.out i hlt
      replace c1 := (hb.cell (p := ⟨b, off + i, none⟩) (cell_lt c1)).trans c1
      have hft := flat_take hlt
      rw [← hh.out] at hft
      obtain ⟨c, hcc⟩ : ∃ c, c = l[i] := ⟨_, rfl⟩
      rw [← hcc] at c1 hft
      replace c1 : wr.cell? ⟨b, off + i, none⟩ = some (.int .u8 (c.toNat : Int)) := c1
      have HT := Lib.hid hft
      have hc255 : c.toNat ≤ 255 := by have := c.toNat_lt; omega
      clear hcc hft hh
      by_cases h12 : c = 46 ∨ c = 92
      · have HB := Lib.hid (show Nm.byteText c = [92, c] by unfold Nm.byteText; rw [if_pos h12])
        have hcv : (convert 44 9 (.slice (some ⟨wr.heap.size, 0, none⟩) 1 1)).run Tryd.prog (wr.alloc (.cells #[.int .u8 (c.toNat : Int)] 5)) = .ok (.string ⟨[c].toArray⟩) (wr.alloc (.cells #[.int .u8 (c.toNat : Int)] 5)) := run_lit_str [c] [.int .u8 (c.toNat : Int)] rfl wr
        have e1 := app_bytes t [92]
        have e2 := app_bytes (t ++ [92]) [c]
        obtain ⟨t2, ht2⟩ : ∃ t2, t2 = t ++ [92] ++ [c] := ⟨_, rfl⟩
        have hl1 : (t ++ [92]).length ≤ 1000 := by simp; omega
        have hl2 : t2.length = t.length + 2 := by rw [ht2]; simp
        rw [← ht2] at e2
        have HN := Lib.hid (show t2 = (l.take (i + 1)).flatMap Nm.byteText by rw [ht2, HT.out, HB.out]; simp)
        have HL2 := Lib.hid hl2
        have hl2' : t2.length ≤ 1000 := by omega
        clear ht2 hl2
        by_cases h46 : c = 46
        · have t1 : ((c.toNat : Int) == 46) = true := by rw [h46]; rfl
          clear h12 h46
          gi_wp2
          exact ⟨⟨i + 1, t2, rfl, by go_num, by omega, by have := HL2.out; omega, hb.alloc hwr _, HN⟩, by simp [intOf]; omega⟩
        · have t1 : ((c.toNat : Int) == 46) = false := nbeqI (b := 46) h46
          have t2' : ((c.toNat : Int) == 92) = true := by rw [h12.resolve_left h46]; rfl
          clear h12 h46
          gi_wp2
          exact ⟨⟨i + 1, t2, rfl, by go_num, by omega, by have := HL2.out; omega, hb.alloc hwr _, HN⟩, by simp [intOf]; omega⟩
      · have t1 : ((c.toNat : Int) == 46) = false := nbeqI (b := 46) (fun e => h12 (.inl e))
        have t2 : ((c.toNat : Int) == 92) = false := nbeqI (b := 92) (fun e => h12 (.inr e))
        by_cases h3 : 33 ≤ c.toNat ∧ c.toNat ≤ 126
        · have HB := Lib.hid (show Nm.byteText c = [c] by unfold Nm.byteText; rw [if_neg h12, if_pos h3])
          obtain ⟨h3a, h3b⟩ := h3
          clear h12
          have hcv : (convert 44 9 (.slice (some ⟨wr.heap.size, 0, none⟩) 1 1)).run Tryd.prog (wr.alloc (.cells #[.int .u8 (c.toNat : Int)] 5)) = .ok (.string ⟨[c].toArray⟩) (wr.alloc (.cells #[.int .u8 (c.toNat : Int)] 5)) := run_lit_str [c] [.int .u8 (c.toNat : Int)] rfl wr
          have e2 := app_bytes t [c]
          obtain ⟨t3, ht3⟩ : ∃ t3, t3 = t ++ [c] := ⟨_, rfl⟩
          have hl2 : t3.length = t.length + 1 := by rw [ht3]; simp
          rw [← ht3] at e2
          have HN := Lib.hid (show t3 = (l.take (i + 1)).flatMap Nm.byteText by rw [ht3, HT.out, HB.out])
          have HL2 := Lib.hid hl2
          have hl2' : t3.length ≤ 1000 := by omega
          clear ht3 hl2
          gi_wp2
          exact ⟨⟨i + 1, t3, rfl, by go_num, by omega, by have := HL2.out; omega, hb.alloc hwr _, HN⟩, by simp [intOf]; omega⟩
        · have HB := Lib.hid (show Nm.byteText c = [92, 48 + c / 100, 48 + c / 10 % 10, 48 + c % 10] by unfold Nm.byteText; rw [if_neg h12, if_neg h3])
          have hcase : c.toNat < 33 ∨ (33 ≤ c.toNat ∧ 126 < c.toNat) := by omega
          have d1 : ((48 + c / 100 : UInt8).toNat : Int) = 48 + (c.toNat : Int) / 100 := by simp; omega
          have d2 : ((48 + c / 10 % 10 : UInt8).toNat : Int) = 48 + (c.toNat : Int) / 10 % 10 := by simp; omega
          have d3 : ((48 + c % 10 : UInt8).toNat : Int) = 48 + (c.toNat : Int) % 10 := by simp; omega
          have hcv : (convert 44 9 (.slice (some ⟨wr.heap.size, 0, none⟩) 3 3)).run Tryd.prog (wr.alloc (.cells #[.int .u8 (48 + (c.toNat : Int) / 100), .int .u8 (48 + (c.toNat : Int) / 10 % 10), .int .u8 (48 + (c.toNat : Int) % 10)] 5)) = .ok (.string ⟨[48 + c / 100, 48 + c / 10 % 10, 48 + c % 10].toArray⟩) (wr.alloc (.cells #[.int .u8 (48 + (c.toNat : Int) / 100), .int .u8 (48 + (c.toNat : Int) / 10 % 10), .int .u8 (48 + (c.toNat : Int) % 10)] 5)) :=
            run_lit_str [48 + c / 100, 48 + c / 10 % 10, 48 + c % 10] [.int .u8 (48 + (c.toNat : Int) / 100), .int .u8 (48 + (c.toNat : Int) / 10 % 10), .int .u8 (48 + (c.toNat : Int) % 10)] (by simp only [List.map_cons, List.map_nil, encB, d1, d2, d3]) wr
          clear d1 d2 d3 h12 h3
          have e1 := app_bytes t [92]
          obtain ⟨ds, hds⟩ : ∃ ds, ds = [48 + c / 100, 48 + c / 10 % 10, 48 + c % 10] := ⟨_, rfl⟩
          have hdl : ds.length = 3 := by rw [hds]; rfl
          have e2 := app_bytes (t ++ [92]) ds
          obtain ⟨t4, ht4⟩ : ∃ t4, t4 = t ++ [92] ++ ds := ⟨_, rfl⟩
          have hl1 : (t ++ [92]).length ≤ 1000 := by simp; omega
          have hl2 : t4.length = t.length + 4 := by rw [ht4]; simp [hdl]
          rw [← ht4] at e2
          have HN := Lib.hid (show t4 = (l.take (i + 1)).flatMap Nm.byteText by rw [ht4, HT.out, HB.out, hds]; simp)
          have HL2 := Lib.hid hl2
          have hl2' : t4.length ≤ 1000 := by omega
          rw [← hds] at hcv
          have hdl2 : ds.length ≤ 3 := by omega
          clear ht4 hl2 hds hdl
          rcases hcase with hx | ⟨hx, hy⟩
          all_goals
            gi_wp2
            all_goals first
              | exact ⟨⟨i + 1, t4, rfl, by go_num, by omega, by have := HL2.out; omega, hb.alloc hwr _, HN⟩, by simp [intOf]; omega⟩
              | (exfalso; omega)
    · obtain rfl : i = l.length := by omega
      have HW := Lib.hid (show t = l.flatMap Nm.byteText by rw [hh.out, List.take_length])
      clear hh
      gi_wp2
      have ht' : t.length ≤ 160 := by omega
      gi_loopw [6, 9, 10] (fun s6 s9 s10 wq => ∃ (v1 : Value) (j : Nat) (L : List (List UInt8)) (s : List UInt8), s6 = .string ⟨s.toArray⟩ ∧ s9 = v1 ∧ s10 = .int .i64 (j : Int) ∧ (j : Int) ≤ z ∧ L.length = j ∧ s.length ≤ 161 * j ∧ OwnE encS 9 w.heap.size v1 L wq ∧ Below w.heap.size w wq ∧ Hid (L = List.replicate j l ∧ s = (List.replicate j l).flatMap Nm.labText)) (fun _ _ s10 _ => 5 - (intOf s10).toNat)
      case atStart => exact ⟨_, 0, [], [], rfl, rfl, rfl, by omega, rfl, by simp, ownE_nil _ _ _ _, hb, Lib.hid ⟨rfl, rfl⟩⟩
      case round =>
        obtain ⟨v1, j, L, s, rfl, rfl, rfl, hj, hLj, hs, ho, hb2, hh2⟩ := hrel
        have hwq := hb2.size
        by_cases hlt2 : (j : Int) < z
        · have hcv := run_arg_str (readB_below hr hb2) HNE.out
          have e1 := app_bytes s t
          have e2 := app_bytes (s ++ t) [46]
          obtain ⟨s2, hs2⟩ : ∃ s2, s2 = s ++ t ++ [46] := ⟨_, rfl⟩
          have hl1 : (s ++ t).length ≤ 1000 := by simp; omega
          have hl2 : s2.length ≤ s.length + 161 := by rw [hs2]; simp; omega
          rw [← hs2] at e2
          have HN : Hid (L ++ [l] = List.replicate (j + 1) l ∧ s2 = (List.replicate (j + 1) l).flatMap Nm.labText) := Lib.hid (by
            rw [List.replicate_succ', hh2.out.1, hs2, hh2.out.2, HW.out, List.flatMap_append]
            simp [Nm.labText])
          have HLj := Lib.hid hLj
          clear hs2 hh2 hLj
          have hLl : L.length ≤ 5 := by have := HLj.out; omega
          gi_wp2_with (gi_at_builtin; refine wpListIn_apd _ rfl _ _ 23 rfl encS encS_one w.heap.size 9 _ 16 Tryd.underlying23 infoStr rfl u9 L rfl (ownE_alloc ho _) ⟨_, 0, none⟩ 1 1 [l] rfl rfl (cell_one_new _ _ _) (by omega) (by omega) (by simp; omega) ?_; intro v2 w2 ho2 ha2 hn2; refine Hid.out ?_)
          refine Lib.hid ?_
          gi_wp2
          exact ⟨⟨v2, j + 1, L ++ [l], s2, rfl, rfl, by go_num, by omega, by have := HLj.out; simp; exact this, by omega, ho2, hb2.trans (ha2.of_alloc hwq).below, HN⟩, by simp [intOf]; omega⟩
        · have hz2 : (j : Int) = z := by omega
          have hj1 : 1 ≤ j := by omega
          have hj4 : j ≤ 4 := by omega
          obtain ⟨HJ, HP, HP3, HT, hl3, hn1⟩ := texts_facts l j g1 g2 hj1 hj4 L s hh2.out.1 hh2.out.2
          have hLL : ∀ x ∈ L, x.length ≤ 100000 := by
            rw [hh2.out.1]
            intro x hx
            rw [(List.mem_replicate.1 hx).2]; omega
          have HLL := Lib.hid hLL
          have rd := ownS_read ho
          have bb := hb2
          obtain ⟨s3, hs3⟩ : ∃ s3, s3 = s.take (s.length - 1) := ⟨_, rfl⟩
          have hext : (⟨s.toArray⟩ : ByteArray).extract 0 (s.length - 1) = ⟨s3.toArray⟩ := by rw [hs3, ext_cut]; simp
          obtain ⟨x, hx⟩ : ∃ x, x = Nm.made L := ⟨_, rfl⟩
          rw [← hx] at HJ HP HT hl3
          rw [← hs3] at HP3
          have hs3l : s3.length ≤ 1000 := by rw [hs3, List.length_take]; omega
          have hsl : s.length ≤ 1000 := by omega
          have hL4 : L.length ≤ 4 := by omega
          clear hs3 hx hLL hh2 hLj hz2
          have hF1 : Fence.wide.fn 26 := trivial
          have hF2 : Fence.wide.fn 13 := trivial
          have hF3 : Fence.wide.fn 23 := trivial
          have hF4 : Fence.wide.fn 11 := trivial
          gi_wp2_with (first
            | (gi_at_call 26; refine (callsIn_wide.2 (join_any L _ _ rd (by omega) HLL.out)).mono ?_; rw [HJ.out]; rintro e w' ⟨rfl, b1⟩; replace bb := below_trans bb b1; clear b1)
            | (gi_at_call 13; with_reducible refine (callsIn_wide.2 (parse_any s _ (by omega) (hv.below bb))).mono ?_; rw [HP.out]; rintro e w' ⟨rfl, b1⟩; replace bb := below_trans bb b1; clear b1)
            | (gi_at_call 13; with_reducible refine (callsIn_wide.2 (parse_any s3 _ (by omega) (hv.below bb))).mono ?_; rw [HP3.out]; rintro e w' ⟨rfl, b1⟩; replace bb := below_trans bb b1; clear b1)
            | (gi_at_call 23; with_reducible refine (callsIn_wide.2 (text_any x _ (by omega))).mono ?_; rw [HT.out]; rintro e w' ⟨rfl, b1⟩; replace bb := below_trans bb b1; clear b1)
            | (gi_at_call 11; refine (callsIn_wide.2 (awake_any _ (hv.below bb))).mono ?_; rintro e w' ⟨rfl, b1⟩; replace bb := below_trans bb b1; clear b1))
          go_ret
          exact ⟨rfl, bb⟩
end Go.Proofs.YtiodfiegknkceaaDoor
