/- appendByte and Text. -/
import Derived.Test.YtiodfiegknkceaaDoorLabels
namespace Go.Proofs.YtiodfiegknkceaaDoor
open Go.RowKit Go.Shelf
attribute [local go_sem] Oper.semAt_some

namespace Nm
/-- How a byte of a label is written. -/
def byteText (c : UInt8) : List UInt8 :=
  if c = 46 ∨ c = 92 then [92, c]
  else if 33 ≤ c.toNat ∧ c.toNat ≤ 126 then [c]
  else [92, 48 + c / 100, 48 + c / 10 % 10, 48 + c % 10]
def labText (l : List UInt8) : List UInt8 := l.flatMap byteText ++ [46]
def text (n : List UInt8) : List UInt8 := if n = [0] then [46] else (labsD n).flatMap labText
end Nm

set_option maxRecDepth 100000 in
set_option maxHeartbeats 2000000 in
theorem appendByte_any (base : Nat) (sv : Value) (l : List UInt8) (c : UInt8) (w : World) (ho : OwnE encB 5 base sv l w) (hb : base ≤ w.heap.size) (hl : l.length ≤ 500000) :
    Calls Tryd.prog 45 #[sv, .int .u8 (c.toNat : Int)] w fun e w' => ∃ v', e = .returned v' ∧ OwnE encB 5 base v' (l ++ Nm.byteText c) w' ∧ Apd base sv (l ≠ []) w w' ∧ v' ≠ .slice none 0 0 := by
  refine (callsIn_wide (n := 6)).1 ?_
  refine callsIn_of_wp Tryd.func45 rfl trivial ?_ rfl
  simp only [Tryd.ntmps45, List.size_toArray, List.length_cons, List.length_nil, Nat.reduceAdd, Nat.reduceSub, Array.replicate_succ, Array.replicate_zero, List.push_toArray, List.append_toArray, List.nil_append, List.cons_append]
  have happ : ∀ (ws : List UInt8), Nm.byteText c = ws → ∀ v1 w1 o, OwnE encB 5 base v1 (l ++ ws) w1 → Apd base sv (l ≠ []) (w.alloc o) w1 → (v1 = .slice none 0 0 ↔ sv = .slice none 0 0 ∧ ws.length = 0) → 0 < ws.length →
      OwnE encB 5 base v1 (l ++ Nm.byteText c) w1 ∧ Apd base sv (l ≠ []) w w1 ∧ v1 ≠ .slice none 0 0 := fun ws e v1 w1 o h1 h2 h3 h4 => ⟨by rw [e]; exact h1, h2.of_alloc hb, fun h => by have := (h3.1 h).2; omega⟩
  have HA := Lib.hid happ
  clear happ
  by_cases h12 : c = 46 ∨ c = 92
  · have HT := Lib.hid (show Nm.byteText c = [92, c] by unfold Nm.byteText; rw [if_pos h12])
    by_cases h1 : c = 46
    · have t1 : ((c.toNat : Int) == 46) = true := by rw [h1]; rfl
      clear h1 h12
      gi_wp2_with (gi_at_builtin; refine wpListIn_apd _ rfl _ _ 44 rfl encB encB_one base 5 _ 1 Tryd.underlying44 infoByte rfl _ l rfl (ownE_alloc ho _) ⟨_, 0, none⟩ 2 2 [92, c] rfl rfl (cell_two_new _ _ _ _) (by omega) (by omega) (by simp; omega) ?_; intro v1 w1 ho1 ha1 hn1; refine Hid.out ?_)
      refine Lib.hid ?_
      obtain ⟨r1, r2, r3⟩ := HA.out _ HT.out v1 w1 _ ho1 ha1 hn1 (by simp)
      gi_wp2
      go_ret
      exact ⟨_, rfl, r1, r2, r3⟩
    · have t1 : ((c.toNat : Int) == 46) = false := by rw [beq_eq_false_iff_ne]; intro e; exact h1 (by rw [← UInt8.toNat_inj]; simpa using Int.ofNat.inj e)
      have t2 : ((c.toNat : Int) == 92) = true := by rw [h12.resolve_left h1]; rfl
      clear h1 h12
      gi_wp2_with (gi_at_builtin; refine wpListIn_apd _ rfl _ _ 44 rfl encB encB_one base 5 _ 1 Tryd.underlying44 infoByte rfl _ l rfl (ownE_alloc ho _) ⟨_, 0, none⟩ 2 2 [92, c] rfl rfl (cell_two_new _ _ _ _) (by omega) (by omega) (by simp; omega) ?_; intro v1 w1 ho1 ha1 hn1; refine Hid.out ?_)
      refine Lib.hid ?_
      obtain ⟨r1, r2, r3⟩ := HA.out _ HT.out v1 w1 _ ho1 ha1 hn1 (by simp)
      gi_wp2
      go_ret
      exact ⟨_, rfl, r1, r2, r3⟩
  · have t1 : ((c.toNat : Int) == 46) = false := by rw [beq_eq_false_iff_ne]; intro e; exact h12 (.inl (by rw [← UInt8.toNat_inj]; simpa using Int.ofNat.inj e))
    have t2 : ((c.toNat : Int) == 92) = false := by rw [beq_eq_false_iff_ne]; intro e; exact h12 (.inr (by rw [← UInt8.toNat_inj]; simpa using Int.ofNat.inj e))
    by_cases h3 : 33 ≤ c.toNat ∧ c.toNat ≤ 126
    · have HT := Lib.hid (show Nm.byteText c = [c] by unfold Nm.byteText; rw [if_neg h12, if_pos h3])
      have HS := Lib.hid (decide_eq_true h3)
      clear h12 h3
      gi_wp2_with (first
        | (refine ⟨trivial, ?_⟩; gi_at_call 53; refine (callsIn_wide.2 (shown_any c _)).mono ?_; rw [HS.out]; rintro e w' ⟨rfl, rfl⟩)
        | (gi_at_builtin; refine wpListIn_apd _ rfl _ _ 44 rfl encB encB_one base 5 _ 1 Tryd.underlying44 infoByte rfl _ l rfl (ownE_alloc ho _) ⟨_, 0, none⟩ 1 1 [c] rfl rfl (cell_one_new _ _ _) (by omega) (by omega) (by simp; omega) ?_; intro v1 w1 ho1 ha1 hn1; refine Hid.out ?_))
      refine Lib.hid ?_
      obtain ⟨r1, r2, r3⟩ := HA.out _ HT.out v1 w1 _ ho1 ha1 hn1 (by simp)
      gi_wp2
      go_ret
      exact ⟨_, rfl, r1, r2, r3⟩
    · have HT := Lib.hid (show Nm.byteText c = [92, 48 + c / 100, 48 + c / 10 % 10, 48 + c % 10] by unfold Nm.byteText; rw [if_neg h12, if_neg h3])
      have HS := Lib.hid (decide_eq_false h3)
      have hlt := c.toNat_lt
      clear h12 h3
      have d1 : ((48 + c / 100 : UInt8).toNat : Int) = 48 + (c.toNat : Int) / 100 := by simp; omega
      have d2 : ((48 + c / 10 % 10 : UInt8).toNat : Int) = 48 + (c.toNat : Int) / 10 % 10 := by simp; omega
      have d3 : ((48 + c % 10 : UInt8).toNat : Int) = 48 + (c.toNat : Int) % 10 := by simp; omega
      have D := Lib.hid (show [92, 48 + c / 100, 48 + c / 10 % 10, 48 + c % 10].map encB = [.int .u8 92, .int .u8 (48 + (c.toNat : Int) / 100), .int .u8 (48 + (c.toNat : Int) / 10 % 10), .int .u8 (48 + (c.toNat : Int) % 10)] by simp only [List.map_cons, List.map_nil, encB, d1, d2, d3]; rfl)
      clear d1 d2 d3
      gi_wp2_with (refine ⟨trivial, ?_⟩; gi_at_call 53; refine (callsIn_wide.2 (shown_any c _)).mono ?_; rw [HS.out]; rintro e w' ⟨rfl, rfl⟩; refine Hid.out ?_)
      refine Lib.hid ?_
      gi_wp2_with (gi_at_builtin; refine wpListIn_apd _ rfl _ _ 44 rfl encB encB_one base 5 _ 1 Tryd.underlying44 infoByte rfl _ l rfl (ownE_alloc ho _) ⟨_, 0, none⟩ 4 4 [92, 48 + c / 100, 48 + c / 10 % 10, 48 + c % 10] rfl rfl (by rw [D.out]; exact cells_new _ _ _) (by omega) (by omega) (by simp; omega) ?_; intro v1 w1 ho1 ha1 hn1; refine Hid.out ?_)
      refine Lib.hid ?_
      obtain ⟨r1, r2, r3⟩ := HA.out _ HT.out v1 w1 _ ho1 ha1 hn1 (by simp)
      gi_wp2
      go_ret
      exact ⟨_, rfl, r1, r2, r3⟩

theorem byteText_ne (c : UInt8) : Nm.byteText c ≠ [] := by unfold Nm.byteText; split <;> (try split) <;> simp
theorem byteText_len (c : UInt8) : (Nm.byteText c).length ≤ 4 := by unfold Nm.byteText; split <;> (try split) <;> simp
theorem flat_len (l : List UInt8) : (l.flatMap Nm.byteText).length ≤ 4 * l.length := by
  induction l with
  | nil => simp
  | cons c l ih => have := byteText_len c; simp only [List.flatMap_cons, List.length_append, List.length_cons]; omega
theorem flat_take {l : List UInt8} {k : Nat} (h : k < l.length) : (l.take (k + 1)).flatMap Nm.byteText = (l.take k).flatMap Nm.byteText ++ Nm.byteText l[k] := by
  rw [List.take_succ_eq_append_getElem h, List.flatMap_append]
  congr 1
  simp only [List.flatMap_cons, List.flatMap_nil, List.append_nil]
theorem labs_len (ls : List Lab) : (ls.flatMap (fun x => Nm.labText x.1)).length ≤ 1021 * ls.length := by
  induction ls with
  | nil => simp
  | cons c l ih =>
    have h1 := flat_len c.1
    have h2 := c.2
    simp only [List.flatMap_cons, List.length_append, List.length_cons, Nm.labText, List.length_nil]
    simp only [Nm.labText] at ih
    omega

set_option maxRecDepth 100000 in
set_option maxHeartbeats 4000000 in
theorem text_any (n : List UInt8) (w : World) (hs : n.length ≤ 100000) :
    Calls Tryd.prog 23 #[.string ⟨n.toArray⟩] w fun e w' => e = .returned (.string ⟨(Nm.text n).toArray⟩) ∧ Below w.heap.size w w' := by
  by_cases hz : n = [0]
  · subst hz
    have H := Lib.hid (show Nm.text [0] = [46] from rfl)
    go_enter Tryd.func23, Tryd.ntmps23
    go_wp2
    go_ret
    exact ⟨ret_str H.out.symm, Below.refl _ _⟩
  have H := Lib.hid (show Nm.text n = (Nm.labsD n).flatMap Nm.labText by unfold Nm.text; rw [if_neg hz])
  have hzb : (n == [0]) = false := by simpa using hz
  clear hz
  refine (callsIn_wide (n := 9)).1 ?_
  refine callsIn_of_wp_marks Tryd.func23 rfl trivial ?_ rfl
  simp only [Tryd.ntmps23, List.size_toArray, List.length_cons, List.length_nil, Nat.reduceAdd, Nat.reduceSub, Array.replicate_succ, Array.replicate_zero, List.push_toArray, List.append_toArray, List.nil_append, List.cons_append]
  gi_wp2_with (refine ⟨trivial, ?_⟩; gi_at_call 39; refine (callsIn_wide.2 (labels_any n _)).mono ?_; rintro e w' ⟨rfl, rfl⟩)
  have hbt := (Boxed.new w 44 (.slice none 0 0)).alloc (.cells #[.string ⟨n.toArray⟩] 9)
  have hbn := Boxed.new (w.alloc (.cells #[.slice none 0 0] 44)) 9 (.string ⟨n.toArray⟩)
  have hbw : Below w.heap.size w ((w.alloc (.cells #[.slice none 0 0] 44)).alloc (.cells #[.string ⟨n.toArray⟩] 9)) := ((Below.refl _ w).alloc (Nat.le_refl _) _).alloc (by simp) _
  have hsz : ((w.alloc (.cells #[.slice none 0 0] 44)).alloc (.cells #[.string ⟨n.toArray⟩] 9)).heap.size = w.heap.size + 2 := by simp
  simp only [World.size_alloc] at hbn
  generalize ((w.alloc (.cells #[.slice none 0 0] 44)).alloc (.cells #[.string ⟨n.toArray⟩] 9)) = W0 at *
  refine wpIn_rangeFunc_ownO rfl (by omega) (gf := 50) (lb := #[.pointer (some ⟨w.heap.size + 1, 0, none⟩)]) (by rfl) trivial (enters_of Tryd.func50 (by kernel_rfl) rfl)
    (labels_stops _ (by omega) (w.heap.size + 1) n hs _ hbn) ka_t ka_b (Below.refl _ _) (fun _ => rfl)
    (fun pre W => (∃ v, Boxed W w.heap.size 44 v ∧ W.ownsRow w.heap.size 5 1 v (pre.flatMap (fun x => Nm.labText x.1)).length ((pre.flatMap (fun x => Nm.labText x.1)).map encB) ∧ (v = .slice none 0 0 ∨ (pre.flatMap (fun x => Nm.labText x.1)) ≠ [])) ∧ Below w.heap.size w W)
    (fun _ _ _ => False)
    (OwnFrom.and (Own.from (holdsRow_own w.heap.size w.heap.size 44 5 1 (fun pre : List Lab => (pre.flatMap (fun x => Nm.labText x.1)).length) (fun pre => (pre.flatMap (fun x => Nm.labText x.1)).map encB) (fun pre v => v = .slice none 0 0 ∨ (pre.flatMap (fun x => Nm.labText x.1)) ≠ [])) _) (ownFrom_below (Nat.le_refl _) (by omega)))
    (fun _ _ _ _ _ hs _ _ => hs)
    ⟨⟨_, hbt, World.ownsRow_nil _ _ _ _, .inl rfl⟩, hbw⟩
    (fun x => { tmps := #[.string ⟨n.toArray⟩, undef, .string ⟨#[]⟩, .pointer (some ⟨w.heap.size, 0, none⟩), .string ⟨x.1.toArray⟩, undef, .string ⟨n.toArray⟩, .bool false, .string ⟨n.toArray⟩, .func (.func 50) #[] #[.pointer (some ⟨w.heap.size + 1, 0, none⟩)], .string ⟨x.1.toArray⟩, undef, undef, undef, undef, undef, undef, undef, undef, undef, undef, undef, undef, undef, undef, undef, undef], defers := [] }) ?assign ?body ?done ?stop
  case assign =>
    intro l x W K hK
    gi_wp2
    exact hK
  case body =>
    have hmx : Tryd.prog.follows .mixedOrders = true := by kernel_rfl
    rintro l1 pre x W ⟨⟨v0, hx, ho, hv⟩, hbl⟩ hlen
    have hTl := labs_len pre
    obtain ⟨T, hT⟩ : ∃ T, T = pre.flatMap (fun x => Nm.labText x.1) := ⟨_, rfl⟩
    rw [← hT] at ho hv hTl
    have HT := Lib.hid hT
    clear hT
    have hxl := x.2
    gi_wp2
    gi_loopw [13] (fun i wr => ∃ (k : Nat) (v : Value) (L : List UInt8), k ≤ x.1.length ∧ i = .int .i64 k ∧ Boxed wr w.heap.size 44 v ∧ OwnE encB 5 w.heap.size v L wr ∧ Hid (L = T ++ (x.1.take k).flatMap Nm.byteText) ∧ Hid (v = .slice none 0 0 ∨ L ≠ []) ∧ Below w.heap.size w wr ∧ KeepsOthers W wr ∧ KA (w.heap.size + 1) W wr) (fun i _ => x.1.length + 1 - (intOf i).toNat)
    case atStart => exact ⟨0, v0, T, by omega, rfl, hx, ho, Lib.hid (by simp), Lib.hid hv, hbl, KeepsOthers.refl _, KA.refl _ _⟩
    case round =>
      obtain ⟨k, v, L, hk, rfl, hxb, hoL, hL, hvL, hbw', hko, hka⟩ := hrel
      have hLl : L.length ≤ 400000 := by rw [hL.out, List.length_append]; have := flat_len (x.1.take k); rw [List.length_take] at this; omega
      have c3 := hxb.cell
      have f3 := hxb.frozen
      have hwr := hbw'.size
      have hF1 : Fence.wide.fn 45 := trivial
      by_cases hlt : k < x.1.length
      · have hc : ((⟨x.1.toArray⟩ : ByteArray)[k]'hlt) = x.1[k] := rfl
        gi_wp2
        gi_region_with_o (gi_at_call 45; refine (CallsIn.inRound l1 (callsIn_wide.2 (appendByte_any w.heap.size v L x.1[k] _ (by exact hoL) (by simp; omega) (by omega)))).mono ?_; rintro e W2 ⟨v2, rfl, ho2, ha2, hn2⟩; obtain ⟨g2, cp2, rfl⟩ := (ownE_form ho2).resolve_left (fun h => hn2 h.1); have hxb2 := ha2.boxed hvL.out _ _ _ hxb; have c3' := hxb2.cell; have f3' := hxb2.frozen)
        all_goals
          have E := Lib.hid (show (L ++ Nm.byteText x.1[k]).length = L.length + (Nm.byteText x.1[k]).length by simp)
          gi_wp2
          go_roundw
          case rel => exact ⟨k + 1, _, L ++ Nm.byteText x.1[k], by omega, by go_num, hxb2.set _, ownE_setBox (by first | exact ho2 | (rw [E.out] at ho2; exact ho2)) hxb2 (by decide) _, Lib.hid (by rw [hL.out, flat_take hlt, List.append_assoc]), Lib.hid (.inr (by simp [byteText_ne])), ((hbw'.drew).trans ha2.below).setCell (p := ⟨w.heap.size, 0, none⟩) (Nat.le_refl _) _, ((hko.trans (KeepsOthers.drew wr)).trans ha2.others).trans (KeepsOthers.setCell _ _ _), (hka.trans (fun k t u _ hb => ha2.boxed hvL.out k t u hb)).trans (KA.setCell (by omega) _ _)⟩
          case measure => simp [intOf]; omega
      · obtain rfl : k = x.1.length := by omega
        gi_wp2_with (gi_at_builtin; refine wpListIn_apd _ rfl _ _ 44 rfl encB encB_one w.heap.size 5 _ 1 Tryd.underlying44 infoByte rfl v L rfl (ownE_alloc hoL _) ⟨_, 0, none⟩ 1 1 [46] rfl rfl (cell_one_new _ _ _) (by omega) (by omega) (by simp; omega) ?_; intro v1 w1 ho1 ha1' hn1; have ha1 := ha1'.of_alloc hwr; have hxb1 := ha1.boxed hvL.out _ _ _ hxb; have c1 := hxb1.cell; have f1 := hxb1.frozen; obtain ⟨g1, cp1, rfl⟩ := (ownE_form ho1).resolve_left (fun h => by have := h.2; simp at this); refine Hid.out ?_)
        refine Lib.hid ?_
        have e3 : (pre ++ [x]).flatMap (fun x => Nm.labText x.1) = L ++ [46] := by
          rw [List.flatMap_append, ← HT.out, hL.out, List.take_length]
          simp only [List.flatMap_cons, List.flatMap_nil, List.append_nil, Nm.labText, List.append_assoc]
        have E3 := Lib.hid e3
        clear e3
        gi_wp2
        exact ⟨((hko.trans ha1.others).trans (KeepsOthers.setCell _ _ _)).from _, (hka.trans (fun k t u _ hb => ha1.boxed hvL.out k t u hb)).trans (KA.setCell (by omega) _ _), ⟨_, hxb1.set _, by rw [E3.out]; exact ownE_setBox (by first | exact ho1 | simpa using ho1) hxb1 (by decide) _, .inr (by rw [E3.out]; simp)⟩, (hbw'.trans ha1.below).setCell (p := ⟨w.heap.size, 0, none⟩) (Nat.le_refl _) _⟩
  case done =>
    rintro D ys W hD hS ⟨⟨v, hx, ho, hv⟩, hbl⟩ hK
    have c3 := hx.cell
    obtain ⟨T, hT⟩ : ∃ T, T = ys.flatMap (fun x : Lab => Nm.labText x.1) := ⟨_, rfl⟩
    rw [← hT] at ho
    have hst := run_str (src := 44) (dst := 9) (P := Tryd.prog) Tryd.underlying44 Tryd.underlying5 Tryd.underlying9 (base := w.heap.size) (v := v) (W := W) (l := T) ho
    have e3 : Nm.text n = T := by rw [H.out, ← hS, List.flatMap_map, hT]
    clear hT
    have E3 := Lib.hid e3
    clear e3 hS hv
    gi_wp2
    refine ⟨by simp, .inl ⟨_, _, rfl, run_takeDeferred hK, ?_⟩⟩
    exact ⟨_, results_tmp rfl _ _ _, by rw [E3.out]; rfl, below_putD hbl (by omega) hK rfl rfl _⟩
  case stop =>
    rintro D c pre W _ _ h _
    exact h.elim
end Go.Proofs.YtiodfiegknkceaaDoor
