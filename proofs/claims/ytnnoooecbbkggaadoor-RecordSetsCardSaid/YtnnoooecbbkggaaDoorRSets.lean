/- RecordSets: its walk. -/
import Derived.Test.YtnnoooecbbkggaaDoorRSetsMath
import Derived.Test.YtnnoooecbbkggaaDoorSames
import Derived.Test.YtnnoooecbbkggaaDoorSameSet
import Derived.Test.YtnnoooecbbkggaaDoorAppR
import Derived.Test.YtnnoooecbbkggaaDoorRound
import Derived.Test.YtnnoooecbbkggaaDoorRValid
import Derived.Deep.RegionHeld3
namespace Go.Proofs.YtnnoooecbbkggaaDoor
open Go.RowKit Go.Shelf
attribute [local go_sem] Oper.semAt_some

theorem fine_adr {n : List UInt8} {t x : Int} (hn : n.length ≤ 100) (ht : 0 ≤ t ∧ t ≤ 60) : Fine (Rd.adr n t x) := ⟨show n.length ≤ 100000 by omega, by simp [Rd.adr, Rd.four], by simp [Rd.adr], by simp [Rd.adr], ⟨show _ ≤ t by omega, show t ≤ _ by omega⟩⟩

theorem ownK_cap {α : Type} {enc : α → List Value} {k : Nat} {e : TypeId} {base len cap : Nat} {ao : Option Addr} {l : List α} {W : World} (h : OwnK enc k e base (.slice ao len cap) l W) : len = l.length ∧ len ≤ cap ∧ ∀ ad, ao = some ad → ad.block < W.heap.size := by
  have hl := h
  rcases h.2 with ⟨e1, hn⟩ | ⟨g, cap', cur, e1, _, _, hle, _⟩
  · injection e1 with e1 e2 e3
    subst e1 e2 e3
    exact ⟨hn.symm, Nat.le_refl _, fun ad h => by cases h⟩
  · injection e1 with e1 e2 e3
    subst e1 e2 e3
    exact ⟨rfl, hle, fun ad h => by cases h; exact (World.ownsRow.lt hl g rfl).2⟩

set_option maxRecDepth 100000 in
set_option maxHeartbeats 16000000 in
theorem rsets_any (n : List UInt8) (zs : List Int) (sv : Value) (turn more : Int) (w : World) (hn : n.length ≤ 9223372036854775807) (hr : ReadI sv zs w) (hz : ∀ z ∈ zs, -9223372036854775808 ≤ z ∧ z ≤ 9223372036854775807) (hlen : zs.length ≤ 9223372036854775807)
    (ht0 : -9223372036854775808 ≤ turn) (ht1 : turn ≤ 9223372036854775807) (hm0 : -9223372036854775808 ≤ more) (hm1 : more ≤ 9223372036854775807) (hv : VarsOk w) :
    Calls Tryd.prog 7 #[.string ⟨n.toArray⟩, sv, .int .i64 turn, .int .i64 more] w fun e w' => e = .returned (.bool true) ∧ Below w.heap.size w w' := by
  obtain ⟨ao, cap, rfl, hc⟩ := hr.form
  clear hr
  by_cases hg : 20 < zs.length ∨ 100 < n.length
  · have hcase : 20 < zs.length ∨ (zs.length ≤ 20 ∧ 100 < n.length) := by omega
    clear hg hc hz
    rcases hcase with g1 | ⟨g1, g2⟩
    all_goals
      go_enter Tryd.func7, Tryd.ntmps7
      go_wp2_with (go_at_call 9; refine (awake_any _ hv).mono ?_; rintro e w1 ⟨rfl, b1⟩)
      go_ret
      exact ⟨rfl, b1⟩
  have g1 : zs.length ≤ 20 := by omega
  have g2 : n.length ≤ 100 := by omega
  clear hg
  have HC := Lib.hid hc
  have HZ := Lib.hid hz
  clear hc hz
  have hV1 := fun W => rvalid_any n W (by omega)
  cases hvn : Nm.valid n
  · rw [hvn] at hV1
    go_enter Tryd.func7, Tryd.ntmps7
    go_wp2_with (first
      | (go_at_call 35; refine (hV1 _).mono ?_; rintro e w1 ⟨rfl, b1⟩)
      | (go_at_call 9; refine (awake_any _ (hv.below b1)).mono ?_; rintro e w2 ⟨rfl, b2⟩))
    go_ret
    exact ⟨rfl, below_trans b1 b2⟩
  rw [hvn] at hV1
  have HV1 := Lib.hid hV1
  clear hV1
  obtain ⟨hr0, hr1⟩ := roundI_bounds more 50 (by omega)
  have hro := fun W => round_any more 50 W (by omega) (by omega) hm0 hm1
  obtain ⟨kk, hkk⟩ : ∃ k, roundI more 50 = k := ⟨_, rfl⟩
  rw [hkk] at hro hr0 hr1
  have HRO := Lib.hid hro
  have HRX := Lib.hid (fun (z : Int) (hz : z ∈ zs) W => round_any z 50 W (by omega) (by omega) (HZ.out z hz).1 (HZ.out z hz).2)
  have HRB := Lib.hid (fun z => roundI_bounds z 50 (by omega))
  have HMK := Lib.hid (fun (x : Int) (h0 : 0 ≤ x) (h1 : x < 50) (t : Int) (h2 : 0 ≤ t ∧ t ≤ 60) W => by
    have h := makeA_any n t x W (by omega) (by omega) (by omega)
    rw [(Rd.makeA_yes h0 (by omega) ⟨h2.1, by omega⟩ hvn).1] at h
    exact h)
  clear hro hkk hvn
  obtain ⟨xs, hxs⟩ : ∃ xs, xs = zs.map (fun z => roundI z 50) := ⟨_, rfl⟩
  have hxl : xs.length = zs.length := by rw [hxs]; simp
  have HXB : Hid (∀ x ∈ xs, 0 ≤ x ∧ x < 50) := Lib.hid (fun x hx => by
    rw [hxs] at hx
    obtain ⟨z, _, rfl⟩ := List.mem_map.1 hx
    exact HRB.out z)
  have HXL := Lib.hid hxl
  have HXG : Hid (∀ (k : Nat) (h : k < zs.length), roundI zs[k] 50 = xs[k]'(by rw [HXL.out]; exact h)) := Lib.hid (fun k h => by simp [hxs])
  clear hxs
  go_enter Tryd.func7, Tryd.ntmps7
  clear hxl
  go_wp2_with fail
  refine (HV1.out _).mono ?_
  rintro e w1 ⟨rfl, b1⟩
  go_wp2_with fail
  refine (HRO.out _).mono ?_
  rintro e w2 ⟨rfl, rfl⟩
  go_wp2_with fail
  go_loopw [9, 10, 12] (fun u m i wr => ∃ (k : Nat) (b : Bool) (v : Value), v = u ∧ i = .int .i64 (k : Int) ∧ k ≤ zs.length ∧ m = .bool b ∧ Hid (b = (xs.take k).any (fun x => x == kk)) ∧ Hid (OwnK encRR 5 23 w.heap.size u ((xs.take k).map (Rd.adr n 60)) wr) ∧ Below w.heap.size w wr) (fun _ _ i _ => zs.length + 1 - (intOf i).toNat)
  case atStart => exact ⟨0, false, _, rfl, rfl, by omega, rfl, Lib.hid rfl, Lib.hid (ownK_nil ..), b1⟩
  case round =>
    obtain ⟨k, b, v, rfl, rfl, hk, rfl, hb, ho, hbl⟩ := hrel
    clear b1
    by_cases hlt : k < zs.length
    · obtain ⟨g, off, rfl, c0⟩ := HC.out k hlt
      replace c0 := keep_cell hbl c0
      have hx0 := HXB.out (xs[k]'(by rw [HXL.out]; exact hlt)) (List.getElem_mem _)
      have hrx := HRX.out zs[k] (List.getElem_mem hlt)
      rw [HXG.out k hlt] at hrx
      have htk : xs.take (k + 1) = xs.take k ++ [xs[k]'(by rw [HXL.out]; exact hlt)] := List.take_succ_eq_append_getElem _
      obtain ⟨x, hx⟩ : ∃ x, xs[k]'(by rw [HXL.out]; exact hlt) = x := ⟨_, rfl⟩
      rw [hx] at hx0 hrx htk
      obtain ⟨z, hzz⟩ : ∃ z, zs[k] = z := ⟨_, rfl⟩
      rw [hzz] at hrx c0
      obtain ⟨hx1, hx2⟩ := hx0
      have hmk := HMK.out x hx1 hx2 60 (by omega)
      have HMKx := Lib.hid hmk
      have HRXx := Lib.hid hrx
      obtain ⟨q, hq⟩ : ∃ q, (x == kk) = q := ⟨_, rfl⟩
      have HB : Hid ((b || q) = (xs.take (k + 1)).any (fun x => x == kk)) := Lib.hid (by rw [htk, List.any_append, ← hb.out, List.any_cons, hq]; simp)
      have HTK : Hid ((xs.take (k + 1)).map (Rd.adr n 60) = (xs.take k).map (Rd.adr n 60) ++ [Rd.adr n 60 x]) := Lib.hid (by rw [htk, List.map_append]; rfl)
      have hll : ((xs.take k).map (Rd.adr n 60)).length ≤ 20 := by rw [List.length_map, List.length_take, HXL.out]; omega
      obtain ⟨ks, hks⟩ : ∃ ks, (xs.take k).map (Rd.adr n 60) = ks := ⟨_, rfl⟩
      rw [hks] at ho HTK hll
      have HQ := Lib.hid hq
      clear htk hx hzz hmk hrx hq hks hb
      have hbs := hbl.size
      have HAD : Hid (Rd.adr n 60 x = ⟨n, 1, 1, 60, Rd.four x⟩) := Lib.hid rfl
      obtain ⟨F, hF⟩ : ∃ F, Rd.four x = F := ⟨_, rfl⟩
      rw [hF] at HMKx HAD
      clear hF
      unfold rrV at HMKx
      simp only at HMKx
      cases b
      all_goals
        go_wp2_with fail
        refine (HRXx.out _).mono ?_
        rintro e w3 ⟨rfl, rfl⟩
        go_wp2_with fail
        refine (HMKx.out _).mono ?_
        rintro e w3 ⟨rfl, b3⟩
        have ho3 := ownK_alloc (ownK_below ho.out b3) (.cells #[.string ⟨n.toArray⟩, .int .i64 1, .int .i64 1, .int .i64 60, .string ⟨F.toArray⟩] 23)
        have hb3 : Below w.heap.size w w3 := hbl.trans (b3.mono hbs)
        have hs3 : w.heap.size ≤ (w3.alloc (.cells #[.string ⟨n.toArray⟩, .int .i64 1, .int .i64 1, .int .i64 60, .string ⟨F.toArray⟩] 23)).heap.size := by have := hb3.size; simp; omega
        have hrd := readOne w3 ⟨n, 1, 1, 60, F⟩ 23 rfl
        go_wp2_with (at_builtin; refine wpList_apR _ rfl _ _ rfl w.heap.size _ ks rfl ho3 _ [⟨n, 1, 1, 60, F⟩] rfl hrd (by simp; omega) hs3 ?_; intro v1 w4 ho4 hg4 _; refine Hid.out ?_)
        refine Lib.hid ?_
        have hb4 : Below w.heap.size w w4 := ((hb3.alloc hb3.size _).trans (below_ownK ho3 hg4 hs3))
        have hqq := HQ.out
        go_wp2_with fail
        go_roundw
        case rel => exact ⟨k + 1, _, _, rfl, by go_num, by omega, rfl, HB, Lib.hid (by rw [HTK.out, HAD.out]; exact ho4), hb4⟩
        case measure => simp [intOf]; omega
    · obtain rfl : k = zs.length := by omega
      have ho' : OwnK encRR 5 23 w.heap.size v (xs.map (Rd.adr n 60)) wr := by
        have := ho.out
        rw [List.take_of_length_le (by rw [HXL.out]; exact Nat.le_refl _)] at this
        exact this
      have hb' : b = xs.any (fun x => x == kk) := by
        have := hb.out
        rw [List.take_of_length_le (by rw [HXL.out]; exact Nat.le_refl _)] at this
        exact this
      have hany := Rd.any_adr (n := n) ⟨hr0, hr1⟩ xs HXB.out
      rw [← hb'] at hany
      have hLf : ∀ r ∈ xs.map (Rd.adr n 60), Fine r := fun r hr => by
        obtain ⟨x, _, rfl⟩ := List.mem_map.1 hr
        exact fine_adr g2 (by omega)
      have hLl : (xs.map (Rd.adr n 60)).length ≤ 20 := by rw [List.length_map, HXL.out]; exact g1
      obtain ⟨L, hL⟩ : ∃ L, xs.map (Rd.adr n 60) = L := ⟨_, rfl⟩
      rw [hL] at ho' hany hLf hLl
      have HANY := Lib.hid hany
      have HLF := Lib.hid hLf
      clear hL hb' hany hLf ho hb
      have hrd := readR_own ho'
      obtain ⟨ao9, cap9, rfl, _⟩ := ownK_form ho'
      obtain ⟨_, hcap, hblk⟩ := ownK_cap ho'
      obtain ⟨hq0, hq1⟩ := roundI_bounds turn ((L.length : Int) + 1) (by omega)
      have hrt := fun W => round_any turn ((L.length : Int) + 1) W (by omega) (by omega) ht0 ht1
      obtain ⟨t, ht⟩ : ∃ t : Nat, roundI turn ((L.length : Int) + 1) = (t : Int) := ⟨(roundI turn ((L.length : Int) + 1)).toNat, by omega⟩
      rw [ht] at hrt hq0 hq1
      clear ht
      have htl : t ≤ L.length := by omega
      have HRT := Lib.hid hrt
      clear hrt
      obtain ⟨vd, hd1, hd2, hd3⟩ := run_dropR hrd hcap htl
      obtain ⟨vt, ht1', ht2', ht3'⟩ := run_takeR (ao := ao9) hcap htl
      have HD2 := Lib.hid hd2
      have HT2 := Lib.hid ht2'
      have HD3 := Lib.hid hd3
      have HT3 := Lib.hid ht3'
      have HRD := Lib.hid hrd
      have HBLK := Lib.hid hblk
      clear hd2 hd3 ht2' ht3' hrd hblk
      go_wp2_with fail
      refine (HRT.out _).mono ?_
      rintro e w3 ⟨rfl, rfl⟩
      go_wp2_with fail
      have own0 : OwnK encRR 5 23 wr.heap.size (.slice (some ⟨wr.heap.size, 0, none⟩) 0 0) [] (wr.drew.alloc (.cells #[] 23)) := World.ownsRow_lit (base := wr.heap.size) (e := 23) (size := 5) wr.drew #[] 0 (Nat.le_refl _) (by simp) rfl
      have bl0 : Below wr.heap.size wr (wr.drew.alloc (.cells #[] 23)) := ((Below.refl _ wr).drew).alloc (Nat.le_refl _) _
      have RDD : ∀ W', Below wr.heap.size wr W' → ReadR vd (L.drop t) W' := fun W' h => HD2.out _ (readR_below HRD.out h)
      have RDT : ∀ W', Below wr.heap.size wr W' → ReadR vt (L.take t) W' := fun W' h => HT2.out _ (readR_below HRD.out h)
      have hl1 : (L.drop t).length ≤ 20 := by rw [List.length_drop]; omega
      have hl2 : (L.take t).length ≤ 20 := by rw [List.length_take]; omega
      obtain ⟨D, hD⟩ : ∃ D, L.drop t = D := ⟨_, rfl⟩
      obtain ⟨T, hT⟩ : ∃ D, L.take t = D := ⟨_, rfl⟩
      rw [hD] at RDD hl1
      rw [hT] at RDT hl2
      have HDT : Hid (Rd.turned L t = ([] ++ D) ++ T ++ L) := Lib.hid (by unfold Rd.turned; rw [hD, hT])
      have HRDD := Lib.hid RDD
      have HRDT := Lib.hid RDT
      have HOWN0 := Lib.hid own0
      have HBL0 := Lib.hid bl0
      clear hD hT RDD RDT own0 bl0
      go_region_held3 (fun _ => True) (trivial) (first
        | (refine step_apR (by rfl) (.tmp 61) (.tmp 64) (by rfl) wr.heap.size _ [] (by rfl) (by exact HOWN0.out) _ D (by rfl) (by exact HRDD.out _ HBL0.out) (by simp; omega) (by simp) ?_; intro v4 w4 ho4 hg4 hv4; have hb4 := HBL0.out.trans (below_ownK HOWN0.out hg4 (by simp)); clear hg4)
        | (refine step_apR (by rfl) (.tmp 65) (.tmp 68) (by rfl) wr.heap.size _ _ (by rfl) (by exact ho4) _ T (by rfl) (by exact HRDT.out _ hb4) (by simp; omega) hb4.size ?_; intro v5 w5 ho5 hg5 hv5; have hb5 := hb4.trans (below_ownK ho4 hg5 hb4.size); clear hg5)
        | (refine step_apR (by rfl) (.tmp 69) (.tmp 70) (by rfl) wr.heap.size _ _ (by rfl) (by exact ho5) _ L (by rfl) (by exact readR_below HRD.out hb5) (by simp; omega) hb5.size ?_; intro v6 w6 ho6 hg6 hv6; have hb6 := hb5.trans (below_ownK ho5 hg6 hb5.size); clear hg6))
      rw [← HDT.out] at ho6
      clear ho4 ho5 hv4 hv5 hv6
      have hBm1 : ∀ x ∈ L, x ∈ Rd.turned L t := fun x hx => (Rd.mem_turned x).2 hx
      have hBm2 : ∀ x ∈ Rd.turned L t, x ∈ L := fun x hx => (Rd.mem_turned x).1 hx
      have hBs := Rd.same_turned L t
      have hBl : (Rd.turned L t).length ≤ 60 := by rw [HDT.out]; simp; omega
      obtain ⟨B, hB⟩ : ∃ B, Rd.turned L t = B := ⟨_, rfl⟩
      rw [hB] at hBm1 hBm2 hBs hBl ho6
      have hCs : Rd.sameSet L ([] ++ B ++ [Rd.adr n 5 kk]) = b := (Rd.same_more hBm1 hBm2).trans HANY.out
      have hBf : ∀ r ∈ B, Fine r := fun r hr => HLF.out r (hBm2 r hr)
      have hCf : ∀ r ∈ [] ++ B ++ [Rd.adr n 5 kk], Fine r := fun r hr => by
        simp only [List.nil_append, List.mem_append, List.mem_singleton] at hr
        rcases hr with hr | rfl
        · exact hBf r hr
        · exact fine_adr g2 (by omega)
      have hCl : ([] ++ B ++ [Rd.adr n 5 kk]).length ≤ 61 := by simp; omega
      have SLB := Lib.hid (fun W sa sb ha hb => sameSet_any L B sa sb W ha hb HLF.out hBf (by omega) (by omega))
      have SBL := Lib.hid (fun W sa sb ha hb => sameSet_any B L sa sb W ha hb hBf HLF.out (by omega) (by omega))
      have SLC := Lib.hid (fun W sa sb ha hb => sameSet_any L ([] ++ B ++ [Rd.adr n 5 kk]) sa sb W ha hb HLF.out hCf (by omega) (by omega))
      have SCL := Lib.hid (fun W sa sb ha hb => sameSet_any ([] ++ B ++ [Rd.adr n 5 kk]) L sa sb W ha hb hCf HLF.out (by omega) (by omega))
      rw [Rd.sameSet_symm B L] at SBL
      rw [Rd.sameSet_symm _ L] at SCL
      rw [hBs] at SLB SBL
      rw [hCs] at SLC SCL
      have hmk := HMK.out kk hr0 hr1 5 (by omega)
      have HADK : Hid (Rd.adr n 5 kk = ⟨n, 1, 1, 5, Rd.four kk⟩) := Lib.hid rfl
      obtain ⟨F, hF⟩ : ∃ F, Rd.four kk = F := ⟨_, rfl⟩
      rw [hF] at hmk HADK
      obtain ⟨R, hR⟩ : ∃ R, Rd.adr n 5 kk = R := ⟨_, rfl⟩
      rw [hR] at SLC SCL HADK hCl
      unfold rrV at hmk
      simp only at hmk
      have HMKK := Lib.hid hmk
      clear hBm1 hBm2 hBs hCs hBf hCf hB hF hR hmk
      have hrB := readR_own ho6
      have own7 : OwnK encRR 5 23 w6.heap.size (.slice (some ⟨w6.heap.size, 0, none⟩) 0 0) [] (w6.alloc (.cells #[] 23)) := World.ownsRow_lit (base := w6.heap.size) (e := 23) (size := 5) w6 #[] 0 (Nat.le_refl _) (by simp) rfl
      have hrB7 := readR_below hrB ((Below.refl _ w6).alloc (Nat.le_refl _) (.cells #[] 23))
      have hb7 : Below w6.heap.size w6 (w6.alloc (.cells #[] 23)) := (Below.refl _ w6).alloc (Nat.le_refl _) _
      go_wp2_with (at_builtin; refine wpList_apR _ rfl _ _ rfl w6.heap.size _ [] rfl own7 _ B rfl hrB7 (by simp; omega) (by simp) ?_; intro v8 w8 ho8 hg8 _; refine Hid.out ?_)
      refine Lib.hid ?_
      have hb8 : Below w6.heap.size w6 w8 := hb7.trans (below_ownK own7 hg8 (by simp))
      clear hg8 hrB7 own7 hb7
      go_wp2_with fail
      refine (HMKK.out _).mono ?_
      rintro e w9 ⟨rfl, b9⟩
      have hb9 := below_trans hb8 b9
      have ho9 := ownK_alloc (ownK_below ho8 b9) (.cells #[.string ⟨n.toArray⟩, .int .i64 1, .int .i64 1, .int .i64 5, .string ⟨F.toArray⟩] 23)
      have hs9 : w6.heap.size ≤ (w9.alloc (.cells #[.string ⟨n.toArray⟩, .int .i64 1, .int .i64 1, .int .i64 5, .string ⟨F.toArray⟩] 23)).heap.size := by have := hb9.size; simp; omega
      have hrd9 := readOne w9 ⟨n, 1, 1, 5, F⟩ 23 rfl
      go_wp2_with (at_builtin; refine wpList_apR _ rfl _ _ rfl w6.heap.size _ _ rfl ho9 _ [⟨n, 1, 1, 5, F⟩] rfl hrd9 (by simp; omega) hs9 ?_; intro v10 w10 ho10 hg10 _; refine Hid.out ?_)
      refine Lib.hid ?_
      rw [← HADK.out] at ho10
      have hb10 : Below w6.heap.size w6 w10 := (hb9.alloc hb9.size _).trans (below_ownK ho9 hg10 hs9)
      clear hg10 ho9 ho8 hs9 hrd9 b9 hb8 hb9
      have rL10 := readR_below HRD.out (below_trans hb6 hb10)
      have rB10 := readR_below hrB hb10
      have rC10 := readR_own ho10
      have bb10 := below_trans hbl (below_trans hb6 hb10)
      clear ho6 ho10 hrB
      go_wp2_with fail
      refine (SLB.out _ _ _ rL10 rB10).mono ?_
      rintro e w11 ⟨rfl, b11⟩
      go_wp2_with fail
      refine (SBL.out _ _ _ (readR_below rB10 b11) (readR_below rL10 b11)).mono ?_
      rintro e w12 ⟨rfl, b12⟩
      replace b12 := below_trans b11 b12
      clear b11
      go_wp2_with fail
      refine (SLC.out _ _ _ (readR_below rL10 b12) (readR_below rC10 b12)).mono ?_
      rintro e w13 ⟨rfl, b13⟩
      replace b13 := below_trans b12 b13
      clear b12
      go_wp2_with fail
      refine (SCL.out _ _ _ (readR_below rC10 b13) (readR_below rL10 b13)).mono ?_
      rintro e w14 ⟨rfl, b14⟩
      replace b14 := below_trans bb10 (below_trans b13 b14)
      clear b13
      go_wp2_with fail
      refine (awake_any _ (hv.below b14)).mono ?_
      rintro e w15 ⟨rfl, b15⟩
      replace b15 := below_trans b14 b15
      go_wp2
      go_ret
      exact ⟨rfl, b15⟩
end Go.Proofs.YtnnoooecbbkggaaDoor
