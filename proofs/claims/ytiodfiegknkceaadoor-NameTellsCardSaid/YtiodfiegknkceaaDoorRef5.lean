/- The document's own ParseName (freshetref1). -/
import Derived.Test.YtiodfiegknkceaaDoorRef2
import Derived.Test.YtiodfiegknkceaaDoorRef4
import Derived.Test.YtiodfiegknkceaaDoorParseMath
namespace Go.Proofs.YtiodfiegknkceaaDoor
open Go.RowKit Go.Shelf
attribute [local go_sem] Oper.semAt_some

set_option maxHeartbeats 400000 in
theorem rdigit_any (c : UInt8) (w : World) :
    Calls Tryd.prog 38 #[.int .u8 (c.toNat : Int)] w fun e w' => e = .returned (.bool (Nm.isDig c)) ∧ w = w' := by
  have hlt := c.toNat_lt
  by_cases h1 : 48 ≤ c.toNat <;> by_cases h2 : c.toNat ≤ 57 <;>
  · have H := Lib.hid (show Nm.isDig c = decide (48 ≤ c.toNat ∧ c.toNat ≤ 57) from rfl)
    go_enter Tryd.func38, Tryd.ntmps38
    go_wp2
    all_goals go_ret
    all_goals exact ⟨ret_bool (by rw [H.out]; first | (simp [h1, h2]; done) | (simp; omega) | (rw [Bool.eq_iff_iff]; simp; omega)), rfl⟩

theorem drewN_below (B : Nat) (w : World) (n : Nat) : Below B w (w.drewN n) := ⟨rfl, rfl, rfl, Nat.le_refl _, fun _ _ => rfl⟩
def pnRet (s : List UInt8) : Value := .tuple #[.string ⟨((Nm.parse s).getD []).toArray⟩, .bool (Nm.parse s).isSome]
theorem pnRet_none {s : List UInt8} (h : Nm.parse s = none) : pnRet s = .tuple #[.string ⟨#[]⟩, .bool false] := by unfold pnRet; rw [h]; rfl
theorem pnRet_some {s n : List UInt8} (h : Nm.parse s = some n) : pnRet s = .tuple #[.string ⟨n.toArray⟩, .bool true] := by unfold pnRet; rw [h]; rfl

set_option maxRecDepth 100000 in
set_option maxHeartbeats 8000000 in
theorem rparse_any (s : List UInt8) (w : World) (hs : s.length ≤ 10000) :
    Calls Tryd.prog 14 #[.string ⟨s.toArray⟩] w fun e w' => e = .returned (pnRet s) ∧ Below w.heap.size w w' := by
  by_cases h46 : s = [46]
  · subst h46
    have H := Lib.hid (pnRet_some (s := [46]) (n := [0]) rfl)
    go_enter Tryd.func14, Tryd.ntmps14
    go_wp2
    go_ret2
    exact ⟨by rw [H.out]; rfl, Below.refl _ _⟩
  have t46 : (s == [46]) = false := by simpa using h46
  have H46 := Lib.hid h46
  clear h46
  refine (callsIn_wide (n := 9)).1 ?_
  refine callsIn_of_wp Tryd.func14 rfl trivial ?_ rfl
  simp only [Tryd.ntmps14, List.size_toArray, List.length_cons, List.length_nil, Nat.reduceAdd, Nat.reduceSub, Array.replicate_succ, Array.replicate_zero, List.push_toArray, List.append_toArray, List.nil_append, List.cons_append]
  have hF1 : Fence.wide.fn 38 := trivial
  have hF2 : Fence.wide.fn 27 := trivial
  have hF3 : Fence.wide.fn 24 := trivial
  gi_wp2
  gi_loopw [4, 5, 6] (fun s4 s5 s6 wr => ∃ (v1 : Value) (L : List (List UInt8)) (now : List UInt8) (i : Nat), s4 = v1 ∧ s5 = .string ⟨now.toArray⟩ ∧ s6 = .int .i64 (i : Int) ∧ i ≤ s.length ∧ L.length ≤ i ∧ now.length ≤ i ∧ OwnE encS 9 w.heap.size v1 L wr ∧ Below w.heap.size w wr ∧ Hid (Nm.encL L + now.length ≤ i ∧ Nm.lp (s.drop i) L now = Nm.lp s [] [])) (fun _ _ s6 _ => s.length + 1 - (intOf s6).toNat)
  case atStart => exact ⟨_, [], [], 0, rfl, rfl, rfl, by omega, by simp, by simp, ownE_nil _ _ _ _, Below.refl _ _, Lib.hid ⟨by simp [Nm.encL], rfl⟩⟩
  case round =>
    obtain ⟨v1, L, now, i, rfl, rfl, rfl, hi, hLi, hni, ho, hb, hh⟩ := hrel
    have hwr := hb.size
    by_cases hlt : i < s.length
    · have hc : ((⟨s.toArray⟩ : ByteArray)[i]'hlt) = s[i] := rfl
      have hlp := Nm.lp_cons s[i] (s.drop (i + 1)) L now
      rw [← Nm.drop_cons hlt, hh.out.2] at hlp
      obtain ⟨c, hcc⟩ : ∃ c, c = s[i] := ⟨_, rfl⟩
      rw [← hcc] at hc hlp
      have hc255 : c.toNat ≤ 255 := by have := c.toNat_lt; omega
      have HE := Lib.hid hh.out.1
      have hsl := run_cut (P := Tryd.prog) Tryd.underlying9 (l := s) (l' := [c]) (lo := (i : Int)) (hi := (i : Int) + 1) (by omega) (by omega) (by omega) (by rw [hcc, show ((i : Int) + 1).toNat - (i : Int).toNat = 1 by omega, Int.toNat_natCast, Nm.drop_cons hlt]; rfl) wr
      clear hcc hh
      by_cases h46 : c = 46
      · have t1 : ((c.toNat : Int) == 46) = true := by rw [h46]; rfl
        rw [if_pos h46] at hlp
        have HN : Hid (Nm.encL (L ++ [now]) + ([] : List UInt8).length ≤ i + 1 ∧ Nm.lp (s.drop (i + 1)) (L ++ [now]) [] = Nm.lp s [] []) := Lib.hid ⟨by have := HE.out; rw [Nm.encL_append]; simp only [Nm.encL, List.length_nil]; omega, hlp.symm⟩
        clear h46 hlp
        gi_wp2_with (gi_at_builtin; refine wpListIn_apd _ rfl _ _ 23 rfl encS encS_one w.heap.size 9 _ 16 Tryd.underlying23 infoStr rfl u4 L rfl (ownE_alloc ho _) ⟨_, 0, none⟩ 1 1 [now] rfl rfl (cell_one_new _ _ _) (by omega) (by omega) (by simp; omega) ?_; intro v2 w2 ho2 ha2 hn2; refine Hid.out ?_)
        refine Lib.hid ?_
        gi_wp2
        exact ⟨⟨v2, L ++ [now], [], i + 1, rfl, rfl, by go_num, by omega, by simp; omega, by simp, ho2, hb.trans (ha2.of_alloc hwr).below, HN⟩, by simp [intOf]; omega⟩
      · have t1 : ((c.toNat : Int) == 46) = false := nbeqI (b := 46) h46
        rw [if_neg h46] at hlp
        by_cases h92 : c = 92
        · have t2 : ((c.toNat : Int) == 92) = true := by rw [h92]; rfl
          by_cases hl1 : i + 1 < s.length
          · have ha : ((⟨s.toArray⟩ : ByteArray)[i + 1]'hl1) = s[i + 1] := rfl
            have hda := Nm.drop_cons hl1
            have hsl2 := run_cut (P := Tryd.prog) Tryd.underlying9 (l := s) (l' := [s[i + 1]]) (lo := (i : Int) + 1) (hi := (i : Int) + 2) (by omega) (by omega) (by omega) (by rw [show ((i : Int) + 2).toNat - ((i : Int) + 1).toNat = 1 by omega, show ((i : Int) + 1).toNat = i + 1 by omega, hda]; rfl) wr
            obtain ⟨a, haa⟩ : ∃ a, a = s[i + 1] := ⟨_, rfl⟩
            rw [← haa] at ha hsl2 hda
            have ha255 : a.toNat ≤ 255 := by have := a.toNat_lt; omega
            have hC : Nm.dig3 (s.drop (i + 1)) = false → Nm.lp s [] [] = Nm.lp (s.drop (i + 2)) L (now ++ [a]) := fun h => by
              rw [hlp, if_neg (by rw [h]; simp), if_pos ⟨h92, by rw [hda]; simp⟩, hda]
              rfl
            have HCC := Lib.hid hC
            clear hC haa
            have e1 := app_bytes now [a]
            obtain ⟨n2, hn2⟩ : ∃ n2, n2 = now ++ [a] := ⟨_, rfl⟩
            have hnl : n2.length ≤ now.length + 1 := by rw [hn2]; simp
            rw [← hn2] at e1 HCC
            have hnl2 : n2.length ≤ 10001 := by omega
            have HCL : Hid (Nm.encL L + n2.length ≤ i + 2) := Lib.hid (by have := HE.out; omega)
            clear hn2
            by_cases hl3 : i + 3 < s.length
            · have hb' : ((⟨s.toArray⟩ : ByteArray)[i + 2]'(show i + 2 < s.toArray.size by simp; omega)) = s[i + 2] := rfl
              have hd' : ((⟨s.toArray⟩ : ByteArray)[i + 3]'hl3) = s[i + 3] := rfl
              have hdb := Nm.drop_cons (n := s) (k := i + 2) (by omega)
              have hdd := Nm.drop_cons hl3
              obtain ⟨b, hbb⟩ : ∃ b, b = s[i + 2] := ⟨_, rfl⟩
              obtain ⟨d, hd3⟩ : ∃ d, d = s[i + 3] := ⟨_, rfl⟩
              rw [← hbb] at hb' hdb
              rw [← hd3] at hd' hdd
              have hdall : s.drop (i + 1) = a :: b :: d :: s.drop (i + 4) := by rw [hda, hdb, hdd]
              have h3eq : Nm.dig3 (s.drop (i + 1)) = (Nm.isDig a && Nm.isDig b && Nm.isDig d) := by rw [hdall]; rfl
              have HD3 := Lib.hid h3eq
              have hB : Nm.dig3 (s.drop (i + 1)) = true → Nm.lp s [] [] = Nm.lp (s.drop (i + 4)) L (now ++ [UInt8.ofNat (Nm.val3 a b d)]) := fun h => by
                rw [hlp, if_pos ⟨h92, h⟩, hdall]
                rfl
              have HBB := Lib.hid hB
              obtain ⟨xa, hxa⟩ : ∃ x, Nm.isDig a = x := ⟨_, rfl⟩
              obtain ⟨xb, hxb⟩ : ∃ x, Nm.isDig b = x := ⟨_, rfl⟩
              obtain ⟨xd, hxd⟩ : ∃ x, Nm.isDig d = x := ⟨_, rfl⟩
              rw [hxa, hxb, hxd] at HD3
              have HXA := Lib.hid hxa
              have HXB := Lib.hid hxb
              have HXD := Lib.hid hxd
              clear hbb hd3 hdall h3eq hB hda hdb hdd hlp h92 h46 hxa hxb hxd
              by_cases hall : xa = true ∧ xb = true ∧ xd = true
              · obtain ⟨rfl, rfl, rfl⟩ := hall
                have HN := Lib.hid (HBB.out (by rw [HD3.out]; rfl))
                obtain ⟨a1, a2⟩ := of_decide_eq_true HXA.out
                obtain ⟨b1, b2⟩ := of_decide_eq_true HXB.out
                obtain ⟨d1, d2⟩ := of_decide_eq_true HXD.out
                obtain ⟨x, hx⟩ : ∃ x, x = UInt8.ofNat (Nm.val3 a b d) := ⟨_, rfl⟩
                have hxv : (x.toNat : Int) = (((a.toNat : Int) - 48) * 100 + ((b.toNat : Int) - 48) * 10 + ((d.toNat : Int) - 48)) % 256 := by
                  rw [hx, UInt8.toNat_ofNat']
                  unfold Nm.val3
                  omega
                have hcv : ∀ q, (convert 44 9 (.slice (some ⟨wr.heap.size, 0, none⟩) 1 1)).run Tryd.prog ((wr.drewN q).alloc (.cells #[.int .u8 ((((a.toNat : Int) - 48) * 100 + ((b.toNat : Int) - 48) * 10 + ((d.toNat : Int) - 48)) % 256)] 5)) = .ok (.string ⟨[x].toArray⟩) ((wr.drewN q).alloc (.cells #[.int .u8 ((((a.toNat : Int) - 48) * 100 + ((b.toNat : Int) - 48) * 10 + ((d.toNat : Int) - 48)) % 256)] 5)) :=
                  fun q => run_lit_str [x] [.int .u8 ((((a.toNat : Int) - 48) * 100 + ((b.toNat : Int) - 48) * 10 + ((d.toNat : Int) - 48)) % 256)] (by simp only [List.map_cons, List.map_nil, encB, hxv]) (wr.drewN q)
                have e3 := app_bytes now [x]
                rw [← hx] at HN
                obtain ⟨n3, hn3⟩ : ∃ n3, n3 = now ++ [x] := ⟨_, rfl⟩
                have hnl3 : n3.length ≤ now.length + 1 := by rw [hn3]; simp
                rw [← hn3] at e3 HN
                have hnl4 : n3.length ≤ 10001 := by omega
                have HNN : Hid (Nm.encL L + n3.length ≤ i + 4 ∧ Nm.lp (s.drop (i + 4)) L n3 = Nm.lp s [] []) := Lib.hid ⟨by have := HE.out; omega, HN.out.symm⟩
                clear hx hxv hn3
                gi_wp2_with (first
                  | (gi_at_call 38; with_reducible refine (callsIn_wide.2 (rdigit_any a _)).mono ?_; rw [HXA.out]; rintro e w' ⟨rfl, rfl⟩)
                  | (gi_at_call 38; with_reducible refine (callsIn_wide.2 (rdigit_any b _)).mono ?_; rw [HXB.out]; rintro e w' ⟨rfl, rfl⟩)
                  | (gi_at_call 38; with_reducible refine (callsIn_wide.2 (rdigit_any d _)).mono ?_; rw [HXD.out]; rintro e w' ⟨rfl, rfl⟩))
                gi_big_quiet_th (fail)
                gi_wp2
                exact ⟨⟨u4, L, n3, i + 4, rfl, rfl, by go_num, by omega, by omega, by omega, ownE_below ho ((drewN_below _ _ _).alloc (Nat.le_refl _) _), (hb.trans (drewN_below _ _ _)).alloc hwr _, HNN⟩, by simp [intOf]; omega⟩
              · have HN := Lib.hid (HCC.out (by rw [HD3.out]; cases xa <;> cases xb <;> cases xd <;> simp_all))
                have HNN : Hid (Nm.encL L + n2.length ≤ i + 2 ∧ Nm.lp (s.drop (i + 2)) L n2 = Nm.lp s [] []) := Lib.hid ⟨HCL.out, HN.out.symm⟩
                have hcase : xa = false ∨ (xa = true ∧ xb = false) ∨ (xa = true ∧ xb = true ∧ xd = false) := by cases xa <;> cases xb <;> cases xd <;> simp_all
                clear hall
                rcases hcase with rfl | ⟨rfl, rfl⟩ | ⟨rfl, rfl, rfl⟩
                all_goals
                  gi_wp2_with (first
                    | (gi_at_call 38; with_reducible refine (callsIn_wide.2 (rdigit_any a _)).mono ?_; rw [HXA.out]; rintro e w' ⟨rfl, rfl⟩)
                    | (gi_at_call 38; with_reducible refine (callsIn_wide.2 (rdigit_any b _)).mono ?_; rw [HXB.out]; rintro e w' ⟨rfl, rfl⟩)
                    | (gi_at_call 38; with_reducible refine (callsIn_wide.2 (rdigit_any d _)).mono ?_; rw [HXD.out]; rintro e w' ⟨rfl, rfl⟩))
                  exact ⟨⟨u4, L, n2, i + 2, rfl, rfl, by go_num, by omega, by omega, by omega, ho, hb, HNN⟩, by simp [intOf]; omega⟩
            · have hd3 : Nm.dig3 (s.drop (i + 1)) = false := by
                have hl : (s.drop (i + 1)).length ≤ 2 := by rw [List.length_drop]; omega
                match hm : s.drop (i + 1), hl with
                | [], _ => rfl
                | [_], _ => rfl
                | [_, _], _ => rfl
              have HNN : Hid (Nm.encL L + n2.length ≤ i + 2 ∧ Nm.lp (s.drop (i + 2)) L n2 = Nm.lp s [] []) := Lib.hid ⟨HCL.out, (HCC.out hd3).symm⟩
              clear hd3 hda hlp h92 h46
              gi_wp2
              exact ⟨⟨u4, L, n2, i + 2, rfl, rfl, by go_num, by omega, by omega, by omega, ho, hb, HNN⟩, by simp [intOf]; omega⟩
          · have hnil : s.drop (i + 1) = [] := List.drop_of_length_le (by omega)
            rw [if_neg (by rw [hnil]; simp [Nm.dig3]), if_neg (by rw [hnil]; simp)] at hlp
            have e1 := app_bytes now [c]
            obtain ⟨n2, hn2⟩ : ∃ n2, n2 = now ++ [c] := ⟨_, rfl⟩
            have hnl : n2.length ≤ now.length + 1 := by rw [hn2]; simp
            rw [← hn2] at e1 hlp
            have HN : Hid (Nm.encL L + n2.length ≤ i + 1 ∧ Nm.lp (s.drop (i + 1)) L n2 = Nm.lp s [] []) := Lib.hid ⟨by have := HE.out; omega, hlp.symm⟩
            have hnl2 : n2.length ≤ 10001 := by omega
            clear h46 h92 hlp hn2 hnil
            gi_wp2
            exact ⟨⟨u4, L, n2, i + 1, rfl, rfl, by go_num, by omega, by omega, by omega, ho, hb, HN⟩, by simp [intOf]; omega⟩
        · have t2 : ((c.toNat : Int) == 92) = false := nbeqI (b := 92) h92
          rw [if_neg (fun e => h92 e.1), if_neg (fun e => h92 e.1)] at hlp
          have e1 := app_bytes now [c]
          obtain ⟨n2, hn2⟩ : ∃ n2, n2 = now ++ [c] := ⟨_, rfl⟩
          have hnl : n2.length ≤ now.length + 1 := by rw [hn2]; simp
          rw [← hn2] at e1 hlp
          have HN : Hid (Nm.encL L + n2.length ≤ i + 1 ∧ Nm.lp (s.drop (i + 1)) L n2 = Nm.lp s [] []) := Lib.hid ⟨by have := HE.out; omega, hlp.symm⟩
          clear h46 h92 hlp hn2
          have hnl2 : n2.length ≤ 10001 := by omega
          gi_wp2
          exact ⟨⟨u4, L, n2, i + 1, rfl, rfl, by go_num, by omega, by omega, by omega, ho, hb, HN⟩, by simp [intOf]; omega⟩
    · obtain rfl : i = s.length := by omega
      have hL := hh.out.2
      rw [List.drop_length, Nm.lp_nil] at hL
      have hle : Nm.encL L ≤ 50000 := by have := hh.out.1; omega
      have rd := ownS_read ho
      cases hj : Nm.join L with
      | none =>
        have HJ := Lib.hid (rjoinRet_none hj)
        rw [hL] at hj
        have H := Lib.hid (pnRet_none (Nm.pn_none H46.out hj))
        clear hj hL hh
        gi_wp2_with (gi_at_call 27; refine (callsIn_wide.2 (rjoin_any L _ _ rd hle)).mono ?_; rw [HJ.out]; rintro e w1 ⟨rfl, b1⟩)
        go_ret2
        exact ⟨by rw [H.out]; rfl, below_trans hb b1⟩
      | some n =>
        have HJ := Lib.hid (rjoinRet_some hj)
        have hnl : n.length ≤ 255 := (Nm.join_some.1 hj).2.2
        rw [hL] at hj
        by_cases ht : Nm.text n = s
        · have HT := Lib.hid ht
          have H := Lib.hid (pnRet_some (Nm.pn_some hj ht))
          clear hj hL hh ht
          gi_wp2_with (first
            | (gi_at_call 27; refine (callsIn_wide.2 (rjoin_any L _ _ rd hle)).mono ?_; rw [HJ.out]; rintro e w1 ⟨rfl, b1⟩)
            | (gi_at_call 24; refine (callsIn_wide.2 (rtext_any n _ (by omega))).mono ?_; rw [HT.out]; rintro e w2 ⟨rfl, b2⟩))
          go_ret2
          exact ⟨by rw [H.out]; rfl, below_trans (below_trans hb b1) b2⟩
        · obtain ⟨tx, htx⟩ : ∃ tx, Nm.text n = tx := ⟨_, rfl⟩
          have HT := Lib.hid htx
          have hts : (tx == s) = false := by rw [beq_eq_false_iff_ne, ← htx]; exact ht
          have H := Lib.hid (pnRet_none (Nm.pn_other H46.out hj ht))
          clear hj hL hh ht htx
          gi_wp2_with (first
            | (gi_at_call 27; refine (callsIn_wide.2 (rjoin_any L _ _ rd hle)).mono ?_; rw [HJ.out]; rintro e w1 ⟨rfl, b1⟩)
            | (gi_at_call 24; refine (callsIn_wide.2 (rtext_any n _ (by omega))).mono ?_; rw [HT.out]; rintro e w2 ⟨rfl, b2⟩))
          go_ret2
          exact ⟨by rw [H.out]; rfl, below_trans (below_trans hb b1) b2⟩
end Go.Proofs.YtiodfiegknkceaaDoor
