/- Name of what is a name, of the document's own Writer. -/
import Derived.Test.YtipabiiffaipdaaRwName
namespace Go.Proofs.Ytipabiiffaipdaa
open Go.RowKit Go.Shelf Go.Maps
attribute [local go_sem] Oper.semAt_some

theorem ptr_enc {j : Nat} (h : j < 16384) : (two (49152 + (j : Int))).map encB = [.int .u8 (192 + (j : Int) / 256), .int .u8 ((j : Int) % 256)] := by
  simp only [two, List.map_cons, List.map_nil, encB, byteOf_int]
  rw [show (49152 + (j : Int)) / 256 % 256 = 192 + (j : Int) / 256 by omega, show (49152 + (j : Int)) % 256 = (j : Int) % 256 by omega]

set_option maxRecDepth 100000 in
set_option maxHeartbeats 8000000 in
theorem rname_yes (R : Nat) (M : MS) (f : Nat → Prop) (n : List UInt8) (sq : Bool) (w : World) (h : RwE R M f w) (hf : ∀ k, f k → k < w.heap.size) (hn : n.length ≤ 100000) (hv : Nm.valid n = true) (he : M.pl.length = M.b.length) (hl : M.b.length + n.length ≤ 800000) :
    Calls Try.prog 20 #[.pointer (some ⟨R, 0, none⟩), .string ⟨n.toArray⟩, .bool sq] w (RAct R (M.nm sq (Nm.labsD n)) f w) := by
  obtain ⟨_, hmade, hgood, _⟩ := Nm.labs_of_valid hv
  have henc : Nm.encL (Nm.labsD n) + 1 = n.length := by conv => rhs; rw [hmade, Nm.made_length]
  have HH := Lib.hid h
  have HV := Lib.hid hv
  have HE := Lib.hid he
  have HF := Lib.hid hf
  obtain ⟨ls, hls⟩ : ∃ ls, ls = Nm.labsD n := ⟨_, rfl⟩
  rw [← hls] at henc hgood ⊢
  have HLS := Lib.hid hls
  have HENC := Lib.hid henc
  have HG := Lib.hid hgood
  clear h hv he hf hls henc hmade hgood
  have hll : ls.length ≤ 100000 := by have := HENC.out; have := @Nm.length_le_encL ls; omega
  go_enter Try.func20, Try.ntmps20
  go_wp2_with fail
  refine (rlabels_any n w hn).mono ?_
  rintro e w1 ⟨v, L, he, ho, hb, hL, _⟩
  rw [HV.out] at he
  subst he
  have hL' := hL HV.out
  rw [← HLS.out] at hL'
  subst hL'
  obtain ⟨aov, cpv, rfl⟩ := ownE_len ho
  have hfo : ∀ g, (Value.slice aov L.length cpv).ownBlock = some g → ¬ f g := fun g hg hk => by
    have h1 := (World.ownsRow.lt ho g hg).1
    have h2 := HF.out g hk
    omega
  have HB := Lib.hid hb
  have HO := Lib.hid ho
  have HFO := Lib.hid hfo
  have HS := Lib.hid (NmAt.start (ls := L) (sq := sq) (HH.out.below hb) HE.out)
  clear hL ho hb hfo
  go_wp2_with fail
  go_loopw [8] (fun i wr => ∃ (k : Nat) (N : MS), i = .int .i64 (k : Int) ∧ k ≤ L.length ∧ Hid (NmAt R M L sq f w1 k N wr)) (fun i _ => L.length - (intOf i).toNat)
  case atStart => exact ⟨0, M, rfl, Nat.zero_le _, HS⟩
  case round =>
    obtain ⟨k, N, rfl, hk, hS⟩ := hrel
    by_cases hlt : k < L.length
    · have hO := hS.out.st.own HO.out HFO.out
      rcases ownE_form hO with ⟨_, e0⟩ | ⟨g, cp, e0⟩
      · rw [e0] at hlt; simp at hlt
      · obtain ⟨rfl, _, rfl⟩ := Value.slice.inj e0
        obtain ⟨hrun, hread⟩ := run_dropS hO hlt
        have hr0 := hrun wr
        have cz := ownE_cell hO hlt
        obtain ⟨l, hl0⟩ : ∃ l, l = L[k] := ⟨_, rfl⟩
        have hdrop : L.drop k = l :: L.drop (k + 1) := by rw [hl0]; exact List.drop_eq_getElem_cons hlt
        rw [← hl0] at cz
        obtain ⟨hl1, hl2⟩ := HG.out l (by rw [hl0]; exact List.getElem_mem hlt)
        have HD := Lib.hid hdrop
        have HRD := Lib.hid hread
        have hlen := hS.out.len
        have hencd : Nm.encL (L.drop k) = 1 + l.length + Nm.encL (L.drop (k + 1)) := by rw [hdrop]; simp [Nm.encL]
        have hNb : N.b.length + (1 + l.length) + Nm.encL (L.drop (k + 1)) ≤ 800000 := by have := HENC.out; omega
        have hed : Nm.encL (L.drop k) ≤ 100000 := by have := HENC.out; have := Nm.encL_take_drop L k; omega
        have HED := Lib.hid hed
        have HL0 := Lib.hid hl0
        have HNB := Lib.hid hNb
        replace cz : wr.cell? ⟨g, k, none⟩ = some (.string ⟨l.toArray⟩) := by rw [Nat.zero_add] at cz; exact cz
        have HCZ := Lib.hid cz
        have HO2 := Lib.hid hO
        clear hO hrun hread cz hl0 hdrop hlen hencd hed e0
        go_wp2_with fail
        refine (rmade_any (L.drop k) _ wr HRD.out HED.out).mono ?_
        rintro e w2 ⟨rfl, b2⟩
        have hst2 := hS.out.st.below b2
        have HST := Lib.hid hst2
        have HO3 := Lib.hid (ownE_below HO2.out b2)
        have cz2 := (b2.cell (cell_lt HCZ.out)).trans HCZ.out
        clear hst2 hr0
        obtain ⟨vb2, vp2, h2⟩ := HST.out.rw
        obtain ⟨aob, cpb, rfl⟩ := ownE_len h2.ob
        obtain ⟨aop, cpp, rfl⟩ := ownE_len h2.op
        have d1 := blk_cell h2.heap 1 (v := .slice aob N.b.length cpb) rfl
        have d2 := blk_cell h2.heap 2 (v := .slice aop N.pl.length cpp) rfl
        have hlb : N.b.length ≤ 800000 := by have := HNB.out; omega
        have hpe : N.pl.length ≤ 800000 := by rw [hS.out.even]; exact hlb
        have H2 := Lib.hid h2
        clear h2 hNb
        cases sq with
        | false =>
          go_wp2_with fail
          refine (put_st R N f w1 [UInt8.ofNat l.length] _ _ (HST.out.below ((Below.refl _ _).alloc (Nat.le_refl _) _)) (readB_lit _ [UInt8.ofNat l.length] [_] _ 1 rfl (by first | (simp [encB]; done) | (simp [encB]; omega))) hS.out.even (by simp; omega)).mono ?_
          rintro e w3 ⟨rfl, hst3⟩
          have HST3 := Lib.hid hst3
          have cz3 := ownE_cell (hst3.own HO.out HFO.out) hlt
          rw [← HL0.out, Nat.zero_add] at cz3
          replace cz3 : w3.cell? ⟨g, k, none⟩ = some (.string ⟨l.toArray⟩) := cz3
          obtain ⟨cpc, w4, hcv, hrc, hbc⟩ := conv_bytes w3 l
          have HRC := Lib.hid hrc
          have HBC := Lib.hid hbc
          clear hst3 hrc hbc d1 d2 cz2
          go_wp2_with fail
          refine (put_st R _ f w1 l _ w4 (HST3.out.below HBC.out) HRC.out (put_even hS.out.even _) (by rw [put_len]; have := HNB.out; simp; omega)).mono ?_
          rintro e w5 ⟨rfl, hst5⟩
          have HST5 := Lib.hid hst5
          clear hst5 hcv cz3
          go_wp2_with fail
          have hnm := hS.out.nm
          rw [HD.out, MS.nm] at hnm
          exact ⟨⟨k + 1, _, by simp, by omega, Lib.hid ⟨HST5.out, hnm, put_even (put_even hS.out.even _) _, by rw [put_len, put_len]; have h7 := hS.out.len; rw [HD.out] at h7; simp [Nm.encL] at h7 ⊢; omega⟩⟩, by simp [intOf]; omega⟩
        | true =>
          obtain ⟨key, hkey⟩ : ∃ key, key = Nm.made (L.drop k) := ⟨_, rfl⟩
          rw [← hkey]
          have HK := Lib.hid hkey
          clear hkey
          go_wp2_with fail
          go_loop [10] (fun jv => ∃ j : Nat, jv = .int .i64 (j : Int) ∧ j ≤ N.pl.length ∧ j ≤ 16384 ∧ Hid (∀ i, i < j → N.pl[i]? ≠ some key)) (fun jv => 16384 - (intOf jv).toNat)
          case atStart => exact ⟨0, rfl, Nat.zero_le _, Nat.zero_le _, Lib.hid (fun i hi => by omega)⟩
          case round =>
            obtain ⟨j, rfl, hj1, hj2, hJ⟩ := hrel
            by_cases hj : j < N.pl.length ∧ j < 16384
            · obtain ⟨hja, hjb⟩ := hj
              obtain ⟨x, hx⟩ : ∃ x, x = N.pl[j] := ⟨_, rfl⟩
              rcases ownE_form H2.out.op with ⟨_, e0⟩ | ⟨gp, cp0, e0⟩
              · rw [e0] at hja; simp at hja
              · obtain ⟨rfl, _, rfl⟩ := Value.slice.inj e0
                have cx := ownE_cell H2.out.op hja
                rw [← hx, Nat.zero_add] at cx
                replace cx : w2.cell? ⟨gp, j, none⟩ = some (.string ⟨x.toArray⟩) := cx
                have HX := Lib.hid hx
                clear hx e0
                by_cases hxk : x = key
                · subst hxk
                  have HPL : Hid (placeOf x N.pl = some j) := Lib.hid (place_iff.2 ⟨hjb, by rw [HX.out]; exact List.getElem?_eq_getElem hja, hJ.out⟩)
                  go_wp2_with fail
                  refine (put_st R N f w1 (two (49152 + (j : Int))) _ _ (HST.out.below ((Below.refl _ _).alloc (Nat.le_refl _) _)) (readB_lit _ (two (49152 + (j : Int))) [_, _] _ 2 rfl (ptr_enc hjb)) hS.out.even (by rw [two_len]; omega)).mono ?_
                  rintro e w3 ⟨rfl, hst⟩
                  go_wp2
                  go_end0
                  have hnm := hS.out.nm
                  rw [HD.out, MS.nm, if_pos rfl, ← HD.out, ← HK.out, HPL.out] at hnm
                  rw [← hnm]
                  exact ⟨rfl, (Turn.of_below HB.out).then hst.turn, hst.rw.widen fun j _ hj => hj.imp id fun h' => ⟨by have := HB.out.size; omega, h'.2⟩⟩
                · have hne : (x == key) = false := by rw [beq_eq_false_iff_ne]; exact hxk
                  go_wp2_with fail
                  exact ⟨⟨j + 1, by simp, by omega, by omega, Lib.hid (fun i hi e => by
                    by_cases hij : i = j
                    · subst hij
                      rw [List.getElem?_eq_getElem hja, ← HX.out] at e
                      exact hxk (Option.some.inj e)
                    · exact hJ.out i (by omega) e)⟩, by simp [intOf]; omega⟩
            · have HNO : Hid (placeOf key N.pl = none) := Lib.hid (place_none fun i hi1 hi2 => hJ.out i (by omega))
              have hcase : N.pl.length ≤ j ∨ (j < N.pl.length ∧ 16384 ≤ j) := by omega
              clear hj hJ
              rcases hcase with hc | ⟨hc1, hc2⟩
              all_goals
                go_wp2_with fail
                refine (put_st R N f w1 [UInt8.ofNat l.length] _ _ (HST.out.below ((Below.refl _ _).alloc (Nat.le_refl _) _)) (readB_lit _ [UInt8.ofNat l.length] [_] _ 1 rfl (by first | (simp [encB]; done) | (simp [encB]; omega))) hS.out.even (by simp; omega)).mono ?_
                rintro e w3 ⟨rfl, hst3⟩
                have HST3 := Lib.hid hst3
                have cz3 := ownE_cell (hst3.own HO.out HFO.out) hlt
                rw [← HL0.out, Nat.zero_add] at cz3
                replace cz3 : w3.cell? ⟨g, k, none⟩ = some (.string ⟨l.toArray⟩) := cz3
                obtain ⟨cpc, w4, hcv, hrc, hbc⟩ := conv_bytes w3 l
                have HRC := Lib.hid hrc
                have HBC := Lib.hid hbc
                clear hst3 hrc hbc d1 d2 cz2
                go_wp2_with fail
                refine (put_st R _ f w1 l _ w4 (HST3.out.below HBC.out) HRC.out (put_even hS.out.even _) (by rw [put_len]; have := HNB.out; simp; omega)).mono ?_
                rintro e w5 ⟨rfl, hst5⟩
                obtain ⟨p, hp⟩ : ∃ p, p = N.b.length := ⟨_, rfl⟩
                obtain ⟨N2, hN2⟩ : ∃ N2, N2 = (N.put [UInt8.ofNat l.length]).put l := ⟨_, rfl⟩
                rw [← hN2] at hst5
                have HST5 := Lib.hid hst5
                have HP := Lib.hid hp
                have HN2 := Lib.hid hN2
                have he2 : N2.pl.length = N2.b.length := by rw [hN2]; exact put_even (put_even hS.out.even _) _
                have hl2 : N2.b.length = p + (1 + l.length) := by rw [hN2, put_len, put_len, hp]; simp; omega
                have HE2 := Lib.hid he2
                have HL2 := Lib.hid hl2
                have hnm := hS.out.nm
                rw [HD.out, MS.nm, if_pos rfl, ← HD.out, ← HK.out, HNO.out] at hnm
                have hlab : N.lab true l key = N2.mark p key := by unfold MS.lab; rw [if_pos rfl, ← hN2, ← hp]
                simp only at hnm
                rw [hlab] at hnm
                have hlen2 : N2.b.length + Nm.encL (L.drop (k + 1)) = M.b.length + Nm.encL L := by have h7 := hS.out.len; rw [HD.out] at h7; simp only [Nm.encL] at h7; rw [hl2, hp]; omega
                have HNM := Lib.hid hnm
                have HLEN2 := Lib.hid hlen2
                obtain ⟨vb5, vp5, h5⟩ := hst5.rw
                obtain ⟨aob5, cpb5, rfl⟩ := ownE_len h5.ob
                obtain ⟨aop5, cpp5, rfl⟩ := ownE_len h5.op
                have hpl : p + 1 < N2.pl.length := by rw [he2, hl2]; omega
                have hpl2 : N2.pl.length ≤ 900000 := by rw [he2, hl2, hp]; omega
                rcases ownE_form h5.op with ⟨_, e0⟩ | ⟨gp, cp0, e0⟩
                · rw [e0] at hpl; simp at hpl
                · obtain ⟨rfl, _, rfl⟩ := Value.slice.inj e0
                  have d5 := blk_cell h5.heap 2 (v := .slice (some ⟨gp, 0, none⟩) N2.pl.length cpp5) rfl
                  have cx := ownE_cell h5.op (j := p) (by omega)
                  rw [Nat.zero_add] at cx
                  obtain ⟨x, hx⟩ : ∃ x, x = N2.pl[p]'(by omega) := ⟨_, rfl⟩
                  rw [← hx] at cx
                  replace cx : w5.cell? ⟨gp, p, none⟩ = some (.string ⟨x.toArray⟩) := cx
                  obtain ⟨cur5, hcur5⟩ := ownG_block h5.op rfl
                  have fx := blk_frozen hcur5 p
                  have H5 := Lib.hid h5
                  have hpi : (p : Int) < (N2.pl.length : Int) := by omega
                  clear hst5 hcv cz3 hp hN2 he2 hl2 hnm hlab hlen2 h5 e0 hx hcur5
                  rw [← HP.out]
                  have hp800 : p ≤ 800000 := by rw [HP.out]; exact hlb
                  by_cases h16 : p < 16384
                  · go_wp2_with fail
                    have hm : N2.mark p key = { N2 with pl := N2.pl.set p key } := by unfold MS.mark; rw [if_pos h16]
                    obtain ⟨t6, r6⟩ := H5.out.setP hpl key
                    have hst6 : St R (N2.mark p key) f w1 (w5.setCell ⟨gp, p, none⟩ (encS key)) := by
                      rw [hm]
                      exact ⟨HST5.out.turn.trans t6, ⟨_, _, r6.widen fun j _ hj => hj.imp id fun h' => ⟨h'.1, by simpa [World.setCell] using h'.2⟩⟩⟩
                    exact ⟨⟨k + 1, N2.mark p key, by simp, by omega, Lib.hid ⟨hst6, HNM.out, by rw [hm]; simpa using HE2.out, by rw [hm]; exact HLEN2.out⟩⟩, by simp [intOf]; omega⟩
                  · go_wp2_with fail
                    have hm : N2.mark p key = N2 := by unfold MS.mark; rw [if_neg h16]
                    exact ⟨⟨k + 1, N2.mark p key, by simp, by omega, Lib.hid ⟨by rw [hm]; exact HST5.out, HNM.out, by rw [hm]; exact HE2.out, by rw [hm]; exact HLEN2.out⟩⟩, by simp [intOf]; omega⟩
    · obtain rfl : k = L.length := by omega
      go_wp2_with fail
      refine (put_st R N f w1 [0] _ _ (hS.out.st.below ((Below.refl _ _).alloc (Nat.le_refl _) _)) (readB_lit _ [0] [_] _ 1 rfl (by simp [encB])) hS.out.even (by have := hS.out.len; have := HENC.out; simp; omega)).mono ?_
      rintro e w3 ⟨rfl, hst⟩
      go_wp2
      go_end0
      have hnm := hS.out.nm
      rw [List.drop_length, MS.nm] at hnm
      rw [← hnm]
      exact ⟨rfl, (Turn.of_below HB.out).then hst.turn, hst.rw.widen fun j _ hj => hj.imp id fun h' => ⟨by have := HB.out.size; omega, h'.2⟩⟩
end Go.Proofs.Ytipabiiffaipdaa
