/- WnameBack: its walk. -/
import Derived.Test.YtipabiiffaipdaaBackOwn
import Derived.Test.YtipabiiffaipdaaGets
import Derived.Test.YtipabiiffaipdaaRValid
import Derived.Test.YtipabiiffaipdaaShort
import Derived.Laws.BitsLemmas
namespace Go.Proofs.Ytipabiiffaipdaa
open Go.RowKit Go.Shelf Go.Maps
attribute [local go_sem] Oper.semAt_some

/-- The Writer between the rounds. -/
structure Mid (L : List (List UInt8)) (ats : List Nat) (S : WS) : Prop where
  good : Good S
  ok : TabOk S
  most : S.most = 4000
  bad : S.bad = false
  size : S.size + ats.length ≤ 2 + ats.length + Nm.encL (L.take ats.length)
  tab : S.tab.length ≤ Nm.encL (L.take ats.length)
  back : Back L ats S.out S.size
theorem mid_new (L : List (List UInt8)) : Mid L [] ((WS.new 4000).put (two 7)) := by
  have e : (WS.new 4000).put (two 7) = { WS.new 4000 with size := 2, out := two 7 } := by rw [put_fits (by simp [WS.new, two_len])]; rfl
  rw [e]
  exact ⟨⟨rfl, Nat.le_refl _, fun k v h => (by cases h)⟩, fun k v h => (by cases h), rfl, rfl, by simp [Nm.encL], by simp [WS.new, Nm.encL], back_nil _ _ _⟩
theorem Mid.step {L : List (List UInt8)} {ats : List Nat} {S : WS} (h : Mid L ats S) (hk : ats.length < L.length) (he : Nm.encL L ≤ 2500) (hv : Nm.valid L[ats.length] = true) (sq : Bool) :
    Mid L (ats ++ [S.size]) (S.name L[ats.length] sq) ∧ S.size < (S.name L[ats.length] sq).size ∧ (S.name L[ats.length] sq).size ≤ S.size + L[ats.length].length ∧ (sq = false → (S.name L[ats.length] sq).size = S.size + L[ats.length].length) := by
  have h1 := Nm.encL_take_succ hk
  have h2 := Nm.encL_take_drop L (ats.length + 1)
  have hs := h.size
  obtain ⟨a1, a2, a3, a4, a5, a6, a7, a8, a9⟩ := name_good h.good h.ok hv sq (by rw [h.most]; omega)
  refine ⟨⟨a1, tabOk_name h.ok _ _, by rw [a2, h.most], by rw [a3, h.bad], ?_, ?_, h.back.step a8 (List.getElem?_eq_getElem hk) hv a7⟩, a4, a5, a6⟩
  · simp only [List.length_append, List.length_singleton]; omega
  · have := h.tab
    simp only [List.length_append, List.length_singleton]; omega

theorem wset_size (S : WS) (z n : Int) : (S.set z n).size = S.size := by unfold WS.set; split <;> rfl
theorem wset_bad (S : WS) (z n : Int) : (S.set z n).bad = S.bad := by unfold WS.set; split <;> rfl
theorem wset_most (S : WS) (z n : Int) : (S.set z n).most = S.most := by unfold WS.set; split <;> rfl
theorem Mid.setOut {L : List (List UInt8)} {ats : List Nat} {S : WS} (h : Mid L ats S) (z : Int) : (S.set 0 z).out = (S.out.set 0 (byteOf (z / 256))).set 1 (byteOf z) ∧ 2 ≤ (S.set 0 z).out.length ∧ (S.set 0 z).out.length = S.size := by
  have h1 := h.good.full
  have h2 := h.good.two
  have e : S.set 0 z = { S with out := (S.out.set 0 (byteOf (z / 256))).set 1 (byteOf z) } := by unfold WS.set; rw [if_neg (by omega)]; rfl
  rw [e]
  exact ⟨rfl, by simp; omega, by simp; omega⟩

theorem out_cells {L : List (List UInt8)} {ats : List Nat} {S : WS} (h : Mid L ats S) (z : Int) {out : List UInt8} (e : out = (S.set 0 z).out) {base : Nat} {v : Value} {W : World} (ho : OwnE encB 5 base v (S.set 0 z).out W) :
    ∃ g cap, v = .slice (some ⟨g, 0, none⟩) out.length cap ∧ 2 ≤ out.length ∧ out.length ≤ S.size ∧ W.cell? ⟨g, 0, none⟩ = some (.int .u8 (z / 256 % 256)) ∧ W.cell? ⟨g, 1, none⟩ = some (.int .u8 (z % 256)) := by
  obtain ⟨h1, h2, h3⟩ := h.setOut z
  rw [← e] at h1 h2 h3 ho
  obtain ⟨g, cap, rfl, _⟩ := own_lit ho (by intro h; rw [h] at h2; simp at h2)
  have e0 : out[0]'(by omega) = byteOf (z / 256) := by simp only [h1]; rw [List.getElem_set_ne (by omega), List.getElem_set_self]
  have e1 : out[1]'(by omega) = byteOf z := by simp only [h1]; rw [List.getElem_set_self]
  have c0 := ownE_cell ho (j := 0) (by omega)
  have c1 := ownE_cell ho (j := 1) (by omega)
  rw [e0] at c0
  rw [e1] at c1
  unfold encB at c0 c1
  rw [byteOf_int] at c0 c1
  exact ⟨g, cap, rfl, h2, Nat.le_of_eq h3, c0, c1⟩

theorem bits_byte (z : Int) : bits .and .i64 z 255 = z % 256 := by
  show IntKind.i64.wrap ((BitVec.ofInt 64 z &&& BitVec.ofInt 64 255).toNat : Int) = _
  rw [BitVec.toNat_and, show (BitVec.ofInt 64 255).toNat = 2 ^ 8 - 1 by decide, Nat.and_two_pow_sub_one_eq_mod, BitVec.toNat_ofInt, IntKind.wrap_i64]
  omega

set_option maxRecDepth 100000 in
set_option maxHeartbeats 8000000 in
theorem back_any (L : List (List UInt8)) (lv : Value) (bs : List Bool) (bv : Value) (z : Int) (w : World) (hr : ReadS lv L w) (hlen : L.length ≤ 9223372036854775807) (hle : ∀ l ∈ L, l.length ≤ 9223372036854775807) (hb : ReadO bv bs w) (hbl : bs.length ≤ 9223372036854775807)
    (_hz1 : -9223372036854775808 ≤ z) (_hz2 : z ≤ 9223372036854775807) :
    Calls Try.prog 5 #[lv, bv, .int .i64 z] w fun e w' => e = .returned (.bool true) ∧ Below w.heap.size w w' := by
  have hr' := hr
  obtain ⟨aoL, capL, rfl, hcL⟩ := hr.form
  obtain ⟨aoB, capB, rfl, hcB⟩ := hb.form
  obtain ⟨xs, hxs⟩ : ∃ x, decide ((Nm.encL L : Int) ≤ 2500) = x := ⟨_, rfl⟩
  have HXS := Lib.hid hxs
  have HLE := Lib.hid hle
  have HR := Lib.hid hr'
  by_cases hg : 20 < L.length ∨ bs.length < L.length ∨ 60 < bs.length ∨ xs = false
  · have hcase : 20 < L.length ∨ (L.length ≤ 20 ∧ bs.length < L.length) ∨ (L.length ≤ 20 ∧ L.length ≤ bs.length ∧ 60 < bs.length) ∨ (L.length ≤ 20 ∧ L.length ≤ bs.length ∧ bs.length ≤ 60 ∧ xs = false) := by
      rcases hg with h | h | h | h
      all_goals first | omega | (by_cases h1 : 20 < L.length <;> by_cases h2 : bs.length < L.length <;> by_cases h3 : 60 < bs.length <;> simp_all <;> omega)
    clear hg hxs hle hr hr' hb hcL hcB
    rcases hcase with c1 | ⟨c1, c2⟩ | ⟨c1, c2, c3⟩ | ⟨c1, c2, c3, rfl⟩
    all_goals
      go_enter Try.func5, Try.ntmps5
      go_wp2_with (first
        | (go_at_call 24; refine (short_any L _ 2500 _ HR.out hlen HLE.out (by omega)).mono ?_; rw [HXS.out]; rintro e w' ⟨rfl, rfl⟩)
        | (go_at_call 9; refine (awake_any _).mono ?_; rintro e w2 ⟨rfl, b2⟩))
      go_ret
      exact ⟨rfl, b2⟩
  · have c1 : L.length ≤ 20 := by omega
    have c2 : L.length ≤ bs.length := by omega
    have c3 : bs.length ≤ 60 := by omega
    obtain rfl : xs = true := by cases xs <;> simp_all
    have henc : Nm.encL L ≤ 2500 := by have := of_decide_eq_true hxs; omega
    have HENC := Lib.hid henc
    have HCL := Lib.hid hcL
    have HCB := Lib.hid hcB
    clear hg hxs hle hr hr' hb hcL hcB henc
    go_enter Try.func5, Try.ntmps5
    go_wp2_with (go_at_call 24; refine (short_any L _ 2500 _ HR.out hlen HLE.out (by omega)).mono ?_; rw [HXS.out]; rintro e w' ⟨rfl, rfl⟩)
    refine (new_any 4000 _).mono ?_
    rintro e w1 ⟨rfl, b1, hw1, hz1'⟩
    have hWN1 : WN w.heap.size (WS.new 4000) (.slice none 0 0) [] w w1 := ⟨⟨_, hw1, fun k hk => by have h : k = w.heap.size := hk; omega, fun g hg => by simp [Value.ownBlock] at hg⟩, b1, ownE_nil _ _ _ _⟩
    have HWN1 := Lib.hid hWN1
    clear hw1 hWN1 b1 hz1'
    go_wp2_with fail
    obtain ⟨f1, hf1, hf2, hf3⟩ := HWN1.out.form
    refine (two_any _ _ _ 7 _ hf1 (by simp [WS.new])).mono ?_
    intro e w2 ha
    obtain ⟨rfl, hWN2⟩ := HWN1.out.act ⟨hf2, hf3⟩ ha
    have HWN2 := Lib.hid hWN2
    clear hf1 hf2 hf3 ha hWN2
    go_wp2_with fail
    go_loopw [8, 9] (fun v i wr => ∃ (ats : List Nat) (S : WS) (ao1 : Option Addr) (k1 l1 : Nat), v = .slice ao1 k1 l1 ∧ i = .int .i64 (ats.length : Int) ∧ ats.length ≤ L.length ∧ Hid (Mid L ats S) ∧ Hid (WN w.heap.size S v ats w wr)) (fun _ i _ => L.length - (intOf i).toNat)
    case atStart => exact ⟨[], _, _, _, _, rfl, rfl, Nat.zero_le _, Lib.hid (mid_new L), HWN2⟩
    case round =>
      obtain ⟨ats, S, ao1, k1, l1, rfl, rfl, hk, hM, hW⟩ := hrel
      by_cases hlt : ats.length < L.length
      · obtain ⟨g, off, rfl, cz0⟩ := HCL.out _ hlt
        have cz := (hW.out.below.cell (cell_lt cz0)).trans cz0
        obtain ⟨g2, off2, rfl, cb0⟩ := HCB.out ats.length (by omega)
        have cb := (hW.out.below.cell (cell_lt cb0)).trans cb0
        have hnl := Nat.le_trans (Nm.encL_mem (List.getElem_mem hlt)) HENC.out
        obtain ⟨n, hn⟩ : ∃ n, n = L[ats.length] := ⟨_, rfl⟩
        obtain ⟨q, hq⟩ : ∃ q, q = bs[ats.length]'(by omega) := ⟨_, rfl⟩
        rw [← hn] at cz cz0 hnl
        rw [← hq] at cb cb0
        replace cz0 : w.cell? ⟨g, off + ats.length, none⟩ = some (.string ⟨n.toArray⟩) := cz0
        replace cz : wr.cell? ⟨g, off + ats.length, none⟩ = some (.string ⟨n.toArray⟩) := cz
        have hst := fun hv => hM.out.step hlt HENC.out hv q
        rw [← hn] at hst
        have HST := Lib.hid hst
        obtain ⟨xv, hxv⟩ : ∃ x, Nm.valid n = x := ⟨_, rfl⟩
        have HXV := Lib.hid hxv
        have HN := Lib.hid hn
        have HZ0 := Lib.hid cz0
        have HB0 := Lib.hid cb0
        clear hst cz0 cb0 hn hq hxv
        cases xv with
        | false =>
          go_wp2_with (first
            | (go_at_call 25; refine (rvalid_any _ _ (by omega)).mono ?_; rw [HXV.out]; rintro e w3 ⟨rfl, b3⟩)
            | (go_at_call 9; refine (awake_any _).mono ?_; rintro e w4 ⟨rfl, b4⟩))
          go_ret
          exact ⟨rfl, below_trans (below_trans hW.out.below b3) b4⟩
        | true =>
          obtain ⟨hmid, hs1, hs2, hs3⟩ := HST.out HXV.out
          have HMID := Lib.hid hmid
          clear hmid
          go_wp2_with (first
            | (go_at_call 25; refine (rvalid_any _ _ (by omega)).mono ?_; rw [HXV.out]; rintro e w3 ⟨rfl, b3⟩; have HW3 := Lib.hid (hW.out.later b3))
            | (go_at_call 23; refine (len_any _ _ _ _ HW3.out.form.choose_spec.1).mono ?_; rintro e w' ⟨rfl, rfl⟩)
            | (at_builtin; refine wpList_apdWN _ rfl _ _ rfl (HW3.out.later ((Below.refl _ _).alloc (Nat.le_refl _) _)) rfl w3.heap.size 1 S.size rfl (by simp [go_sem, encN]) (by omega) ?_; intro v5 w5 hW5; obtain ⟨ao5, k5, l5, rfl⟩ := own_shape hW5.own; have HW5 := Lib.hid hW5; clear hW5))
          have cz5 := (HW5.out.below.cell (cell_lt HZ0.out)).trans HZ0.out
          have cb5 := (HW5.out.below.cell (cell_lt HB0.out)).trans HB0.out
          have hsz : S.size ≤ 4000 := by have := HMID.out.size; have := HENC.out; have h3 := Nm.encL_take_drop L (ats.length + 1); simp only [List.length_append, List.length_singleton] at *; omega
          have htb : S.tab.length ≤ 4000 := by have := hM.out.tab; have := HENC.out; have h3 := Nm.encL_take_drop L ats.length; omega
          clear cz cb
          have hbl2 : ats.length < bs.length := by omega
          go_region_law (go_simp; go_at_call 19; refine (name_WN (HW5.out.later (by repeat (first | with_reducible exact Below.refl _ _ | (with_reducible refine Below.drew ?_)))) n q (by omega) (by omega) (by omega) hM.out.ok).mono ?_; rintro e w6 ⟨rfl, hW6⟩; have HW6 := Lib.hid hW6; clear hW6)
          all_goals
            obtain ⟨g5, cp5, e5, ca6⟩ := ownN_cell HW6.out.own (j := ats.length) (k := S.size) (by simp)
            rw [List.length_append, List.length_singleton] at e5
            rw [Nat.zero_add] at ca6
            obtain ⟨rfl, rfl, rfl⟩ := Value.slice.inj e5
            have cz6 := (HW6.out.below.cell (cell_lt HZ0.out)).trans HZ0.out
            have cb6 := (HW6.out.below.cell (cell_lt HB0.out)).trans HB0.out
            obtain ⟨S2, hS2⟩ : ∃ S2, S2 = S.name n q := ⟨_, rfl⟩
            rw [← hS2] at HW6 HMID hs1 hs2 hs3
            have hsz2 : S2.size ≤ 10000 := by omega
            have hi1 : (ats.length : Int) < (ats.length : Int) + 1 := by omega
            have hwr : IntKind.i64.wrap ((S.size : Int) + (n.length : Int)) = (S.size : Int) + (n.length : Int) := IntWalk.i64_in _ (by omega)
            have hs5 : (S2.size : Int) ≤ (S.size : Int) + (n.length : Int) := by omega
            clear e5 hS2 cz5 cb5
            have hs8 : decide ((S.size : Int) + (n.length : Int) < (S2.size : Int)) = false := decide_eq_false (by omega)
            cases q
            all_goals
              try (have hs4 := hs3 rfl; have hs6 : ((S2.size : Int) == (S.size : Int) + (n.length : Int)) = true := by rw [beq_iff_eq]; omega)
              try (have hs7 : (S2.size : Int) = (S.size : Int) + (n.length : Int) := by omega; have HS7 := Lib.hid hs7; clear hs4 hs7)
              clear hs3
              go_wp2
              refine wp_region_quiet_lit (by kernel_rfl) (by kernel_rfl) ?_
              repeat (go_big_quiet_step ((go_at_call 23; exact Calls.quiet_of_same ((len_WN (HW6.out.later (by repeat (first | with_reducible exact Below.refl _ _ | (with_reducible refine Below.drew ?_) | with_reducible exact below_drewN (Below.refl _ _) _)))).mono fun _ _ h => ⟨h.1, h.2.symm⟩))))
              refine wpQuiet_nil ?_
              intro _ hw'
              obtain ⟨nq, hw''⟩ := hw'
              subst hw''
              go_wp2
              exact ⟨⟨ats ++ [S.size], S2, _, _, _, rfl, by simp, by simp; omega, HMID, Lib.hid (HW6.out.later (by repeat (first | with_reducible exact Below.refl _ _ | (with_reducible refine Below.drew ?_) | with_reducible exact below_drewN (Below.refl _ _) _)))⟩, by simp [intOf]; omega⟩
      · have hLA : L.length = ats.length := by omega
        have hsz : S.size ≤ 4000 := by have := hM.out.size; have := HENC.out; have h3 := Nm.encL_take_drop L ats.length; omega
        have HLA := Lib.hid hLA
        clear hLA
        have hm1 : 0 ≤ z / 256 % 256 := by omega
        have hm2 : z / 256 % 256 ≤ 255 := by omega
        have hm3 : 0 ≤ z % 256 := by omega
        have hm4 : z % 256 ≤ 255 := by omega
        have hm5 := bits_byte z
        have hm6 := bits_byte (z / 256)
        go_wp2_with (first
          | (go_at_call 23; refine (len_any _ _ _ _ hW.out.form.choose_spec.1).mono ?_; rintro e w' ⟨rfl, rfl⟩)
          | (at_builtin; refine wpList_apdWN _ rfl _ _ rfl (hW.out.later ((Below.refl _ _).alloc (Nat.le_refl _) _)) rfl wr.heap.size 1 S.size rfl (by simp [go_sem, encN]) (by omega) ?_; intro v5 w5 hW5; obtain ⟨ao5, k5, l5, rfl⟩ := own_shape hW5.own; have HW5 := Lib.hid hW5; clear hW5)
          | (go_at_call 26; refine (set_WN HW5.out 0 z (by omega) (by omega) (by omega)).mono ?_; rintro e w6 ⟨rfl, hW6⟩; have HW6 := Lib.hid hW6; clear hW6)
          | (go_at_call 21; refine (out_WN HW6.out (by rw [wset_size]; omega)).mono ?_; rintro e w7 ⟨b7, h7, h7'⟩; obtain ⟨vo, rfl, ho⟩ := h7' (by rw [wset_bad, wset_most, wset_size, hM.out.bad, hM.out.most]; simp; omega); clear h7 h7'; have HW7 := Lib.hid (HW6.out.later b7); obtain ⟨out, hout⟩ : ∃ o, o = (S.set 0 z).out := ⟨_, rfl⟩; obtain ⟨g7, cp7, rfl, hl2, hl3, c70, c71⟩ := out_cells hM.out z hout ho; have hm7 : (2 : Int) ≤ (out.length : Int) := (by omega); have hm8 : decide ((out.length : Int) < 2) = false := decide_eq_false (by omega); have hm9 : (1 : Int) < (out.length : Int) := (by omega); have hm10 : (0 : Int) < (out.length : Int) := (by omega); have HO := Lib.hid ho; have HOUT := Lib.hid hout; clear ho hout))
        have hBK : Back L ats out S.size := by rw [HOUT.out, (hM.out.setOut z).1]; exact hM.out.back.sub (sub_set _ _ _)
        have HBK := Lib.hid hBK
        have hOR := ownB_read HO.out
        rw [← HOUT.out] at hOR
        have HOR := Lib.hid hOR
        clear hBK hOR hm1 hm2 hm3 hm4 hm5 hm6 hm7 hm8 hm9 hm10 hlt c70 c71
        go_loopw [12] (fun i wr2 => ∃ k : Nat, i = .int .i64 (k : Int) ∧ k ≤ ats.length ∧ Below w7.heap.size w7 wr2) (fun i _ => ats.length - (intOf i).toNat)
        case atStart => exact ⟨0, rfl, Nat.zero_le _, Below.refl _ _⟩
        case round =>
          obtain ⟨k, rfl, hk2, hb8⟩ := hrel
          by_cases hlt2 : k < ats.length
          · have hltL : k < L.length := by rw [HLA.out]; exact hlt2
            obtain ⟨g, off, rfl, cz0⟩ := HCL.out k hltL
            obtain ⟨n, hn⟩ : ∃ n, n = L[k] := ⟨_, rfl⟩
            obtain ⟨p, hp⟩ : ∃ p, p = ats[k] := ⟨_, rfl⟩
            rw [← hn] at cz0
            replace cz0 : w.cell? ⟨g, off + k, none⟩ = some (.string ⟨n.toArray⟩) := cz0
            obtain ⟨hv, e, he, hrd⟩ := HBK.out k p n (by rw [hp]; exact List.getElem?_eq_getElem hlt2) (by rw [hn]; exact List.getElem?_eq_getElem hltL)
            have hg := hrd.gets ((Nm.labs_of_valid hv).2.2.2)
            have hple : p ≤ 4000 ∧ e ≤ 10000 := by
              obtain ⟨e0, he0, hle, _, hc⟩ := hrd.get
              refine ⟨by omega, ?_⟩
              rcases hc with ⟨_, _, h⟩ | ⟨_, _, _, _, _, _, _, _, h⟩ <;> omega
            obtain ⟨hp1, he1⟩ := hple
            have HW8 := Lib.hid (HW7.out.later hb8)
            obtain ⟨g5, cp5, e5, ca8⟩ := ownN_cell HW8.out.own (j := k) (k := p) (by rw [List.getElem?_append_left hlt2, hp]; exact List.getElem?_eq_getElem hlt2)
            rw [List.length_append, List.length_singleton] at e5
            rw [Nat.zero_add] at ca8
            obtain ⟨rfl, rfl, rfl⟩ := Value.slice.inj e5
            have hi1 : (k : Int) < (ats.length : Int) + 1 := by omega
            have hi2 : (k : Int) + 1 < (ats.length : Int) + 1 := by omega
            have HG := Lib.hid hg
            have HZ0 := Lib.hid cz0
            have HE := Lib.hid he
            clear hn hp hg cz0 he e5 hv hrd
            go_wp2_with fail
            refine (get_any out _ (p : Int) _ (readB_below HOR.out.1 hb8) HOR.out.2 (by omega) (by omega) (by omega)).mono ?_
            rw [HG.out]
            rintro ee w9 ⟨rfl, b9⟩
            have HW9 := Lib.hid (HW8.out.later b9)
            have cz9 := (HW9.out.below.cell (cell_lt HZ0.out)).trans HZ0.out
            obtain ⟨g6, cp6, e6, ca9⟩ := ownN_cell HW9.out.own (j := k + 1) (k := e) HE.out
            rw [List.length_append, List.length_singleton] at e6
            rw [Nat.zero_add] at ca9
            obtain ⟨h6, -, -⟩ := Value.slice.inj e6
            obtain rfl := (Addr.mk.inj (Option.some.inj h6)).1
            clear e6 h6 ca8
            unfold getRet
            go_wp2_with fail
            exact ⟨⟨k + 1, by simp, by omega, below_trans hb8 b9⟩, by simp [intOf]; omega⟩
          · clear HCL HBK
            have hge2 : ¬ k < L.length := by rw [HLA.out]; exact hlt2
            go_wp2_with (go_at_call 9; refine (awake_any _).mono ?_; rintro e w9 ⟨rfl, b9⟩)
            go_ret
            exact ⟨rfl, below_trans (below_trans HW7.out.below hb8) b9⟩
end Go.Proofs.Ytipabiiffaipdaa
