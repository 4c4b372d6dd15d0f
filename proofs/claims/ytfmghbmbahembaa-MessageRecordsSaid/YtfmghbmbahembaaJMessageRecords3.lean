/- MessageRecords. -/
import Derived.Test.YtfmghbmbahembaaJMessageRecords1
import Derived.Test.YtfmghbmbahembaaJMessageRecords2
/- MessageRecords. -/
namespace Go.Proofs.Ytfmghbmbahembaa
open Go.RowKit Go.Shelf Go.Maps
attribute [local go_sem] Oper.semAt_some

set_option maxRecDepth 100000 in
set_option maxHeartbeats 8000000 in
theorem recLaw_any (AW : ∀ W, Calls Try.prog 11 #[] W fun e w' => e = .returned (.bool true) ∧ Below W.heap.size W w') (m : Ms.M) (vq va vn vd : Value) (z : Int) (w : World) (hL : Lists m vq va vn vd w) (hf : FitM m)
    (h1 : -9223372036854775808 ≤ z ∧ z ≤ 9223372036854775807) (_hi : -9223372036854775808 ≤ m.code ∧ m.code ≤ 9223372036854775807) :
    Calls Try.prog 5 #[msgV m vq va vn vd, .int .i64 z] w fun e w' => e = .returned (.bool true) ∧ Below w.heap.size w w' := by
  have HAW := Lib.hid AW
  clear AW
  have HL := Lib.hid hL
  obtain ⟨aq, cq, rfl, _⟩ := hL.qs.form
  obtain ⟨aa, ca, rfl, _⟩ := hL.an.form
  obtain ⟨an, cn, rfl, _⟩ := hL.ns.form
  obtain ⟨ad, cd, rfl, _⟩ := hL.ad.form
  clear hL
  have hF1 : Fence.wide.fn 15 := trivial
  have hF2 : Fence.wide.fn 19 := trivial
  have hF3 : Fence.wide.fn 20 := trivial
  have hF4 : Fence.wide.fn 21 := trivial
  have hF5 : Fence.wide.fn 11 := trivial
  obtain ⟨w0, hw0⟩ : ∃ w0, ((w.alloc (.cells #[.int .i64 m.id, .bool m.resp, .int .i64 m.opc, .bool m.auth, .bool m.cut, .bool m.des, .bool m.avl, .int .i64 m.code, (.slice aq m.qs.length cq), (.slice aa m.an.length ca), (.slice an m.ns.length cn), (.slice ad m.ad.length cd), .bool m.edns, .int .i64 m.size] 27)).alloc (.cells #[.int .i64 z] 3)).alloc (.cells #[.bool false] 4) = w0 := ⟨_, rfl⟩
  have hb0 : Below w.heap.size w w0 := by rw [← hw0]; exact (((Below.refl _ _).alloc (Nat.le_refl _) _).alloc (by simp) _).alloc (by simp; omega) _
  have hs0 : w0.heap.size = w.heap.size + 1 + 1 + 1 := by rw [← hw0]; simp
  have K0 : Block w0 w.heap.size #[.int .i64 m.id, .bool m.resp, .int .i64 m.opc, .bool m.auth, .bool m.cut, .bool m.des, .bool m.avl, .int .i64 m.code, (.slice aq m.qs.length cq), (.slice aa m.an.length ca), (.slice an m.ns.length cn), (.slice ad m.ad.length cd), .bool m.edns, .int .i64 m.size] 27 := by rw [← hw0]; exact ((Block.new w _ _).alloc _).alloc _
  have S0 : Block w0 (w.heap.size + 1) #[.int .i64 z] 3 := by rw [← hw0]; have := (Block.new (w.alloc (.cells #[.int .i64 m.id, .bool m.resp, .int .i64 m.opc, .bool m.auth, .bool m.cut, .bool m.des, .bool m.avl, .int .i64 m.code, (.slice aq m.qs.length cq), (.slice aa m.an.length ca), (.slice an m.ns.length cn), (.slice ad m.ad.length cd), .bool m.edns, .int .i64 m.size] 27)) #[.int .i64 z] 3).alloc (.cells #[.bool false] 4); rw [World.size_alloc] at this; exact this
  have R0 : Block w0 (w.heap.size + 1 + 1) #[.bool false] 4 := by rw [← hw0]; have := Block.new ((w.alloc (.cells #[.int .i64 m.id, .bool m.resp, .int .i64 m.opc, .bool m.auth, .bool m.cut, .bool m.des, .bool m.avl, .int .i64 m.code, (.slice aq m.qs.length cq), (.slice aa m.an.length ca), (.slice an m.ns.length cn), (.slice ad m.ad.length cd), .bool m.edns, .int .i64 m.size] 27)).alloc (.cells #[.int .i64 z] 3)) #[.bool false] 4; rw [World.size_alloc, World.size_alloc] at this; exact this
  have HW0 := Lib.hid hw0
  have SM := Lib.hid (small_msg m 3000 _ _ _ _ w0 (HL.out.below hb0) hf (by omega))
  have L0 := HL.out.below hb0
  unfold SmallRet at SM
  unfold msgV at SM ⊢
  clear hw0
  refine (callsIn_wide (n := 20)).1 ?_
  refine callsIn_of_wp_marks Try.func5 rfl trivial ?_ rfl
  simp only [Try.ntmps5, List.size_toArray, List.length_cons, List.length_nil, Nat.reduceAdd, Nat.reduceSub, Array.replicate_succ, Array.replicate_zero, List.push_toArray, List.append_toArray, List.nil_append, List.cons_append]
  gi_wp2_with fail
  try rw [HW0.out]
  refine (callsIn_wide.2 SM.out).mono ?_
  rintro e1 w1 ⟨b, rfl, hsm, b1⟩
  clear HW0
  have K1 := Lib.hid (K0.below b1)
  have S1 := Lib.hid (S0.below b1)
  have R1 := Lib.hid (R0.below b1)
  have L1 := Lib.hid (L0.below b1)
  have B1 := Lib.hid (hb0.trans (b1.mono hb0.size))
  have hlt1 : w.heap.size + 1 + 1 < w1.heap.size := by have := b1.size; omega
  clear K0 S0 R0 L0 hb0 hs0 b1
  obtain ⟨M2, hM2⟩ : ∃ M, w.heap.size + 1 + 1 = M := ⟨_, rfl⟩
  obtain ⟨M1, hM1⟩ : ∃ M, w.heap.size + 1 = M := ⟨_, rfl⟩
  obtain ⟨M0, hM0⟩ : ∃ M, w.heap.size = M := ⟨_, rfl⟩
  rw [hM2] at R1 hlt1 ⊢
  rw [hM1] at S1 hM2 ⊢
  rw [hM0] at K1 hM1 B1 ⊢
  cases b with
  | false =>
    gi_wp2_with fail
    refine (callsIn_wide.2 (HAW.out _)).mono ?_
    rintro e2 w2 ⟨rfl, b2⟩
    have R2 := R1.out.below b2
    have r2 := R2.cell (i := 0) (v := .bool false) rfl
    have f2 := R2.frozen 0
    have B2 := Lib.hid ((B1.out.trans (b2.mono (by omega))).setCell (p := ⟨M2, 0, none⟩) (by show M0 ≤ M2; omega) (.bool true))
    have c2 := (R2.set 0 (.bool true)).cell (i := 0) (v := .bool true) rfl
    clear b2
    gi_wp2_with fail
    refine ⟨_, res_rec _ _ M2 true rfl c2, ?_⟩
    exact ⟨rfl, by rw [hM0]; exact B2.out⟩
  | true =>
    have hS := hsm rfl
    clear hsm SM
    have c0 := K1.out.cell (i := 0) (v := .int .i64 m.id) rfl
    have c1 := K1.out.cell (i := 1) (v := .bool m.resp) rfl
    have c2 := K1.out.cell (i := 2) (v := .int .i64 m.opc) rfl
    have c3 := K1.out.cell (i := 3) (v := .bool m.auth) rfl
    have c4 := K1.out.cell (i := 4) (v := .bool m.cut) rfl
    have c5 := K1.out.cell (i := 5) (v := .bool m.des) rfl
    have c6 := K1.out.cell (i := 6) (v := .bool m.avl) rfl
    have c7 := K1.out.cell (i := 7) (v := .int .i64 m.code) rfl
    have c8 := K1.out.cell (i := 8) (v := (.slice aq m.qs.length cq)) rfl
    have c9 := K1.out.cell (i := 9) (v := (.slice aa m.an.length ca)) rfl
    have c10 := K1.out.cell (i := 10) (v := (.slice an m.ns.length cn)) rfl
    have c11 := K1.out.cell (i := 11) (v := (.slice ad m.ad.length cd)) rfl
    have c12 := K1.out.cell (i := 12) (v := .bool m.edns) rfl
    have c13 := K1.out.cell (i := 13) (v := .int .i64 m.size) rfl
    have d0 := fun o1 o2 o3 => (((K1.out.alloc o1).alloc o2).alloc o3).cell (i := 0) (v := .int .i64 m.id) rfl
    have d1 := fun o1 o2 o3 => (((K1.out.alloc o1).alloc o2).alloc o3).cell (i := 1) (v := .bool m.resp) rfl
    have d2 := fun o1 o2 o3 => (((K1.out.alloc o1).alloc o2).alloc o3).cell (i := 2) (v := .int .i64 m.opc) rfl
    have d3 := fun o1 o2 o3 => (((K1.out.alloc o1).alloc o2).alloc o3).cell (i := 3) (v := .bool m.auth) rfl
    have d4 := fun o1 o2 o3 => (((K1.out.alloc o1).alloc o2).alloc o3).cell (i := 4) (v := .bool m.cut) rfl
    have d5 := fun o1 o2 o3 => (((K1.out.alloc o1).alloc o2).alloc o3).cell (i := 5) (v := .bool m.des) rfl
    have d6 := fun o1 o2 o3 => (((K1.out.alloc o1).alloc o2).alloc o3).cell (i := 6) (v := .bool m.avl) rfl
    have d7 := fun o1 o2 o3 => (((K1.out.alloc o1).alloc o2).alloc o3).cell (i := 7) (v := .int .i64 m.code) rfl
    have d8 := fun o1 o2 o3 => (((K1.out.alloc o1).alloc o2).alloc o3).cell (i := 8) (v := (.slice aq m.qs.length cq)) rfl
    have d9 := fun o1 o2 o3 => (((K1.out.alloc o1).alloc o2).alloc o3).cell (i := 9) (v := (.slice aa m.an.length ca)) rfl
    have d10 := fun o1 o2 o3 => (((K1.out.alloc o1).alloc o2).alloc o3).cell (i := 10) (v := (.slice an m.ns.length cn)) rfl
    have d11 := fun o1 o2 o3 => (((K1.out.alloc o1).alloc o2).alloc o3).cell (i := 11) (v := (.slice ad m.ad.length cd)) rfl
    have d12 := fun o1 o2 o3 => (((K1.out.alloc o1).alloc o2).alloc o3).cell (i := 12) (v := .bool m.edns) rfl
    have d13 := fun o1 o2 o3 => (((K1.out.alloc o1).alloc o2).alloc o3).cell (i := 13) (v := .int .i64 m.size) rfl
    gi_wp2_with fail
    clear c0 d0 c1 d1 c2 d2 c3 d3 c4 d4 c5 d5 c6 d6 c7 d7 c8 d8 c9 d9 c10 d10 c11 d11 c12 d12 c13 d13
    obtain ⟨w3, hw3⟩ : ∃ W, ((w1.alloc (.cells #[.slice aa m.an.length ca, .slice an m.ns.length cn, .slice ad m.ad.length cd] 25)).alloc (.cells #[.slice (some ⟨w1.heap.size, 0, none⟩) 3 3] 41)).alloc (.cells #[.int .i64 0] 3) = W := ⟨_, rfl⟩
    have b3 : Below w1.heap.size w1 w3 := by rw [← hw3]; exact (((Below.refl _ _).alloc (Nat.le_refl _) _).alloc (by simp) _).alloc (by simp; omega) _
    have hs3 : w3.heap.size = w1.heap.size + 1 + 1 + 1 := by rw [← hw3]; simp
    have LB3 : Block w3 w1.heap.size #[.slice aa m.an.length ca, .slice an m.ns.length cn, .slice ad m.ad.length cd] 25 := by rw [← hw3]; exact ((Block.new w1 _ _).alloc _).alloc _
    have PB3 : Block w3 (w1.heap.size + 1) #[.slice (some ⟨w1.heap.size, 0, none⟩) 3 3] 41 := by rw [← hw3]; have := (Block.new (w1.alloc (.cells #[.slice aa m.an.length ca, .slice an m.ns.length cn, .slice ad m.ad.length cd] 25)) #[.slice (some ⟨w1.heap.size, 0, none⟩) 3 3] 41).alloc (.cells #[.int .i64 0] 3); rw [World.size_alloc] at this; exact this
    have NB3 : Block w3 (w1.heap.size + 1 + 1) #[.int .i64 0] 3 := by rw [← hw3]; have := Block.new ((w1.alloc (.cells #[.slice aa m.an.length ca, .slice an m.ns.length cn, .slice ad m.ad.length cd] 25)).alloc (.cells #[.slice (some ⟨w1.heap.size, 0, none⟩) 3 3] 41)) #[.int .i64 0] 3; rw [World.size_alloc, World.size_alloc] at this; exact this
    rw [hw3]
    refine (callsIn_wide.2 (mrecords_any m _ _ _ _ w3 (L1.out.below b3) (hS.slim (by omega)))).mono ?_
    rintro e4 wg ⟨RB, va, vn, vd, rfl, hRB, hRBk, o1, o2, o3, bg⟩
    have B4 : Hid (Below M0 w wg) := Lib.hid (B1.out.trans ((b3.trans (bg.mono b3.size)).mono (by omega)))
    have b14 := b3.trans (bg.mono b3.size)
    have K4 := Lib.hid (K1.out.below b14)
    have S4 := Lib.hid (S1.out.below b14)
    have R4 := Lib.hid (R1.out.below b14)
    have L4 := Lib.hid (L1.out.below b14)
    have LB4 := Lib.hid (LB3.below bg)
    have PB4 := Lib.hid (PB3.below bg)
    have NB4 := Lib.hid (NB3.below bg)
    have RB4 := Lib.hid hRBk
    have O4 := Lib.hid (And.intro o1 (And.intro o2 o3))
    have hsg := bg.size
    clear hw3 K1 S1 R1 L1 b3 b14 LB3 PB3 NB3 hRBk o1 o2 o3 bg B1
    rw [hs3] at hsg hRB O4
    obtain ⟨NN, hN⟩ : ∃ M, w1.heap.size + 1 + 1 = M := ⟨_, rfl⟩
    obtain ⟨PB, hPB⟩ : ∃ M, w1.heap.size + 1 = M := ⟨_, rfl⟩
    obtain ⟨LB, hLB⟩ : ∃ M, w1.heap.size = M := ⟨_, rfl⟩
    rw [hN] at NB4 hsg hRB O4 ⊢
    rw [hPB] at PB4 hN ⊢
    rw [hLB] at LB4 PB4 hPB hlt1 ⊢
    have hnil := fun W => eql_nilR W 47 RB
    gi_wp2_with fail
    obtain ⟨w5, hw5⟩ : ∃ W, (wg.alloc (.cells #[.int .i64 0] 3)).alloc (.cells #[.int .i64 0] 3) = W := ⟨_, rfl⟩
    have b5 : Below wg.heap.size wg w5 := by rw [← hw5]; exact ((Below.refl _ _).alloc (Nat.le_refl _) _).alloc (by simp) _
    have hs5 : w5.heap.size = wg.heap.size + 1 + 1 := by rw [← hw5]; simp
    have AB5 : Block w5 wg.heap.size #[.int .i64 0] 3 := by rw [← hw5]; exact (Block.new wg _ _).alloc _
    have KB5 : Block w5 (wg.heap.size + 1) #[.int .i64 0] 3 := by rw [← hw5]; have := Block.new (wg.alloc (.cells #[.int .i64 0] 3)) #[.int .i64 0] 3; rw [World.size_alloc] at this; exact this
    rw [hw5]
    have B5 : Hid (Below M0 w w5) := Lib.hid (B4.out.trans (b5.mono (by omega)))
    have K5 := Lib.hid (K4.out.below b5)
    have S5 := Lib.hid (S4.out.below b5)
    have R5 := Lib.hid (R4.out.below b5)
    have L5 := Lib.hid (L4.out.below b5)
    have LB5 := Lib.hid (LB4.out.below b5)
    have PB5 := Lib.hid (PB4.out.below b5)
    have NB5 := NB4.out.below b5
    have RB5 := Lib.hid (RB4.out.below b5)
    have O5 := Lib.hid (And.intro (ownK_below O4.out.1 b5) (And.intro (ownK_below O4.out.2.1 b5) (ownK_below O4.out.2.2 b5)))
    obtain ⟨KK, hK⟩ : ∃ M, wg.heap.size + 1 = M := ⟨_, rfl⟩
    obtain ⟨AA, hA⟩ : ∃ M, wg.heap.size = M := ⟨_, rfl⟩
    rw [hK] at KB5 hs5 ⊢
    rw [hA] at AB5 hK hsg ⊢
    have hNA : NN < AA := by omega
    have hAK : AA < KK := by omega
    have hK5 : KK < w5.heap.size := by omega
    have RS : Rst w5 NN AA KK 0 0 0 w5 := ⟨rfl, rfl, rfl, Nat.le_refl _, fun _ _ _ _ _ => rfl, NB5, AB5, KB5⟩
    have HABk := Lib.hid AB5
    have HKBk := Lib.hid KB5
    clear hw5 b5 B4 K4 S4 R4 L4 LB4 PB4 NB4 RB4 O4 NB5 AB5 KB5 hnil
    have HSL := Lib.hid (hS.slim (by omega))
    refine wpIn_rangeFunc_one rfl (by omega) (gf := 47) (lb := #[.pointer (some ⟨RB, 0, none⟩)]) (by rfl) trivial (enters_of Try.func47 (by kernel_rfl) rfl)
      (recs_stops _ (by omega) RB m va vn vd HSL.out w5 RB5.out (readR_own O5.out.1) (readR_own O5.out.2.1) (readR_own O5.out.2.2) _ (Nat.le_refl _)) krs_t (fun W l o o' _ h1 h2 _ => krs_b W l o o' h1 h2) (Below.refl _ _) (fun _ => rfl)
      (fun pre W => ∃ a k : Nat, Ms.At m pre.length a k ∧ Rst w5 NN AA KK (pre.length : Int) (a : Int) (k : Int) W ∧ (z ≤ 0 ∨ (pre.length : Int) < z))
      (fun c pre W => c = .exit 0 ∧ ∃ a k : Nat, Rst w5 NN AA KK (pre.length : Int) (a : Int) (k : Int) W ∧ (pre.length : Int) = z ∧ 1 ≤ pre.length)
      (fun pre X Y row h hg hr => by obtain ⟨a, k, g1, g2, g3⟩ := h; exact ⟨a, k, g1, g2.grown (by omega) (by omega) (by omega) hg (fun r e => (hr r e).1), g3⟩)
      (fun c pre X Y row h hg hr => by obtain ⟨g0, a, k, g2, g3⟩ := h; exact ⟨g0, a, k, g2.grown (by omega) (by omega) (by omega) hg (fun r e => (hr r e).1), g3⟩)
      ⟨0, 0, Ms.at_start m, RS, by show z ≤ 0 ∨ (0 : Int) < z; omega⟩ ?a1 (fun x => .cells #[.string ⟨x.2.name.toArray⟩, .int .i64 x.2.typ, .int .i64 x.2.cls, .int .i64 x.2.ttl, .string ⟨x.2.data.toArray⟩] 45) (fun W o => krs_below ((Below.refl _ _).alloc (Nat.le_refl _) _)) ?assign ?body (fun _ _ h => h)
      (fun W => ∃ q a k : Nat, Rst w5 NN AA KK (q : Int) (a : Int) (k : Int) W ∧ (((z < 1 ∨ (m.an.length : Int) + (m.ns.length : Int) + (m.ad.length : Int) < z) ∧ (q : Int) = (m.an.length : Int) + (m.ns.length : Int) + (m.ad.length : Int)) ∨ (¬ z < 1 ∧ ¬ (m.an.length : Int) + (m.ns.length : Int) + (m.ad.length : Int) < z ∧ (q : Int) = z)))
      ?done ?stop ?end1
    case assign =>
      intro l x W KK hK
      simp only [rrV]
      gi_wp2_with fail
      exact hK
    case body =>
      as_aux_lemma =>
      rintro l1 pre ⟨xi, n, t, c, l, d⟩ W0 W hlt hbx ⟨a0, k0, hat, hrs, hzz⟩ hlen hsp
      have hBX : Block W W0.heap.size #[.string ⟨n.toArray⟩, .int .i64 t, .int .i64 c, .int .i64 l, .string ⟨d.toArray⟩] 45 := hbx
      obtain ⟨Q, hQ⟩ : ∃ Q, W0.heap.size = Q := ⟨_, rfl⟩
      rw [hQ] at hBX hlt ⊢
      obtain ⟨hrow, hptot⟩ := Ms.pre_row hsp
      obtain ⟨p, hp⟩ : ∃ p, pre.length = p := ⟨_, rfl⟩
      rw [hp] at hat hrs hzz hrow hptot
      have HP := Lib.hid hp
      have HROW := Lib.hid hrow
      clear hbx hQ hlen hsp hp hrow
      simp only
      gi_wp2_with fail
      gi_loopw [35] (fun _ wx => ∃ a k : Nat, Ms.At m p a k ∧ Rst w5 NN AA KK (p : Int) (a : Int) (k : Int) wx ∧ Block wx Q #[.string ⟨n.toArray⟩, .int .i64 t, .int .i64 c, .int .i64 l, .string ⟨d.toArray⟩] 45 ∧ KeepsBk w5.heap.size W wx) (fun _ wx => 3 - cntAt AA wx)
      case atStart => exact ⟨a0, k0, hat, hrs, hBX, KeepsBk.refl _ _⟩
      case round =>
        clear hat hrs hBX
        obtain ⟨a, k, hat, hrs, hBX, hkb⟩ := hrel
        have ha2 := hat.two
        have hai : (a : Int) < 3 := by omega
        obtain ⟨ao, cp, hc, hrd⟩ := lst_cell HL.out LB5.out ha2
        have low := hrs.low hNA hAK (by omega)
        obtain ⟨len, hlen⟩ : ∃ q, (Ms.lst m a).length = q := ⟨_, rfl⟩
        have HLEN := Lib.hid hlen
        rw [hlen] at hc
        have ca := hrs.ba.cell (i := 0) (v := .int .i64 (a : Int)) rfl
        have ck := hrs.bk.cell (i := 0) (v := .int .i64 (k : Int)) rfl
        have cP : wr.cell? ⟨PB, 0, none⟩ = some (.slice (some ⟨LB, 0, none⟩) 3 3) := (low.cell (p := ⟨PB, 0, none⟩) (by show PB < NN; omega)).trans (PB5.out.cell (i := 0) rfl)
        have cL : wr.cell? ⟨LB, a, none⟩ = some (.slice ao len cp) := (low.cell (p := ⟨LB, a, none⟩) (by show LB < NN; omega)).trans hc
        have HHAT := Lib.hid hat
        have HRS := Lib.hid hrs
        have HBX := Lib.hid hBX
        have HKB := Lib.hid hkb
        have HRD := Lib.hid hrd
        have HLOW := Lib.hid low
        clear hat hrs hBX hkb hrd low hlen hc
        by_cases hkl : (len : Int) ≤ (k : Int)
        · gi_wp2_with fail
          refine wpIn_region_slots slotLe (slotPhi ((fun v _ => v = ?p35) :: (fun v _ => v = ?p36) :: (fun v _ => v = ?p37) :: (fun v _ => v = ?p38) :: (fun v _ => v = ?p39) :: (fun v _ => v = ?p40) :: (fun v _ => v = ?p41) :: (fun v _ => v = ?p42) :: (fun v _ => v = ?p43) :: (fun v _ => v = ?p44) :: (fun v _ => v = ?p45) :: [])) slotLe_refl slotLe_trans (slotPhi_stable ?stb) (by kernel_rfl) (by kernel_rfl) (by kernel_rfl) (by kernel_rfl) ?steps ?fin
          case stb =>
            refine ⟨by intro _ _ _ _ h; exact h, ?_⟩
            refine ⟨by intro _ _ _ _ h; exact h, ?_⟩
            refine ⟨by intro _ _ _ _ h; exact h, ?_⟩
            refine ⟨by intro _ _ _ _ h; exact h, ?_⟩
            refine ⟨by intro _ _ _ _ h; exact h, ?_⟩
            refine ⟨by intro _ _ _ _ h; exact h, ?_⟩
            refine ⟨by intro _ _ _ _ h; exact h, ?_⟩
            refine ⟨by intro _ _ _ _ h; exact h, ?_⟩
            refine ⟨by intro _ _ _ _ h; exact h, ?_⟩
            refine ⟨by intro _ _ _ _ h; exact h, ?_⟩
            refine ⟨by intro _ _ _ _ h; exact h, ?_⟩
            exact trivial
          case steps =>
            refine ⟨?_, ?_⟩
            · intro a W K N hK
              have e8 : a.tmps[8]?.getD undef = .pointer (some ⟨AA, 0, none⟩) := N.was' 8 _ (by kernel_rfl) rfl
              rw [if_pos (wanted_no rfl)]
              have z := keep_cell N.le ca
              go_simp
              refine hK _ _ (slotLe_refl _) ?_
              exact rfl
            refine ⟨?_, ?_⟩
            · intro a W K N hK
              have e35 : a.tmps[35]?.getD undef = _ := N.dep' 0 35 (by kernel_rfl)
              rw [if_pos (wanted_no rfl)]
              go_simp
              refine hK _ _ (slotLe_refl _) ?_
              exact rfl
            refine ⟨?_, ?_⟩
            · intro a W K N hK
              have e36 : a.tmps[36]?.getD undef = _ := N.dep' 1 36 (by kernel_rfl)
              rw [if_pos (wanted_no rfl)]
              go_simp
              refine hK _ _ (slotLe_refl _) ?_
              exact rfl
            refine ⟨?_, ?_⟩
            · intro a W K N hK
              have e9 : a.tmps[9]?.getD undef = .pointer (some ⟨KK, 0, none⟩) := N.was' 9 _ (by kernel_rfl) rfl
              have eg : a.tmps[37]?.getD undef = .bool true := N.dep' 2 37 (by kernel_rfl)
              rw [if_pos (by rw [wanted_get (g := 2) (d := 37) rfl rfl eg]; decide)]
              clear eg
              have z := keep_cell N.le ck
              go_simp
              refine hK _ _ (slotLe_refl _) ?_
              exact rfl
            refine ⟨?_, ?_⟩
            · intro a W K N hK
              have e5 : a.tmps[5]?.getD undef = .pointer (some ⟨PB, 0, none⟩) := N.was' 5 _ (by kernel_rfl) rfl
              have eg : a.tmps[37]?.getD undef = .bool true := N.dep' 2 37 (by kernel_rfl)
              rw [if_pos (by rw [wanted_get (g := 2) (d := 37) rfl rfl eg]; decide)]
              clear eg
              have z := keep_cell N.le cP
              go_simp
              refine hK _ _ (slotLe_refl _) ?_
              exact rfl
            refine ⟨?_, ?_⟩
            · intro a W K N hK
              have e8 : a.tmps[8]?.getD undef = .pointer (some ⟨AA, 0, none⟩) := N.was' 8 _ (by kernel_rfl) rfl
              have eg : a.tmps[37]?.getD undef = .bool true := N.dep' 2 37 (by kernel_rfl)
              rw [if_pos (by rw [wanted_get (g := 2) (d := 37) rfl rfl eg]; decide)]
              clear eg
              have z := keep_cell N.le ca
              go_simp
              refine hK _ _ (slotLe_refl _) ?_
              exact rfl
            refine ⟨?_, ?_⟩
            · intro a W K N hK
              have e39 : a.tmps[39]?.getD undef = _ := N.dep' 4 39 (by kernel_rfl)
              have e40 : a.tmps[40]?.getD undef = _ := N.dep' 5 40 (by kernel_rfl)
              have eg : a.tmps[37]?.getD undef = .bool true := N.dep' 2 37 (by kernel_rfl)
              rw [if_pos (by rw [wanted_get (g := 2) (d := 37) rfl rfl eg]; decide)]
              clear eg
              go_simp
              refine hK _ _ (slotLe_refl _) ?_
              exact rfl
            refine ⟨?_, ?_⟩
            · intro a W K N hK
              have e41 : a.tmps[41]?.getD undef = _ := N.dep' 6 41 (by kernel_rfl)
              have eg : a.tmps[37]?.getD undef = .bool true := N.dep' 2 37 (by kernel_rfl)
              rw [if_pos (by rw [wanted_get (g := 2) (d := 37) rfl rfl eg]; decide)]
              clear eg
              have z := keep_cell N.le cL
              go_simp
              refine hK _ _ (slotLe_refl _) ?_
              exact rfl
            refine ⟨?_, ?_⟩
            · intro a W K N hK
              have e42 : a.tmps[42]?.getD undef = _ := N.dep' 7 42 (by kernel_rfl)
              have eg : a.tmps[37]?.getD undef = .bool true := N.dep' 2 37 (by kernel_rfl)
              rw [if_pos (by rw [wanted_get (g := 2) (d := 37) rfl rfl eg]; decide)]
              clear eg
              go_simp
              refine hK _ _ (slotLe_refl _) ?_
              exact rfl
            refine ⟨?_, ?_⟩
            · intro a W K N hK
              have e38 : a.tmps[38]?.getD undef = _ := N.dep' 3 38 (by kernel_rfl)
              have e43 : a.tmps[43]?.getD undef = _ := N.dep' 8 43 (by kernel_rfl)
              have eg : a.tmps[37]?.getD undef = .bool true := N.dep' 2 37 (by kernel_rfl)
              rw [if_pos (by rw [wanted_get (g := 2) (d := 37) rfl rfl eg]; decide)]
              clear eg
              go_simp
              refine hK _ _ (slotLe_refl _) ?_
              exact rfl
            refine ⟨?_, ?_⟩
            · intro a W K N hK
              have e37 : a.tmps[37]?.getD undef = _ := N.dep' 2 37 (by kernel_rfl)
              have e44 : a.tmps[44]?.getD undef = _ := N.dep' 9 44 (by kernel_rfl)
              rw [if_pos (wanted_no rfl)]
              go_simp
              refine hK _ _ (slotLe_refl _) ?_
              exact rfl
            exact trivial
          case fin =>
            intro V hV
            simp only [FinAll, slotPhi, List.getD_cons_zero, List.getD_cons_succ, forall_eq, Act.put, List.setIfInBounds_toArray, List.set_cons_zero, List.set_cons_succ]
            have HV := Lib.hid (below_undrew hV)
            clear hV
            have hrsV := HRS.out.below (by omega) (by omega) (by omega) HV.out
            have BXV := Lib.hid (HBX.out.below HV.out)
            have KBV := Lib.hid (HKB.out.trans ⟨HV.out.size, fun k o _ hk _ => (HV.out.block k (blk_lt hk)).trans hk⟩)
            have ca' := hrsV.ba.cell (i := 0) (v := .int .i64 (a : Int)) rfl
            have ck' := hrsV.bk.cell (i := 0) (v := .int .i64 (k : Int)) rfl
            have fa' := hrsV.ba.frozen 0
            have fk' := hrsV.bk.frozen 0
            have HRSV := Lib.hid hrsV
            clear ca ck cP cL hrsV
            gi_wp2_with fail
            go_roundw
            case rel => exact ⟨a + 1, 0, Ms.at_next HHAT.out (by rw [HLEN.out]; omega) hptot, ((HRSV.out.setA (by omega) (by omega) ((a : Int) + 1)).setK (by omega) (by omega) 0).cast rfl (by omega) (by omega), (BXV.out.other (by omega) 0 _).other (by omega) 0 _, KBV.out.trans ((keepsBk_set (by omega)).trans (keepsBk_set (by omega)))⟩
            case measure => rw [HRS.out.cnt, (((HRSV.out.setA (by omega) (by omega) ((a : Int) + 1)).setK (by omega) (by omega) 0).cast (a' := ((a + 1 : Nat) : Int)) rfl (by omega) rfl).cnt]; omega
        · have hkl' : (k : Int) < (len : Int) := by omega
          gi_wp2_with fail
          refine wpIn_region_slots slotLe (slotPhi ((fun v _ => v = ?q35) :: (fun v _ => v = ?q36) :: (fun v _ => v = ?q37) :: (fun v _ => v = ?q38) :: (fun v _ => v = ?q39) :: (fun v _ => v = ?q40) :: (fun v _ => v = ?q41) :: (fun v _ => v = ?q42) :: (fun v _ => v = ?q43) :: (fun v _ => v = ?q44) :: (fun v _ => v = ?q45) :: [])) slotLe_refl slotLe_trans (slotPhi_stable ?stb) (by kernel_rfl) (by kernel_rfl) (by kernel_rfl) (by kernel_rfl) ?steps ?fin
          case stb =>
            refine ⟨by intro _ _ _ _ h; exact h, ?_⟩
            refine ⟨by intro _ _ _ _ h; exact h, ?_⟩
            refine ⟨by intro _ _ _ _ h; exact h, ?_⟩
            refine ⟨by intro _ _ _ _ h; exact h, ?_⟩
            refine ⟨by intro _ _ _ _ h; exact h, ?_⟩
            refine ⟨by intro _ _ _ _ h; exact h, ?_⟩
            refine ⟨by intro _ _ _ _ h; exact h, ?_⟩
            refine ⟨by intro _ _ _ _ h; exact h, ?_⟩
            refine ⟨by intro _ _ _ _ h; exact h, ?_⟩
            refine ⟨by intro _ _ _ _ h; exact h, ?_⟩
            refine ⟨by intro _ _ _ _ h; exact h, ?_⟩
            exact trivial
          case steps =>
            refine ⟨?_, ?_⟩
            · intro a W K N hK
              have e8 : a.tmps[8]?.getD undef = .pointer (some ⟨AA, 0, none⟩) := N.was' 8 _ (by kernel_rfl) rfl
              rw [if_pos (wanted_no rfl)]
              have z := keep_cell N.le ca
              go_simp
              refine hK _ _ (slotLe_refl _) ?_
              exact rfl
            refine ⟨?_, ?_⟩
            · intro a W K N hK
              have e35 : a.tmps[35]?.getD undef = _ := N.dep' 0 35 (by kernel_rfl)
              rw [if_pos (wanted_no rfl)]
              go_simp
              refine hK _ _ (slotLe_refl _) ?_
              exact rfl
            refine ⟨?_, ?_⟩
            · intro a W K N hK
              have e36 : a.tmps[36]?.getD undef = _ := N.dep' 1 36 (by kernel_rfl)
              rw [if_pos (wanted_no rfl)]
              go_simp
              refine hK _ _ (slotLe_refl _) ?_
              exact rfl
            refine ⟨?_, ?_⟩
            · intro a W K N hK
              have e9 : a.tmps[9]?.getD undef = .pointer (some ⟨KK, 0, none⟩) := N.was' 9 _ (by kernel_rfl) rfl
              have eg : a.tmps[37]?.getD undef = .bool true := N.dep' 2 37 (by kernel_rfl)
              rw [if_pos (by rw [wanted_get (g := 2) (d := 37) rfl rfl eg]; decide)]
              clear eg
              have z := keep_cell N.le ck
              go_simp
              refine hK _ _ (slotLe_refl _) ?_
              exact rfl
            refine ⟨?_, ?_⟩
            · intro a W K N hK
              have e5 : a.tmps[5]?.getD undef = .pointer (some ⟨PB, 0, none⟩) := N.was' 5 _ (by kernel_rfl) rfl
              have eg : a.tmps[37]?.getD undef = .bool true := N.dep' 2 37 (by kernel_rfl)
              rw [if_pos (by rw [wanted_get (g := 2) (d := 37) rfl rfl eg]; decide)]
              clear eg
              have z := keep_cell N.le cP
              go_simp
              refine hK _ _ (slotLe_refl _) ?_
              exact rfl
            refine ⟨?_, ?_⟩
            · intro a W K N hK
              have e8 : a.tmps[8]?.getD undef = .pointer (some ⟨AA, 0, none⟩) := N.was' 8 _ (by kernel_rfl) rfl
              have eg : a.tmps[37]?.getD undef = .bool true := N.dep' 2 37 (by kernel_rfl)
              rw [if_pos (by rw [wanted_get (g := 2) (d := 37) rfl rfl eg]; decide)]
              clear eg
              have z := keep_cell N.le ca
              go_simp
              refine hK _ _ (slotLe_refl _) ?_
              exact rfl
            refine ⟨?_, ?_⟩
            · intro a W K N hK
              have e39 : a.tmps[39]?.getD undef = _ := N.dep' 4 39 (by kernel_rfl)
              have e40 : a.tmps[40]?.getD undef = _ := N.dep' 5 40 (by kernel_rfl)
              have eg : a.tmps[37]?.getD undef = .bool true := N.dep' 2 37 (by kernel_rfl)
              rw [if_pos (by rw [wanted_get (g := 2) (d := 37) rfl rfl eg]; decide)]
              clear eg
              go_simp
              refine hK _ _ (slotLe_refl _) ?_
              exact rfl
            refine ⟨?_, ?_⟩
            · intro a W K N hK
              have e41 : a.tmps[41]?.getD undef = _ := N.dep' 6 41 (by kernel_rfl)
              have eg : a.tmps[37]?.getD undef = .bool true := N.dep' 2 37 (by kernel_rfl)
              rw [if_pos (by rw [wanted_get (g := 2) (d := 37) rfl rfl eg]; decide)]
              clear eg
              have z := keep_cell N.le cL
              go_simp
              refine hK _ _ (slotLe_refl _) ?_
              exact rfl
            refine ⟨?_, ?_⟩
            · intro a W K N hK
              have e42 : a.tmps[42]?.getD undef = _ := N.dep' 7 42 (by kernel_rfl)
              have eg : a.tmps[37]?.getD undef = .bool true := N.dep' 2 37 (by kernel_rfl)
              rw [if_pos (by rw [wanted_get (g := 2) (d := 37) rfl rfl eg]; decide)]
              clear eg
              go_simp
              refine hK _ _ (slotLe_refl _) ?_
              exact rfl
            refine ⟨?_, ?_⟩
            · intro a W K N hK
              have e38 : a.tmps[38]?.getD undef = _ := N.dep' 3 38 (by kernel_rfl)
              have e43 : a.tmps[43]?.getD undef = _ := N.dep' 8 43 (by kernel_rfl)
              have eg : a.tmps[37]?.getD undef = .bool true := N.dep' 2 37 (by kernel_rfl)
              rw [if_pos (by rw [wanted_get (g := 2) (d := 37) rfl rfl eg]; decide)]
              clear eg
              go_simp
              refine hK _ _ (slotLe_refl _) ?_
              exact rfl
            refine ⟨?_, ?_⟩
            · intro a W K N hK
              have e37 : a.tmps[37]?.getD undef = _ := N.dep' 2 37 (by kernel_rfl)
              have e44 : a.tmps[44]?.getD undef = _ := N.dep' 9 44 (by kernel_rfl)
              rw [if_pos (wanted_no rfl)]
              go_simp
              refine hK _ _ (slotLe_refl _) ?_
              exact rfl
            exact trivial
          case fin =>
            intro V hV
            simp only [FinAll, slotPhi, List.getD_cons_zero, List.getD_cons_succ, forall_eq, Act.put, List.setIfInBounds_toArray, List.set_cons_zero, List.set_cons_succ]
            have HV := Lib.hid (below_undrew hV)
            clear hV
            have hrsV := HRS.out.below (by omega) (by omega) (by omega) HV.out
            have KBV := Lib.hid (HKB.out.trans ⟨HV.out.size, fun k o _ hk _ => (HV.out.block k (blk_lt hk)).trans hk⟩)
            have BXV := HBX.out.below HV.out
            have lowV := hrsV.low hNA hAK (by omega)
            have hka : k < (Ms.lst m a).length := by rw [HLEN.out]; omega
            have hxx := (Ms.at_row HHAT.out hka).symm.trans HROW.out
            injection hxx with hxx
            injection hxx with hx1 hx2
            subst hx1
            have rdV := readR_below HRD.out (show Below w.heap.size w V by rw [hM0]; exact B5.out.trans (lowV.mono (by omega)))
            obtain ⟨g1, f1, rfl, x0, x1, x2, x3, x4⟩ := readR_at rdV hka
            rw [hx2] at x0 x1 x2 x3 x4
            simp only at x0 x1 x2 x3 x4
            have HNEQ := Lib.hid (fun W => neq_rr W ⟨n, t, c, l, d⟩)
            unfold rrV at HNEQ
            simp only at HNEQ
            have ca' := hrsV.ba.cell (i := 0) (v := .int .i64 (a : Int)) rfl
            have ck' := hrsV.bk.cell (i := 0) (v := .int .i64 (k : Int)) rfl
            have cP' := keep_cell HV.out cP
            have cL' := keep_cell HV.out cL
            have q0 := BXV.cell (i := 0) (v := .string ⟨n.toArray⟩) rfl
            have q1 := BXV.cell (i := 1) (v := .int .i64 t) rfl
            have q2 := BXV.cell (i := 2) (v := .int .i64 c) rfl
            have q3 := BXV.cell (i := 3) (v := .int .i64 l) rfl
            have q4 := BXV.cell (i := 4) (v := .string ⟨d.toArray⟩) rfl
            have HRSV := Lib.hid hrsV
            clear ca ck cP cL hrsV lowV BXV rdV hx2
            obtain ⟨an0, han0⟩ : ∃ x, a = x := ⟨_, rfl⟩
            have han3 : (an0 : Int) < 3 := by omega
            have hge3 : ¬ (3 : Int) ≤ (an0 : Int) := by omega
            rw [han0] at ca' cL' HHAT HRSV ⊢
            gi_wp2_with fail
            refine wpIn_region_slots slotLe (slotPhi ((fun v _ => v = ?r48) :: (fun v _ => v = ?r49) :: (fun v _ => v = ?r50) :: (fun v _ => v = ?r51) :: (fun v _ => v = ?r52) :: (fun v _ => v = ?r53) :: (fun v _ => v = ?r54) :: (fun v _ => v = ?r55) :: (fun v _ => v = ?r56) :: (fun v _ => v = ?r57) :: (fun v _ => v = ?r58) :: (fun v _ => v = ?r59) :: (fun v _ => v = ?r60) :: (fun v _ => v = ?r61) :: (fun v _ => v = ?r62) :: (fun v _ => v = ?r63) :: (fun v _ => v = ?r64) :: (fun v _ => v = ?r65) :: [])) slotLe_refl slotLe_trans (slotPhi_stable ?stb) (by kernel_rfl) (by kernel_rfl) (by kernel_rfl) (by kernel_rfl) ?steps ?fin
            case stb =>
              refine ⟨by intro _ _ _ _ h; exact h, ?_⟩
              refine ⟨by intro _ _ _ _ h; exact h, ?_⟩
              refine ⟨by intro _ _ _ _ h; exact h, ?_⟩
              refine ⟨by intro _ _ _ _ h; exact h, ?_⟩
              refine ⟨by intro _ _ _ _ h; exact h, ?_⟩
              refine ⟨by intro _ _ _ _ h; exact h, ?_⟩
              refine ⟨by intro _ _ _ _ h; exact h, ?_⟩
              refine ⟨by intro _ _ _ _ h; exact h, ?_⟩
              refine ⟨by intro _ _ _ _ h; exact h, ?_⟩
              refine ⟨by intro _ _ _ _ h; exact h, ?_⟩
              refine ⟨by intro _ _ _ _ h; exact h, ?_⟩
              refine ⟨by intro _ _ _ _ h; exact h, ?_⟩
              refine ⟨by intro _ _ _ _ h; exact h, ?_⟩
              refine ⟨by intro _ _ _ _ h; exact h, ?_⟩
              refine ⟨by intro _ _ _ _ h; exact h, ?_⟩
              refine ⟨by intro _ _ _ _ h; exact h, ?_⟩
              refine ⟨by intro _ _ _ _ h; exact h, ?_⟩
              refine ⟨by intro _ _ _ _ h; exact h, ?_⟩
              exact trivial
            case steps =>
              refine ⟨?_, ?_⟩
              · intro a W K N hK
                have e8 : a.tmps[8]?.getD undef = .pointer (some ⟨AA, 0, none⟩) := N.was' 8 _ (by kernel_rfl) rfl
                rw [if_pos (wanted_no rfl)]
                have z := keep_cell N.le ca'
                go_simp
                refine hK _ _ (slotLe_refl _) ?_
                exact rfl
              refine ⟨?_, ?_⟩
              · intro a W K N hK
                have e48 : a.tmps[48]?.getD undef = _ := N.dep' 0 48 (by kernel_rfl)
                rw [if_pos (wanted_no rfl)]
                go_simp
                refine hK _ _ (slotLe_refl _) ?_
                rw [decide_eq_false (show ¬ (3 : Int) ≤ (an0 : Int) by omega)]
                exact rfl
              refine ⟨?_, ?_⟩
              · intro a W K N hK
                have e49 : a.tmps[49]?.getD undef = _ := N.dep' 1 49 (by kernel_rfl)
                rw [if_pos (wanted_no rfl)]
                go_simp
                refine hK _ _ (slotLe_refl _) ?_
                exact rfl
              refine ⟨?_, ?_⟩
              · intro a W K N hK
                have e10 : a.tmps[10]?.getD undef = .int .i64 (an0 : Int) := N.was' 10 _ (by kernel_rfl) rfl
                have eg : a.tmps[50]?.getD undef = .bool false := N.dep' 2 50 (by kernel_rfl)
                rw [if_pos (by rw [wanted_get (g := 2) (d := 50) rfl rfl eg]; decide)]
                clear eg
                go_simp
                refine hK _ _ (slotLe_refl _) ?_
                exact rfl
              refine ⟨?_, ?_⟩
              · intro a W K N hK
                have e8 : a.tmps[8]?.getD undef = .pointer (some ⟨AA, 0, none⟩) := N.was' 8 _ (by kernel_rfl) rfl
                have eg : a.tmps[50]?.getD undef = .bool false := N.dep' 2 50 (by kernel_rfl)
                rw [if_pos (by rw [wanted_get (g := 2) (d := 50) rfl rfl eg]; decide)]
                clear eg
                have z := keep_cell N.le ca'
                go_simp
                refine hK _ _ (slotLe_refl _) ?_
                exact rfl
              refine ⟨?_, ?_⟩
              · intro a W K N hK
                have e51 : a.tmps[51]?.getD undef = _ := N.dep' 3 51 (by kernel_rfl)
                have e52 : a.tmps[52]?.getD undef = _ := N.dep' 4 52 (by kernel_rfl)
                have eg : a.tmps[50]?.getD undef = .bool false := N.dep' 2 50 (by kernel_rfl)
                rw [if_pos (by rw [wanted_get (g := 2) (d := 50) rfl rfl eg]; decide)]
                clear eg
                go_simp
                refine hK _ _ (slotLe_refl _) ?_
                exact rfl
              refine ⟨?_, ?_⟩
              · intro a W K N hK
                have e50 : a.tmps[50]?.getD undef = _ := N.dep' 2 50 (by kernel_rfl)
                have e53 : a.tmps[53]?.getD undef = _ := N.dep' 5 53 (by kernel_rfl)
                rw [if_pos (wanted_no rfl)]
                go_simp
                refine hK _ _ (slotLe_refl _) ?_
                exact rfl
              refine ⟨?_, ?_⟩
              · intro a W K N hK
                have e54 : a.tmps[54]?.getD undef = _ := N.dep' 6 54 (by kernel_rfl)
                rw [if_pos (wanted_no rfl)]
                go_simp
                refine hK _ _ (slotLe_refl _) ?_
                exact rfl
              refine ⟨?_, ?_⟩
              · intro a W K N hK
                have e11 : a.tmps[11]?.getD undef = .pointer (some ⟨Q, 0, none⟩) := N.was' 11 _ (by kernel_rfl) rfl
                have eg : a.tmps[55]?.getD undef = .bool false := N.dep' 7 55 (by kernel_rfl)
                rw [if_pos (by rw [wanted_get (g := 7) (d := 55) rfl rfl eg]; decide)]
                clear eg
                have z0 := keep_cell N.le q0
                have z1 := keep_cell N.le q1
                have z2 := keep_cell N.le q2
                have z3 := keep_cell N.le q3
                have z4 := keep_cell N.le q4
                go_simp
                refine hK _ _ (slotLe_refl _) ?_
                exact rfl
              refine ⟨?_, ?_⟩
              · intro a W K N hK
                have e5 : a.tmps[5]?.getD undef = .pointer (some ⟨PB, 0, none⟩) := N.was' 5 _ (by kernel_rfl) rfl
                have eg : a.tmps[55]?.getD undef = .bool false := N.dep' 7 55 (by kernel_rfl)
                rw [if_pos (by rw [wanted_get (g := 7) (d := 55) rfl rfl eg]; decide)]
                clear eg
                have z := keep_cell N.le cP'
                go_simp
                refine hK _ _ (slotLe_refl _) ?_
                exact rfl
              refine ⟨?_, ?_⟩
              · intro a W K N hK
                have e8 : a.tmps[8]?.getD undef = .pointer (some ⟨AA, 0, none⟩) := N.was' 8 _ (by kernel_rfl) rfl
                have eg : a.tmps[55]?.getD undef = .bool false := N.dep' 7 55 (by kernel_rfl)
                rw [if_pos (by rw [wanted_get (g := 7) (d := 55) rfl rfl eg]; decide)]
                clear eg
                have z := keep_cell N.le ca'
                go_simp
                refine hK _ _ (slotLe_refl _) ?_
                exact rfl
              refine ⟨?_, ?_⟩
              · intro a W K N hK
                have e57 : a.tmps[57]?.getD undef = _ := N.dep' 9 57 (by kernel_rfl)
                have e58 : a.tmps[58]?.getD undef = _ := N.dep' 10 58 (by kernel_rfl)
                have eg : a.tmps[55]?.getD undef = .bool false := N.dep' 7 55 (by kernel_rfl)
                rw [if_pos (by rw [wanted_get (g := 7) (d := 55) rfl rfl eg]; decide)]
                clear eg
                go_simp
                refine hK _ _ (slotLe_refl _) ?_
                exact rfl
              refine ⟨?_, ?_⟩
              · intro a W K N hK
                have e59 : a.tmps[59]?.getD undef = _ := N.dep' 11 59 (by kernel_rfl)
                have eg : a.tmps[55]?.getD undef = .bool false := N.dep' 7 55 (by kernel_rfl)
                rw [if_pos (by rw [wanted_get (g := 7) (d := 55) rfl rfl eg]; decide)]
                clear eg
                have z := keep_cell N.le cL'
                go_simp
                refine hK _ _ (slotLe_refl _) ?_
                exact rfl
              refine ⟨?_, ?_⟩
              · intro a W K N hK
                have e9 : a.tmps[9]?.getD undef = .pointer (some ⟨KK, 0, none⟩) := N.was' 9 _ (by kernel_rfl) rfl
                have eg : a.tmps[55]?.getD undef = .bool false := N.dep' 7 55 (by kernel_rfl)
                rw [if_pos (by rw [wanted_get (g := 7) (d := 55) rfl rfl eg]; decide)]
                clear eg
                have z := keep_cell N.le ck'
                go_simp
                refine hK _ _ (slotLe_refl _) ?_
                exact rfl
              refine ⟨?_, ?_⟩
              · intro a W K N hK
                have e60 : a.tmps[60]?.getD undef = _ := N.dep' 12 60 (by kernel_rfl)
                have e61 : a.tmps[61]?.getD undef = _ := N.dep' 13 61 (by kernel_rfl)
                have eg : a.tmps[55]?.getD undef = .bool false := N.dep' 7 55 (by kernel_rfl)
                rw [if_pos (by rw [wanted_get (g := 7) (d := 55) rfl rfl eg]; decide)]
                clear eg
                go_simp
                refine hK _ _ (slotLe_refl _) ?_
                exact rfl
              refine ⟨?_, ?_⟩
              · intro a W K N hK
                have e62 : a.tmps[62]?.getD undef = _ := N.dep' 14 62 (by kernel_rfl)
                have eg : a.tmps[55]?.getD undef = .bool false := N.dep' 7 55 (by kernel_rfl)
                rw [if_pos (by rw [wanted_get (g := 7) (d := 55) rfl rfl eg]; decide)]
                clear eg
                have z0 := keep_cell N.le x0
                have z1 := keep_cell N.le x1
                have z2 := keep_cell N.le x2
                have z3 := keep_cell N.le x3
                have z4 := keep_cell N.le x4
                go_simp
                refine hK _ _ (slotLe_refl _) ?_
                exact rfl
              refine ⟨?_, ?_⟩
              · intro a W K N hK
                have e56 : a.tmps[56]?.getD undef = _ := N.dep' 8 56 (by kernel_rfl)
                have e63 : a.tmps[63]?.getD undef = _ := N.dep' 15 63 (by kernel_rfl)
                have eg : a.tmps[55]?.getD undef = .bool false := N.dep' 7 55 (by kernel_rfl)
                rw [if_pos (by rw [wanted_get (g := 7) (d := 55) rfl rfl eg]; decide)]
                clear eg
                have hn := HNEQ.out
                go_simp
                refine hK _ _ (slotLe_refl _) ?_
                exact rfl
              refine ⟨?_, ?_⟩
              · intro a W K N hK
                have e55 : a.tmps[55]?.getD undef = _ := N.dep' 7 55 (by kernel_rfl)
                have e64 : a.tmps[64]?.getD undef = _ := N.dep' 16 64 (by kernel_rfl)
                rw [if_pos (wanted_no rfl)]
                go_simp
                refine hK _ _ (slotLe_refl _) ?_
                exact rfl
              exact trivial
            case fin =>
              intro V2 hV2
              simp only [FinAll, slotPhi, List.getD_cons_zero, List.getD_cons_succ, forall_eq, Act.put, List.setIfInBounds_toArray, List.set_cons_zero, List.set_cons_succ]
              have HV2 := Lib.hid (below_undrew hV2)
              clear hV2
              have hrs2 := HRSV.out.below (by omega) (by omega) (by omega) HV2.out
              have low2 := hrs2.low hNA hAK (by omega)
              have ck2 := hrs2.bk.cell (i := 0) (v := .int .i64 (k : Int)) rfl
              have fk2 := hrs2.bk.frozen 0
              have cn2 := hrs2.bn.cell (i := 0) (v := .int .i64 (p : Int)) rfl
              have fn2 := hrs2.bn.frozen 0
              have cs2 : V2.cell? ⟨M1, 0, none⟩ = some (.int .i64 z) := (low2.cell (p := ⟨M1, 0, none⟩) (by show M1 < NN; omega)).trans (S5.out.cell (i := 0) rfl)
              have hl3 := hS.an.len
              have hl4 := hS.ns.len
              have hl5 := hS.ad.len
              have hkk : k < 3001 := by
                have := HHAT.out.le
                have h4 : an0 = 0 ∨ an0 = 1 ∨ an0 = 2 := by omega
                rw [← han0] at h4
                rw [← han0] at this
                rcases h4 with rfl | rfl | rfl
                · have h5 : k ≤ m.an.length := this
                  omega
                · have h5 : k ≤ m.ns.length := this
                  omega
                · have h5 : k ≤ m.ad.length := this
                  omega
              have HRS2 := Lib.hid hrs2
              clear hrs2 low2 ca' ck' cP' cL' q0 q1 q2 q3 q4 x0 x1 x2 x3 x4
              have hpl : (pre ++ [(a, (⟨n, t, c, l, d⟩ : Rd.RR))]).length = p + 1 := by rw [List.length_append, HP.out]; rfl
              have HR3 := Lib.hid ((HRS2.out.setK (by omega) (by omega) ((k : Int) + 1)).setN (by omega) (by omega) ((p : Int) + 1))
              have KB3 : Hid (KeepsBk w5.heap.size W ((V2.setCell ⟨KK, 0, none⟩ (.int .i64 ((k : Int) + 1))).setCell ⟨NN, 0, none⟩ (.int .i64 ((p : Int) + 1)))) := Lib.hid ((KBV.out.trans ⟨HV2.out.size, fun k o _ hk _ => (HV2.out.block k (blk_lt hk)).trans hk⟩).trans ((keepsBk_set (by omega)).trans (keepsBk_set (by omega))))
              by_cases hz : (p : Int) + 1 = z
              · rw [hz] at HR3 KB3
                gi_wp2_with fail
                refine ⟨KB3.out, rfl, an0, k + 1, ?_, ?_, ?_⟩
                · exact HR3.out.cast (by rw [hpl]; omega) rfl (by omega)
                · rw [hpl]; omega
                · rw [hpl]; omega
              · gi_wp2_with fail
                refine ⟨KB3.out, ⟨fun _ => readR_own (HR3.out.own O5.out.1 (by omega) (by decide) HABk.out HKBk.out), fun _ => readR_own (HR3.out.own O5.out.2.1 (by omega) (by decide) HABk.out HKBk.out), fun _ => readR_own (HR3.out.own O5.out.2.2 (by omega) (by decide) HABk.out HKBk.out)⟩, an0, k + 1, ?_, ?_, ?_⟩
                · rw [hpl]; exact Ms.at_step HHAT.out (by rw [← han0]; exact hka)
                · exact HR3.out.cast (by rw [hpl]; omega) rfl (by omega)
                · rw [hpl]; omega
    case done =>
      rintro ys W hS2 ⟨a, k, hat, hrs, hzz⟩
      obtain rfl : ys = Ms.rows m := hS2
      rw [Ms.rows_len] at hat hrs hzz
      exact ⟨_, a, k, hrs, by omega⟩
    case stop =>
      rintro c pre W hSp ⟨rfl, a, k, hrs, hzz, hz1⟩
      have hpl := hSp.length_le
      rw [Ms.rows_len] at hpl
      exact ⟨rfl, pre.length, a, k, hrs, by omega⟩
    case end1 =>
      rintro D W hD ⟨q, a, k, hrs, hq⟩ hDK
      have hl3 := hS.an.len
      have hl4 := hS.ns.len
      have hl5 := hS.ad.len
      have low := hrs.low hNA hAK (by omega)
      have KW : Block W M0 #[.int .i64 m.id, .bool m.resp, .int .i64 m.opc, .bool m.auth, .bool m.cut, .bool m.des, .bool m.avl, .int .i64 m.code, (.slice aq m.qs.length cq), (.slice aa m.an.length ca), (.slice an m.ns.length cn), (.slice ad m.ad.length cd), .bool m.edns, .int .i64 m.size] 27 := (low.block M0 (by omega)).trans K5.out
      have SW : Block W M1 #[.int .i64 z] 3 := (low.block M1 (by omega)).trans S5.out
      have RW : Block W M2 #[.bool false] 4 := (low.block M2 (by omega)).trans R5.out
      have NW : Block W NN #[.int .i64 (q : Int)] 3 := hrs.bn
      have BW : Hid (Below M0 w W) := Lib.hid (B5.out.trans (low.mono (by omega)))
      have hsW := hrs.size
      have HDK := Lib.hid hDK
      have c0 := KW.cell (i := 0) (v := .int .i64 m.id) rfl
      have c1 := KW.cell (i := 1) (v := .bool m.resp) rfl
      have c2 := KW.cell (i := 2) (v := .int .i64 m.opc) rfl
      have c3 := KW.cell (i := 3) (v := .bool m.auth) rfl
      have c4 := KW.cell (i := 4) (v := .bool m.cut) rfl
      have c5 := KW.cell (i := 5) (v := .bool m.des) rfl
      have c6 := KW.cell (i := 6) (v := .bool m.avl) rfl
      have c7 := KW.cell (i := 7) (v := .int .i64 m.code) rfl
      have c8 := KW.cell (i := 8) (v := (.slice aq m.qs.length cq)) rfl
      have c9 := KW.cell (i := 9) (v := (.slice aa m.an.length ca)) rfl
      have c10 := KW.cell (i := 10) (v := (.slice an m.ns.length cn)) rfl
      have c11 := KW.cell (i := 11) (v := (.slice ad m.ad.length cd)) rfl
      have c12 := KW.cell (i := 12) (v := .bool m.edns) rfl
      have c13 := KW.cell (i := 13) (v := .int .i64 m.size) rfl
      have s0 := SW.cell (i := 0) (v := .int .i64 z) rfl
      have sf := SW.frozen 0
      have HK6 := Lib.hid KW
      have HS6 := Lib.hid SW
      have HR6 := Lib.hid RW
      have HN6 := Lib.hid NW
      have hszD : D < W.heap.size := blk_lt HDK.out
      have hM1D : M1 ≠ D := by omega
      clear KW SW RW NW low hrs hDK
      rcases hq with ⟨hc | hc, hqt⟩ | ⟨hc1, hc2, hqt⟩
      rotate_left 2
      · gi_wp2_with fail
        obtain ⟨WS, hWS⟩ : ∃ X, W = X := ⟨_, rfl⟩
        rw [← hqt] at HS6
        have K7 := HK6
        have S7 := HS6
        have R7 := HR6
        have N7 := HN6
        have BW7 := BW
        have D7 := HDK
        rw [hWS] at K7 S7 R7 N7 BW7 D7 hsW ⊢
        clear hWS
        clear c0 c1 c2 c3 c4 c5 c6 c7 c8 c9 c10 c11 c12 c13 s0 sf HK6 HS6 HR6 HN6 BW HDK
        obtain ⟨W8, hW8⟩ : ∃ X, WS.alloc (.cells #[.int .i64 m.id, .bool m.resp, .int .i64 m.opc, .bool m.auth, .bool m.cut, .bool m.des, .bool m.avl, .int .i64 m.code, .slice none 0 0, (.slice aa m.an.length ca), (.slice an m.ns.length cn), (.slice ad m.ad.length cd), .bool m.edns, .int .i64 m.size] 27) = X := ⟨_, rfl⟩
        have HC : Hid (Cm WS WS.heap.size (WS.heap.size + 1) [.int .i64 m.id, .bool m.resp, .int .i64 m.opc, .bool m.auth, .bool m.cut, .bool m.des, .bool m.avl, .int .i64 m.code, .slice none 0 0, (.slice aa m.an.length ca), (.slice an m.ns.length cn), (.slice ad m.ad.length cd), .bool m.edns, .int .i64 m.size] W8) := Lib.hid ⟨by rw [← hW8]; exact Block.new _ _ _, rfl, Nat.lt_succ_self _, by rw [← hW8]; simp, by rw [← hW8]; exact (Below.refl _ _).alloc (Nat.le_refl _) _⟩
        rw [hW8]
        clear hW8
        obtain ⟨OB, hOB⟩ : ∃ M, WS.heap.size = M := ⟨_, rfl⟩
        rw [hOB] at HC hsW ⊢
        as_aux_lemma =>
        gi_loopw [14] (fun i wx => ∃ (k : Nat) (v : Value), i = .int .i64 (k : Int) ∧ k ≤ m.qs.length ∧ Hid (OwnK encQ 3 47 (OB + 1) v ((m.qs.take k).map fq) wx) ∧ Hid (Cm WS OB (OB + 1) [.int .i64 m.id, .bool m.resp, .int .i64 m.opc, .bool m.auth, .bool m.cut, .bool m.des, .bool m.avl, .int .i64 m.code, v, (.slice aa m.an.length ca), (.slice an m.ns.length cn), (.slice ad m.ad.length cd), .bool m.edns, .int .i64 m.size] wx)) (fun i _ => m.qs.length + 1 - (intOf i).toNat)
        case atStart => exact ⟨0, _, rfl, by omega, Lib.hid (ownK_nil _ _ _ _ _), HC⟩
        case round =>
          clear HC
          obtain ⟨k, v, rfl, hk, ho, hb⟩ := hrel
          have bel := hb.out.bel
          have KR : Block wr M0 #[.int .i64 m.id, .bool m.resp, .int .i64 m.opc, .bool m.auth, .bool m.cut, .bool m.des, .bool m.avl, .int .i64 m.code, (.slice aq m.qs.length cq), (.slice aa m.an.length ca), (.slice an m.ns.length cn), (.slice ad m.ad.length cd), .bool m.edns, .int .i64 m.size] 27 := (bel.block M0 (by omega)).trans K7.out
          have c8 := KR.cell (i := 8) (v := (.slice aq m.qs.length cq)) rfl
          have BR := Lib.hid (BW7.out.trans (bel.mono (by omega)))
          have KRh := Lib.hid KR
          by_cases hlt : k < m.qs.length
          · have rdq := readQ_below HL.out.qs (show Below w.heap.size w wr by rw [hM0]; exact BR.out)
            obtain ⟨g, off, hao, x0, x1, x2⟩ := readQ_at rdq hlt
            have hnq := hS.names m.qs[k] (List.getElem_mem hlt)
            have htk : (m.qs.take (k + 1)).map fq = (m.qs.take k).map fq ++ [fq m.qs[k]] := by rw [List.take_succ_eq_append_getElem hlt, List.map_append]; rfl
            obtain ⟨⟨qn, qt, qc⟩, hqe⟩ : ∃ x, m.qs[k] = x := ⟨_, rfl⟩
            rw [hqe] at x0 x1 x2 hnq htk
            simp only at x0 x1 x2 hnq
            have HTK := Lib.hid htk
            have HFN : Hid (Fence.wide.fn 20) := Lib.hid hF3
            rw [hao] at c8 ⊢
            obtain ⟨aov, cpv, rfl, _⟩ := ownK_form ho.out
            have hkl3 : ((m.qs.take k).map fq).length = k := by rw [List.length_map, List.length_take]; omega
            rw [hkl3] at ho hb
            have hql := hS.qs
            have bQ := (Below.refl wr.heap.size wr).alloc (Nat.le_refl _) (.cells #[.string ⟨qn.toArray⟩, .int .i64 qt, .int .i64 qc] 47)
            have KQ := Block.new wr #[.string ⟨qn.toArray⟩, .int .i64 qt, .int .i64 qc] 47
            clear KR bel hqe htk rdq
            gi_wp2_with fail
            obtain ⟨wq, hwq⟩ : ∃ X, wr.alloc (.cells #[.string ⟨qn.toArray⟩, .int .i64 qt, .int .i64 qc] 47) = X := ⟨_, rfl⟩
            rw [hwq] at bQ KQ ⊢
            have hszq : wq.heap.size = wr.heap.size + 1 := by rw [← hwq]; simp
            obtain ⟨QB, hQB⟩ : ∃ M, wr.heap.size = M := ⟨_, rfl⟩
            refine (callsIn_wide.2 (rfold_any qn wq (by omega))).mono ?_
            rintro e7 w7 ⟨rfl, b7⟩
            have b17 := bQ.trans (b7.mono (by omega))
            have KQ7 := KQ.below b7
            have HB7 := Lib.hid (hb.out.below b17)
            have b18 := Lib.hid (b17.set_above (Nat.le_refl _) 0 (.string ⟨(Nm.fold qn).toArray⟩))
            have HO8 := Lib.hid (ownK_below ho.out b18.out)
            have HB8 := Lib.hid (hb.out.below b18.out)
            rw [hQB] at KQ7 HO8 HB8 ⊢
            have y0 := KQ7.cell (i := 0) (v := .string ⟨qn.toArray⟩) rfl
            have y1 := KQ7.cell (i := 1) (v := .int .i64 qt) rfl
            have y2 := KQ7.cell (i := 2) (v := .int .i64 qc) rfl
            have yf := KQ7.frozen 0
            have cv := HB7.out.blk.cell (i := 8) (v := .slice aov k cpv) rfl
            have hOQ : OB ≠ QB := by have := hb.out.lt; have := hb.out.his; omega
            clear hwq bQ KQ b7 b17 KQ7 x0 x1 x2 c8
            gi_wp2_with (gi_at_builtin; refine wpListIn_apk _ rfl _ _ 24 rfl encQ 3 encQ_len (by omega) encQ_one (OB + 1) 47 _ 32 Try.underlying24 infoQ rfl _ ((m.qs.take k).map fq) rfl (ownK_alloc HO8.out _) ⟨_, 0, none⟩ 1 1 [fq ⟨qn, qt, qc⟩] rfl rfl (info1 encQ_len (fq ⟨qn, qt, qc⟩) _ _ _ (blk_new_set _ _ _ _ _ _)) (by rw [hkl3]; omega) (by omega) (HB8.out.alloc _).his ?_; intro v9 w9 ho9 hg9 _; obtain ⟨ao9, cp9, rfl, _⟩ := ownK_form ho9; rw [show ((m.qs.take k).map fq ++ [fq ⟨qn, qt, qc⟩]).length = k + 1 by rw [List.length_append, hkl3]; rfl] at ho9 ⊢; have B9 := Lib.hid ((HB8.out.alloc _).apd (ownK_alloc HO8.out _) hg9); have O9 := Lib.hid ho9; have c98 := B9.out.blk.cell (i := 8) (v := .slice aov k cpv) rfl; have f98 := B9.out.blk.frozen 8; clear ho9 hg9)
            go_roundw
            case rel =>
              refine ⟨k + 1, _, by go_num, by omega, ?_, Lib.hid (B9.out.set 8 _)⟩
              rw [HTK.out]
              exact Lib.hid (ownK_set O9.out (by omega))
            case measure => simp [intOf]; omega
          · obtain rfl : m.qs.length = k := by omega
            have hv := ho.out
            rw [List.take_length] at hv
            have HO9 := Lib.hid hv
            obtain ⟨aov, cpv, rfl, _⟩ := ownK_form hv
            have hkl3 : (m.qs.map fq).length = m.qs.length := List.length_map _
            rw [hkl3] at HO9 hb hv
            have LR := Lib.hid (HL.out.below (show Below w.heap.size w wr by rw [hM0]; exact BR.out))
            have OR := hb.out.blk
            have m0 := KR.cell (i := 0) (v := .int .i64 m.id) rfl
            have m1 := KR.cell (i := 1) (v := .bool m.resp) rfl
            have m2 := KR.cell (i := 2) (v := .int .i64 m.opc) rfl
            have m3 := KR.cell (i := 3) (v := .bool m.auth) rfl
            have m4 := KR.cell (i := 4) (v := .bool m.cut) rfl
            have m5 := KR.cell (i := 5) (v := .bool m.des) rfl
            have m6 := KR.cell (i := 6) (v := .bool m.avl) rfl
            have m7 := KR.cell (i := 7) (v := .int .i64 m.code) rfl
            have m8 := KR.cell (i := 8) (v := (.slice aq m.qs.length cq)) rfl
            have m9 := KR.cell (i := 9) (v := (.slice aa m.an.length ca)) rfl
            have m10 := KR.cell (i := 10) (v := (.slice an m.ns.length cn)) rfl
            have m11 := KR.cell (i := 11) (v := (.slice ad m.ad.length cd)) rfl
            have m12 := KR.cell (i := 12) (v := .bool m.edns) rfl
            have m13 := KR.cell (i := 13) (v := .int .i64 m.size) rfl
            have s9 : Block wr M1 #[.int .i64 (q : Int)] 3 := (bel.block M1 (by omega)).trans S7.out
            have n9 : Block wr NN #[.int .i64 (q : Int)] 3 := (bel.block NN (by omega)).trans N7.out
            have r9 : Block wr M2 #[.bool false] 4 := (bel.block M2 (by omega)).trans R7.out
            have D9 : wr.heap[D]? = some (.deferred (some [])) := (bel.block D (by have := blk_lt D7.out; omega)).trans D7.out
            have ms := fun o => (Block.alloc s9 o).cell (i := 0) (v := .int .i64 (q : Int)) rfl
            have mn := fun o => (Block.alloc n9 o).cell (i := 0) (v := .int .i64 (q : Int)) rfl
            have mo0 := fun o => (KR.alloc o).cell (i := 0) (v := .int .i64 m.id) rfl
            have mo1 := fun o => (KR.alloc o).cell (i := 1) (v := .bool m.resp) rfl
            have mo2 := fun o => (KR.alloc o).cell (i := 2) (v := .int .i64 m.opc) rfl
            have mo3 := fun o => (KR.alloc o).cell (i := 3) (v := .bool m.auth) rfl
            have mo4 := fun o => (KR.alloc o).cell (i := 4) (v := .bool m.cut) rfl
            have mo5 := fun o => (KR.alloc o).cell (i := 5) (v := .bool m.des) rfl
            have mo6 := fun o => (KR.alloc o).cell (i := 6) (v := .bool m.avl) rfl
            have mo7 := fun o => (KR.alloc o).cell (i := 7) (v := .int .i64 m.code) rfl
            have mo8 := fun o => (KR.alloc o).cell (i := 8) (v := (.slice aq m.qs.length cq)) rfl
            have mo9 := fun o => (KR.alloc o).cell (i := 9) (v := (.slice aa m.an.length ca)) rfl
            have mo10 := fun o => (KR.alloc o).cell (i := 10) (v := (.slice an m.ns.length cn)) rfl
            have mo11 := fun o => (KR.alloc o).cell (i := 11) (v := (.slice ad m.ad.length cd)) rfl
            have mo12 := fun o => (KR.alloc o).cell (i := 12) (v := .bool m.edns) rfl
            have mo13 := fun o => (KR.alloc o).cell (i := 13) (v := .int .i64 m.size) rfl
            have oo0 := fun o => (OR.alloc o).cell (i := 0) (v := .int .i64 m.id) rfl
            have oo1 := fun o => (OR.alloc o).cell (i := 1) (v := .bool m.resp) rfl
            have oo2 := fun o => (OR.alloc o).cell (i := 2) (v := .int .i64 m.opc) rfl
            have oo3 := fun o => (OR.alloc o).cell (i := 3) (v := .bool m.auth) rfl
            have oo4 := fun o => (OR.alloc o).cell (i := 4) (v := .bool m.cut) rfl
            have oo5 := fun o => (OR.alloc o).cell (i := 5) (v := .bool m.des) rfl
            have oo6 := fun o => (OR.alloc o).cell (i := 6) (v := .bool m.avl) rfl
            have oo7 := fun o => (OR.alloc o).cell (i := 7) (v := .int .i64 m.code) rfl
            have oo8 := fun o => (OR.alloc o).cell (i := 8) (v := (.slice aov m.qs.length cpv)) rfl
            have oo9 := fun o => (OR.alloc o).cell (i := 9) (v := (.slice aa m.an.length ca)) rfl
            have oo10 := fun o => (OR.alloc o).cell (i := 10) (v := (.slice an m.ns.length cn)) rfl
            have oo11 := fun o => (OR.alloc o).cell (i := 11) (v := (.slice ad m.ad.length cd)) rfl
            have oo12 := fun o => (OR.alloc o).cell (i := 12) (v := .bool m.edns) rfl
            have oo13 := fun o => (OR.alloc o).cell (i := 13) (v := .int .i64 m.size) rfl
            have HD9 := Lib.hid D9
            have HR9 := Lib.hid r9
            have HS9 := Lib.hid s9
            have HN9 := Lib.hid n9
            have HOR := Lib.hid OR
            clear hv s9 n9 r9 D9 bel
            gi_wp2_with fail
            obtain ⟨cd1, hcd1⟩ : ∃ c, wrap64 (m.code + 1) = c := ⟨_, rfl⟩
            rw [hcd1]
            have hne : m.code ≠ cd1 := by rw [← hcd1]; unfold wrap64; omega
            obtain ⟨wP, hwP⟩ : ∃ X, wr.alloc (.cells #[.int .i64 m.id, .bool m.resp, .int .i64 m.opc, .bool m.auth, .bool m.cut, .bool m.des, .bool m.avl, .int .i64 cd1, (.slice aq m.qs.length cq), (.slice aa m.an.length ca), (.slice an m.ns.length cn), (.slice ad m.ad.length cd), .bool m.edns, .int .i64 m.size] 27) = X := ⟨_, rfl⟩
            have bP : Below wr.heap.size wr wP := by rw [← hwP]; exact (Below.refl _ _).alloc (Nat.le_refl _) _
            have KP : Block wP wr.heap.size #[.int .i64 m.id, .bool m.resp, .int .i64 m.opc, .bool m.auth, .bool m.cut, .bool m.des, .bool m.avl, .int .i64 cd1, (.slice aq m.qs.length cq), (.slice aa m.an.length ca), (.slice an m.ns.length cn), (.slice ad m.ad.length cd), .bool m.edns, .int .i64 m.size] 27 := by rw [← hwP]; exact Block.new _ _ _
            rw [hwP]
            clear m0 mo0 oo0 m1 mo1 oo1 m2 mo2 oo2 m3 mo3 oo3 m4 mo4 oo4 m5 mo5 oo5 m6 mo6 oo6 m7 mo7 oo7 m8 mo8 oo8 m9 mo9 oo9 m10 mo10 oo10 m11 mo11 oo11 m12 mo12 oo12 m13 mo13 oo13 ms mn hwP hcd1
            have LP := LR.out.below bP
            refine (callsIn_wide.2 (msame_fold m _ _ _ _ _ _ _ _ wP LP ⟨readQ_own (ownK_below HO9.out bP), LP.an, LP.ns, LP.ad⟩ (hS.slim (by omega)))).mono ?_
            rintro eA wa ⟨rfl, ba⟩
            have bPa := bP.trans (ba.mono bP.size)
            have La := Lib.hid (LP.below ba)
            obtain ⟨PX, hPX⟩ : ∃ M, wr.heap.size = M := ⟨_, rfl⟩
            have KPa := KP.below ba
            have KRa := KRh.out.below bPa
            rw [hPX] at KPa ⊢
            have m0 := KRa.cell (i := 0) (v := .int .i64 m.id) rfl
            have m1 := KRa.cell (i := 1) (v := .bool m.resp) rfl
            have m2 := KRa.cell (i := 2) (v := .int .i64 m.opc) rfl
            have m3 := KRa.cell (i := 3) (v := .bool m.auth) rfl
            have m4 := KRa.cell (i := 4) (v := .bool m.cut) rfl
            have m5 := KRa.cell (i := 5) (v := .bool m.des) rfl
            have m6 := KRa.cell (i := 6) (v := .bool m.avl) rfl
            have m7 := KRa.cell (i := 7) (v := .int .i64 m.code) rfl
            have m8 := KRa.cell (i := 8) (v := (.slice aq m.qs.length cq)) rfl
            have m9 := KRa.cell (i := 9) (v := (.slice aa m.an.length ca)) rfl
            have m10 := KRa.cell (i := 10) (v := (.slice an m.ns.length cn)) rfl
            have m11 := KRa.cell (i := 11) (v := (.slice ad m.ad.length cd)) rfl
            have m12 := KRa.cell (i := 12) (v := .bool m.edns) rfl
            have m13 := KRa.cell (i := 13) (v := .int .i64 m.size) rfl
            have p0 := KPa.cell (i := 0) (v := .int .i64 m.id) rfl
            have p1 := KPa.cell (i := 1) (v := .bool m.resp) rfl
            have p2 := KPa.cell (i := 2) (v := .int .i64 m.opc) rfl
            have p3 := KPa.cell (i := 3) (v := .bool m.auth) rfl
            have p4 := KPa.cell (i := 4) (v := .bool m.cut) rfl
            have p5 := KPa.cell (i := 5) (v := .bool m.des) rfl
            have p6 := KPa.cell (i := 6) (v := .bool m.avl) rfl
            have p7 := KPa.cell (i := 7) (v := .int .i64 cd1) rfl
            have p8 := KPa.cell (i := 8) (v := (.slice aq m.qs.length cq)) rfl
            have p9 := KPa.cell (i := 9) (v := (.slice aa m.an.length ca)) rfl
            have p10 := KPa.cell (i := 10) (v := (.slice an m.ns.length cn)) rfl
            have p11 := KPa.cell (i := 11) (v := (.slice ad m.ad.length cd)) rfl
            have p12 := KPa.cell (i := 12) (v := .bool m.edns) rfl
            have p13 := KPa.cell (i := 13) (v := .int .i64 m.size) rfl
            have Ra := Lib.hid (HR9.out.below bPa)
            have Da := Lib.hid ((bPa.block D (blk_lt HD9.out)).trans HD9.out)
            have Ba := Lib.hid (BR.out.trans (bPa.mono (by have := BR.out.size; omega)))
            clear bP KP LP ba bPa KPa KRa
            gi_wp2_with fail
            refine (callsIn_wide.2 (msame_code m _ _ _ _ _ _ _ _ wa La.out ⟨La.out.qs, La.out.an, La.out.ns, La.out.ad⟩ cd1 hne)).mono ?_
            rintro eB wb ⟨rfl, bb⟩
            clear m0 p0 m1 p1 m2 p2 m3 p3 m4 p4 m5 p5 m6 p6 m7 p7 m8 p8 m9 p9 m10 p10 m11 p11 m12 p12 m13 p13
            have Rb := Lib.hid (Ra.out.below bb)
            have Db := Lib.hid ((bb.block D (blk_lt Da.out)).trans Da.out)
            have Bb := Lib.hid (Ba.out.trans (bb.mono (by have := Ba.out.size; omega)))
            clear bb
            gi_wp2_with fail
            refine (callsIn_wide.2 (HAW.out _)).mono ?_
            rintro eC wc ⟨rfl, bc⟩
            have Rc := Rb.out.below bc
            have Dc := (bc.block D (blk_lt Db.out)).trans Db.out
            have Bc := Bb.out.trans (bc.mono (by have := Bb.out.size; omega))
            have rc := Rc.cell (i := 0) (v := .bool false) rfl
            have fc := Rc.frozen 0
            have hDM : D ≠ M2 := by omega
            have Dd : (wc.setCell ⟨M2, 0, none⟩ (.bool true)).heap[D]? = some (.deferred (some [])) := (heap_set_other hDM).trans Dc
            have Rd : Block ((wc.setCell ⟨M2, 0, none⟩ (.bool true)).putObj D (.deferred none)) M2 #[.bool true] 4 := (World.putObj_heap_other (Ne.symm hDM)).trans (Rc.set 0 (.bool true))
            have Bd : Below M0 w (wc.setCell ⟨M2, 0, none⟩ (.bool true)) := Bc.setCell (p := ⟨M2, 0, none⟩) (by show M0 ≤ M2; omega) (.bool true)
            have Be := Lib.hid (Bd.grown (grownBy_putObj' (wc.setCell ⟨M2, 0, none⟩ (.bool true)) D (.deferred none)) (by have := Bd.size; omega) (fun k e => by cases e; omega))
            have HDd := Lib.hid Dd
            have HRd := Lib.hid Rd
            clear bc Dc Bc Dd Rd Bd Rc
            gi_wp2_with fail
            refine ⟨by simp, .inl ⟨_, _, rfl, run_takeDeferred HDd.out, ?_⟩⟩
            refine ⟨_, res_rec _ _ M2 true rfl (HRd.out.cell (i := 0) (v := .bool true) rfl), ?_⟩
            exact ⟨rfl, by rw [hM0]; exact Be.out⟩
      all_goals
        gi_wp2_with fail
        obtain ⟨WS, hWS⟩ : ∃ X, W.setCell ⟨M1, 0, none⟩ (.int .i64 ((m.an.length : Int) + (m.ns.length : Int) + (m.ad.length : Int))) = X := ⟨_, rfl⟩
        have S7 : Hid (Block WS M1 #[.int .i64 (q : Int)] 3) := Lib.hid (by rw [← hWS, ← hqt]; exact HS6.out.set 0 _)
        have K7 := Lib.hid (HK6.out.other (B' := M1) (by omega) 0 (.int .i64 ((m.an.length : Int) + (m.ns.length : Int) + (m.ad.length : Int))))
        have R7 := Lib.hid (HR6.out.other (B' := M1) (by omega) 0 (.int .i64 ((m.an.length : Int) + (m.ns.length : Int) + (m.ad.length : Int))))
        have N7 := Lib.hid (HN6.out.other (B' := M1) (by omega) 0 (.int .i64 ((m.an.length : Int) + (m.ns.length : Int) + (m.ad.length : Int))))
        have BW7 := Lib.hid (BW.out.setCell (p := ⟨M1, 0, none⟩) (by show M0 ≤ M1; omega) (.int .i64 ((m.an.length : Int) + (m.ns.length : Int) + (m.ad.length : Int))))
        have D7 : Hid (WS.heap[D]? = some (.deferred (some []))) := Lib.hid (by rw [← hWS]; exact (heap_set_other (Ne.symm hM1D)).trans HDK.out)
        have hsW' : w5.heap.size ≤ WS.heap.size := by rw [← hWS]; simpa [World.setCell] using hsW
        rw [hWS] at K7 R7 N7 BW7 ⊢
        rw [show W.heap.size = WS.heap.size from by rw [← hWS]; simp [World.setCell]]
        clear hsW hWS
        have hsW := hsW'
        clear hsW'
        clear c0 c1 c2 c3 c4 c5 c6 c7 c8 c9 c10 c11 c12 c13 s0 sf HK6 HS6 HR6 HN6 BW HDK
        obtain ⟨W8, hW8⟩ : ∃ X, WS.alloc (.cells #[.int .i64 m.id, .bool m.resp, .int .i64 m.opc, .bool m.auth, .bool m.cut, .bool m.des, .bool m.avl, .int .i64 m.code, .slice none 0 0, (.slice aa m.an.length ca), (.slice an m.ns.length cn), (.slice ad m.ad.length cd), .bool m.edns, .int .i64 m.size] 27) = X := ⟨_, rfl⟩
        have HC : Hid (Cm WS WS.heap.size (WS.heap.size + 1) [.int .i64 m.id, .bool m.resp, .int .i64 m.opc, .bool m.auth, .bool m.cut, .bool m.des, .bool m.avl, .int .i64 m.code, .slice none 0 0, (.slice aa m.an.length ca), (.slice an m.ns.length cn), (.slice ad m.ad.length cd), .bool m.edns, .int .i64 m.size] W8) := Lib.hid ⟨by rw [← hW8]; exact Block.new _ _ _, rfl, Nat.lt_succ_self _, by rw [← hW8]; simp, by rw [← hW8]; exact (Below.refl _ _).alloc (Nat.le_refl _) _⟩
        rw [hW8]
        clear hW8
        obtain ⟨OB, hOB⟩ : ∃ M, WS.heap.size = M := ⟨_, rfl⟩
        rw [hOB] at HC hsW ⊢
        as_aux_lemma =>
        gi_loopw [14] (fun i wx => ∃ (k : Nat) (v : Value), i = .int .i64 (k : Int) ∧ k ≤ m.qs.length ∧ Hid (OwnK encQ 3 47 (OB + 1) v ((m.qs.take k).map fq) wx) ∧ Hid (Cm WS OB (OB + 1) [.int .i64 m.id, .bool m.resp, .int .i64 m.opc, .bool m.auth, .bool m.cut, .bool m.des, .bool m.avl, .int .i64 m.code, v, (.slice aa m.an.length ca), (.slice an m.ns.length cn), (.slice ad m.ad.length cd), .bool m.edns, .int .i64 m.size] wx)) (fun i _ => m.qs.length + 1 - (intOf i).toNat)
        case atStart => exact ⟨0, _, rfl, by omega, Lib.hid (ownK_nil _ _ _ _ _), HC⟩
        case round =>
          clear HC
          obtain ⟨k, v, rfl, hk, ho, hb⟩ := hrel
          have bel := hb.out.bel
          have KR : Block wr M0 #[.int .i64 m.id, .bool m.resp, .int .i64 m.opc, .bool m.auth, .bool m.cut, .bool m.des, .bool m.avl, .int .i64 m.code, (.slice aq m.qs.length cq), (.slice aa m.an.length ca), (.slice an m.ns.length cn), (.slice ad m.ad.length cd), .bool m.edns, .int .i64 m.size] 27 := (bel.block M0 (by omega)).trans K7.out
          have c8 := KR.cell (i := 8) (v := (.slice aq m.qs.length cq)) rfl
          have BR := Lib.hid (BW7.out.trans (bel.mono (by omega)))
          have KRh := Lib.hid KR
          by_cases hlt : k < m.qs.length
          · have rdq := readQ_below HL.out.qs (show Below w.heap.size w wr by rw [hM0]; exact BR.out)
            obtain ⟨g, off, hao, x0, x1, x2⟩ := readQ_at rdq hlt
            have hnq := hS.names m.qs[k] (List.getElem_mem hlt)
            have htk : (m.qs.take (k + 1)).map fq = (m.qs.take k).map fq ++ [fq m.qs[k]] := by rw [List.take_succ_eq_append_getElem hlt, List.map_append]; rfl
            obtain ⟨⟨qn, qt, qc⟩, hqe⟩ : ∃ x, m.qs[k] = x := ⟨_, rfl⟩
            rw [hqe] at x0 x1 x2 hnq htk
            simp only at x0 x1 x2 hnq
            have HTK := Lib.hid htk
            have HFN : Hid (Fence.wide.fn 20) := Lib.hid hF3
            rw [hao] at c8 ⊢
            obtain ⟨aov, cpv, rfl, _⟩ := ownK_form ho.out
            have hkl3 : ((m.qs.take k).map fq).length = k := by rw [List.length_map, List.length_take]; omega
            rw [hkl3] at ho hb
            have hql := hS.qs
            have bQ := (Below.refl wr.heap.size wr).alloc (Nat.le_refl _) (.cells #[.string ⟨qn.toArray⟩, .int .i64 qt, .int .i64 qc] 47)
            have KQ := Block.new wr #[.string ⟨qn.toArray⟩, .int .i64 qt, .int .i64 qc] 47
            clear KR bel hqe htk rdq
            gi_wp2_with fail
            obtain ⟨wq, hwq⟩ : ∃ X, wr.alloc (.cells #[.string ⟨qn.toArray⟩, .int .i64 qt, .int .i64 qc] 47) = X := ⟨_, rfl⟩
            rw [hwq] at bQ KQ ⊢
            have hszq : wq.heap.size = wr.heap.size + 1 := by rw [← hwq]; simp
            obtain ⟨QB, hQB⟩ : ∃ M, wr.heap.size = M := ⟨_, rfl⟩
            refine (callsIn_wide.2 (rfold_any qn wq (by omega))).mono ?_
            rintro e7 w7 ⟨rfl, b7⟩
            have b17 := bQ.trans (b7.mono (by omega))
            have KQ7 := KQ.below b7
            have HB7 := Lib.hid (hb.out.below b17)
            have b18 := Lib.hid (b17.set_above (Nat.le_refl _) 0 (.string ⟨(Nm.fold qn).toArray⟩))
            have HO8 := Lib.hid (ownK_below ho.out b18.out)
            have HB8 := Lib.hid (hb.out.below b18.out)
            rw [hQB] at KQ7 HO8 HB8 ⊢
            have y0 := KQ7.cell (i := 0) (v := .string ⟨qn.toArray⟩) rfl
            have y1 := KQ7.cell (i := 1) (v := .int .i64 qt) rfl
            have y2 := KQ7.cell (i := 2) (v := .int .i64 qc) rfl
            have yf := KQ7.frozen 0
            have cv := HB7.out.blk.cell (i := 8) (v := .slice aov k cpv) rfl
            have hOQ : OB ≠ QB := by have := hb.out.lt; have := hb.out.his; omega
            clear hwq bQ KQ b7 b17 KQ7 x0 x1 x2 c8
            gi_wp2_with (gi_at_builtin; refine wpListIn_apk _ rfl _ _ 24 rfl encQ 3 encQ_len (by omega) encQ_one (OB + 1) 47 _ 32 Try.underlying24 infoQ rfl _ ((m.qs.take k).map fq) rfl (ownK_alloc HO8.out _) ⟨_, 0, none⟩ 1 1 [fq ⟨qn, qt, qc⟩] rfl rfl (info1 encQ_len (fq ⟨qn, qt, qc⟩) _ _ _ (blk_new_set _ _ _ _ _ _)) (by rw [hkl3]; omega) (by omega) (HB8.out.alloc _).his ?_; intro v9 w9 ho9 hg9 _; obtain ⟨ao9, cp9, rfl, _⟩ := ownK_form ho9; rw [show ((m.qs.take k).map fq ++ [fq ⟨qn, qt, qc⟩]).length = k + 1 by rw [List.length_append, hkl3]; rfl] at ho9 ⊢; have B9 := Lib.hid ((HB8.out.alloc _).apd (ownK_alloc HO8.out _) hg9); have O9 := Lib.hid ho9; have c98 := B9.out.blk.cell (i := 8) (v := .slice aov k cpv) rfl; have f98 := B9.out.blk.frozen 8; clear ho9 hg9)
            go_roundw
            case rel =>
              refine ⟨k + 1, _, by go_num, by omega, ?_, Lib.hid (B9.out.set 8 _)⟩
              rw [HTK.out]
              exact Lib.hid (ownK_set O9.out (by omega))
            case measure => simp [intOf]; omega
          · obtain rfl : m.qs.length = k := by omega
            have hv := ho.out
            rw [List.take_length] at hv
            have HO9 := Lib.hid hv
            obtain ⟨aov, cpv, rfl, _⟩ := ownK_form hv
            have hkl3 : (m.qs.map fq).length = m.qs.length := List.length_map _
            rw [hkl3] at HO9 hb hv
            have LR := Lib.hid (HL.out.below (show Below w.heap.size w wr by rw [hM0]; exact BR.out))
            have OR := hb.out.blk
            have m0 := KR.cell (i := 0) (v := .int .i64 m.id) rfl
            have m1 := KR.cell (i := 1) (v := .bool m.resp) rfl
            have m2 := KR.cell (i := 2) (v := .int .i64 m.opc) rfl
            have m3 := KR.cell (i := 3) (v := .bool m.auth) rfl
            have m4 := KR.cell (i := 4) (v := .bool m.cut) rfl
            have m5 := KR.cell (i := 5) (v := .bool m.des) rfl
            have m6 := KR.cell (i := 6) (v := .bool m.avl) rfl
            have m7 := KR.cell (i := 7) (v := .int .i64 m.code) rfl
            have m8 := KR.cell (i := 8) (v := (.slice aq m.qs.length cq)) rfl
            have m9 := KR.cell (i := 9) (v := (.slice aa m.an.length ca)) rfl
            have m10 := KR.cell (i := 10) (v := (.slice an m.ns.length cn)) rfl
            have m11 := KR.cell (i := 11) (v := (.slice ad m.ad.length cd)) rfl
            have m12 := KR.cell (i := 12) (v := .bool m.edns) rfl
            have m13 := KR.cell (i := 13) (v := .int .i64 m.size) rfl
            have s9 : Block wr M1 #[.int .i64 (q : Int)] 3 := (bel.block M1 (by omega)).trans S7.out
            have n9 : Block wr NN #[.int .i64 (q : Int)] 3 := (bel.block NN (by omega)).trans N7.out
            have r9 : Block wr M2 #[.bool false] 4 := (bel.block M2 (by omega)).trans R7.out
            have D9 : wr.heap[D]? = some (.deferred (some [])) := (bel.block D (by have := blk_lt D7.out; omega)).trans D7.out
            have ms := fun o => (Block.alloc s9 o).cell (i := 0) (v := .int .i64 (q : Int)) rfl
            have mn := fun o => (Block.alloc n9 o).cell (i := 0) (v := .int .i64 (q : Int)) rfl
            have mo0 := fun o => (KR.alloc o).cell (i := 0) (v := .int .i64 m.id) rfl
            have mo1 := fun o => (KR.alloc o).cell (i := 1) (v := .bool m.resp) rfl
            have mo2 := fun o => (KR.alloc o).cell (i := 2) (v := .int .i64 m.opc) rfl
            have mo3 := fun o => (KR.alloc o).cell (i := 3) (v := .bool m.auth) rfl
            have mo4 := fun o => (KR.alloc o).cell (i := 4) (v := .bool m.cut) rfl
            have mo5 := fun o => (KR.alloc o).cell (i := 5) (v := .bool m.des) rfl
            have mo6 := fun o => (KR.alloc o).cell (i := 6) (v := .bool m.avl) rfl
            have mo7 := fun o => (KR.alloc o).cell (i := 7) (v := .int .i64 m.code) rfl
            have mo8 := fun o => (KR.alloc o).cell (i := 8) (v := (.slice aq m.qs.length cq)) rfl
            have mo9 := fun o => (KR.alloc o).cell (i := 9) (v := (.slice aa m.an.length ca)) rfl
            have mo10 := fun o => (KR.alloc o).cell (i := 10) (v := (.slice an m.ns.length cn)) rfl
            have mo11 := fun o => (KR.alloc o).cell (i := 11) (v := (.slice ad m.ad.length cd)) rfl
            have mo12 := fun o => (KR.alloc o).cell (i := 12) (v := .bool m.edns) rfl
            have mo13 := fun o => (KR.alloc o).cell (i := 13) (v := .int .i64 m.size) rfl
            have oo0 := fun o => (OR.alloc o).cell (i := 0) (v := .int .i64 m.id) rfl
            have oo1 := fun o => (OR.alloc o).cell (i := 1) (v := .bool m.resp) rfl
            have oo2 := fun o => (OR.alloc o).cell (i := 2) (v := .int .i64 m.opc) rfl
            have oo3 := fun o => (OR.alloc o).cell (i := 3) (v := .bool m.auth) rfl
            have oo4 := fun o => (OR.alloc o).cell (i := 4) (v := .bool m.cut) rfl
            have oo5 := fun o => (OR.alloc o).cell (i := 5) (v := .bool m.des) rfl
            have oo6 := fun o => (OR.alloc o).cell (i := 6) (v := .bool m.avl) rfl
            have oo7 := fun o => (OR.alloc o).cell (i := 7) (v := .int .i64 m.code) rfl
            have oo8 := fun o => (OR.alloc o).cell (i := 8) (v := (.slice aov m.qs.length cpv)) rfl
            have oo9 := fun o => (OR.alloc o).cell (i := 9) (v := (.slice aa m.an.length ca)) rfl
            have oo10 := fun o => (OR.alloc o).cell (i := 10) (v := (.slice an m.ns.length cn)) rfl
            have oo11 := fun o => (OR.alloc o).cell (i := 11) (v := (.slice ad m.ad.length cd)) rfl
            have oo12 := fun o => (OR.alloc o).cell (i := 12) (v := .bool m.edns) rfl
            have oo13 := fun o => (OR.alloc o).cell (i := 13) (v := .int .i64 m.size) rfl
            have HD9 := Lib.hid D9
            have HR9 := Lib.hid r9
            have HS9 := Lib.hid s9
            have HN9 := Lib.hid n9
            have HOR := Lib.hid OR
            clear hv s9 n9 r9 D9 bel
            gi_wp2_with fail
            obtain ⟨cd1, hcd1⟩ : ∃ c, wrap64 (m.code + 1) = c := ⟨_, rfl⟩
            rw [hcd1]
            have hne : m.code ≠ cd1 := by rw [← hcd1]; unfold wrap64; omega
            obtain ⟨wP, hwP⟩ : ∃ X, wr.alloc (.cells #[.int .i64 m.id, .bool m.resp, .int .i64 m.opc, .bool m.auth, .bool m.cut, .bool m.des, .bool m.avl, .int .i64 cd1, (.slice aq m.qs.length cq), (.slice aa m.an.length ca), (.slice an m.ns.length cn), (.slice ad m.ad.length cd), .bool m.edns, .int .i64 m.size] 27) = X := ⟨_, rfl⟩
            have bP : Below wr.heap.size wr wP := by rw [← hwP]; exact (Below.refl _ _).alloc (Nat.le_refl _) _
            have KP : Block wP wr.heap.size #[.int .i64 m.id, .bool m.resp, .int .i64 m.opc, .bool m.auth, .bool m.cut, .bool m.des, .bool m.avl, .int .i64 cd1, (.slice aq m.qs.length cq), (.slice aa m.an.length ca), (.slice an m.ns.length cn), (.slice ad m.ad.length cd), .bool m.edns, .int .i64 m.size] 27 := by rw [← hwP]; exact Block.new _ _ _
            rw [hwP]
            clear m0 mo0 oo0 m1 mo1 oo1 m2 mo2 oo2 m3 mo3 oo3 m4 mo4 oo4 m5 mo5 oo5 m6 mo6 oo6 m7 mo7 oo7 m8 mo8 oo8 m9 mo9 oo9 m10 mo10 oo10 m11 mo11 oo11 m12 mo12 oo12 m13 mo13 oo13 ms mn hwP hcd1
            have LP := LR.out.below bP
            refine (callsIn_wide.2 (msame_fold m _ _ _ _ _ _ _ _ wP LP ⟨readQ_own (ownK_below HO9.out bP), LP.an, LP.ns, LP.ad⟩ (hS.slim (by omega)))).mono ?_
            rintro eA wa ⟨rfl, ba⟩
            have bPa := bP.trans (ba.mono bP.size)
            have La := Lib.hid (LP.below ba)
            obtain ⟨PX, hPX⟩ : ∃ M, wr.heap.size = M := ⟨_, rfl⟩
            have KPa := KP.below ba
            have KRa := KRh.out.below bPa
            rw [hPX] at KPa ⊢
            have m0 := KRa.cell (i := 0) (v := .int .i64 m.id) rfl
            have m1 := KRa.cell (i := 1) (v := .bool m.resp) rfl
            have m2 := KRa.cell (i := 2) (v := .int .i64 m.opc) rfl
            have m3 := KRa.cell (i := 3) (v := .bool m.auth) rfl
            have m4 := KRa.cell (i := 4) (v := .bool m.cut) rfl
            have m5 := KRa.cell (i := 5) (v := .bool m.des) rfl
            have m6 := KRa.cell (i := 6) (v := .bool m.avl) rfl
            have m7 := KRa.cell (i := 7) (v := .int .i64 m.code) rfl
            have m8 := KRa.cell (i := 8) (v := (.slice aq m.qs.length cq)) rfl
            have m9 := KRa.cell (i := 9) (v := (.slice aa m.an.length ca)) rfl
            have m10 := KRa.cell (i := 10) (v := (.slice an m.ns.length cn)) rfl
            have m11 := KRa.cell (i := 11) (v := (.slice ad m.ad.length cd)) rfl
            have m12 := KRa.cell (i := 12) (v := .bool m.edns) rfl
            have m13 := KRa.cell (i := 13) (v := .int .i64 m.size) rfl
            have p0 := KPa.cell (i := 0) (v := .int .i64 m.id) rfl
            have p1 := KPa.cell (i := 1) (v := .bool m.resp) rfl
            have p2 := KPa.cell (i := 2) (v := .int .i64 m.opc) rfl
            have p3 := KPa.cell (i := 3) (v := .bool m.auth) rfl
            have p4 := KPa.cell (i := 4) (v := .bool m.cut) rfl
            have p5 := KPa.cell (i := 5) (v := .bool m.des) rfl
            have p6 := KPa.cell (i := 6) (v := .bool m.avl) rfl
            have p7 := KPa.cell (i := 7) (v := .int .i64 cd1) rfl
            have p8 := KPa.cell (i := 8) (v := (.slice aq m.qs.length cq)) rfl
            have p9 := KPa.cell (i := 9) (v := (.slice aa m.an.length ca)) rfl
            have p10 := KPa.cell (i := 10) (v := (.slice an m.ns.length cn)) rfl
            have p11 := KPa.cell (i := 11) (v := (.slice ad m.ad.length cd)) rfl
            have p12 := KPa.cell (i := 12) (v := .bool m.edns) rfl
            have p13 := KPa.cell (i := 13) (v := .int .i64 m.size) rfl
            have Ra := Lib.hid (HR9.out.below bPa)
            have Da := Lib.hid ((bPa.block D (blk_lt HD9.out)).trans HD9.out)
            have Ba := Lib.hid (BR.out.trans (bPa.mono (by have := BR.out.size; omega)))
            clear bP KP LP ba bPa KPa KRa
            gi_wp2_with fail
            refine (callsIn_wide.2 (msame_code m _ _ _ _ _ _ _ _ wa La.out ⟨La.out.qs, La.out.an, La.out.ns, La.out.ad⟩ cd1 hne)).mono ?_
            rintro eB wb ⟨rfl, bb⟩
            clear m0 p0 m1 p1 m2 p2 m3 p3 m4 p4 m5 p5 m6 p6 m7 p7 m8 p8 m9 p9 m10 p10 m11 p11 m12 p12 m13 p13
            have Rb := Lib.hid (Ra.out.below bb)
            have Db := Lib.hid ((bb.block D (blk_lt Da.out)).trans Da.out)
            have Bb := Lib.hid (Ba.out.trans (bb.mono (by have := Ba.out.size; omega)))
            clear bb
            gi_wp2_with fail
            refine (callsIn_wide.2 (HAW.out _)).mono ?_
            rintro eC wc ⟨rfl, bc⟩
            have Rc := Rb.out.below bc
            have Dc := (bc.block D (blk_lt Db.out)).trans Db.out
            have Bc := Bb.out.trans (bc.mono (by have := Bb.out.size; omega))
            have rc := Rc.cell (i := 0) (v := .bool false) rfl
            have fc := Rc.frozen 0
            have hDM : D ≠ M2 := by omega
            have Dd : (wc.setCell ⟨M2, 0, none⟩ (.bool true)).heap[D]? = some (.deferred (some [])) := (heap_set_other hDM).trans Dc
            have Rd : Block ((wc.setCell ⟨M2, 0, none⟩ (.bool true)).putObj D (.deferred none)) M2 #[.bool true] 4 := (World.putObj_heap_other (Ne.symm hDM)).trans (Rc.set 0 (.bool true))
            have Bd : Below M0 w (wc.setCell ⟨M2, 0, none⟩ (.bool true)) := Bc.setCell (p := ⟨M2, 0, none⟩) (by show M0 ≤ M2; omega) (.bool true)
            have Be := Lib.hid (Bd.grown (grownBy_putObj' (wc.setCell ⟨M2, 0, none⟩ (.bool true)) D (.deferred none)) (by have := Bd.size; omega) (fun k e => by cases e; omega))
            have HDd := Lib.hid Dd
            have HRd := Lib.hid Rd
            clear bc Dc Bc Dd Rd Bd Rc
            gi_wp2_with fail
            refine ⟨by simp, .inl ⟨_, _, rfl, run_takeDeferred HDd.out, ?_⟩⟩
            refine ⟨_, res_rec _ _ M2 true rfl (HRd.out.cell (i := 0) (v := .bool true) rfl), ?_⟩
            exact ⟨rfl, by rw [hM0]; exact Be.out⟩
end Go.Proofs.Ytfmghbmbahembaa
