/- MatchReplies of package freshetlaw5 (a reply has the asked number, question and wishes, and says that it is one; beside its records nothing else) returns true at every message, code and records.
   Conditions: those of the row, none beside. -/
import Derived.Deep.QuietTactic
import Derived.Test.YtjbigdmhmfjjpaaJB26
import Derived.Test.YtjbigdmhmfjjpaaJB23
import Derived.Test.YtjbigdmhmfjjpaaJB27
/- MatchReplies of freshetlaw5. -/
set_option maxRecDepth 100000
namespace Go.Proofs.Ytjbigdmhmfjjpaa
open Go.RowKit Go.Shelf Go.Maps Go.ChangeShapes Go.WideShapes Go.ChangeAt
attribute [local go_sem] Oper.semAt_some

theorem arg_rrl {H : Type} {enc : TypeId × Value → H} {W : World} {b0 : Nat} {v : Value} {d : DataW H} {ps : List MemPlace} (hval : Value.okWide Try.prog W .any b0 25 v) (hd : DataW.Trod enc Try.prog W 0 (fun _ => true) true 25 v d ps) :
    ∃ l, ReadR v l W ∧ l.length ≤ 9223372036854775807 ∧ (∀ r ∈ l, r.name.length ≤ 9223372036854775807 ∧ r.data.length ≤ 9223372036854775807) ∧ IntsR l := by
  obtain ⟨a0, len, cap, rfl⟩ := okWide_slice Try.underlying25 hval
  obtain ⟨fuel, hf⟩ := hd
  obtain ⟨l, h1, h2, h3⟩ := arg_rrs hf
  exact ⟨l, h1, h2, fun r hr => ⟨(h3 r hr).1, (h3 r hr).2.1⟩, fun r hr => (h3 r hr).2.2⟩

set_option maxHeartbeats 16000000 in
theorem mreplies_any (m : Ms.M) (vq va vn vd : Value) (code : Int) (l : List Rd.RR) (sv : Value) (w : World) (hL : Lists m vq va vn vd w) (hf : FitM m) (hr : ReadR sv l w) (hl : l.length ≤ 9223372036854775807) (hll : ∀ r ∈ l, r.name.length ≤ 9223372036854775807 ∧ r.data.length ≤ 9223372036854775807) :
    Calls Try.prog 7 #[msgV m vq va vn vd, .int .i64 code, sv] w fun e w' => e = .returned (.bool true) ∧ Below w.heap.size w w' := by
  obtain ⟨aq, cq, rfl, _⟩ := hL.qs.form
  obtain ⟨aa, ca, rfl, _⟩ := hL.an.form
  obtain ⟨an, cn, rfl, _⟩ := hL.ns.form
  obtain ⟨ad, cd, rfl, _⟩ := hL.ad.form
  obtain ⟨as2, cs2, rfl, _⟩ := hr.form
  have bA := (Below.refl w.heap.size w).alloc (Nat.le_refl _) (.cells #[.int .i64 m.id, .bool m.resp, .int .i64 m.opc, .bool m.auth, .bool m.cut, .bool m.des, .bool m.avl, .int .i64 m.code, .slice aq m.qs.length cq, .slice aa m.an.length ca, .slice an m.ns.length cn, .slice ad m.ad.length cd, .bool m.edns, .int .i64 m.size] 27)
  have SM := Lib.hid (small_msg m 2000 _ _ _ _ _ (hL.below bA) hf (by omega))
  have SR := Lib.hid (fun W (h : ReadR (.slice as2 l.length cs2) l W) => records_any l 2000 (.slice as2 l.length cs2) W h hl hll (by omega))
  have HL := Lib.hid (hL.below bA)
  have HR := Lib.hid (readR_below hr bA)
  have HB := Lib.hid bA
  have KM := Lib.hid (Block.new w #[.int .i64 m.id, .bool m.resp, .int .i64 m.opc, .bool m.auth, .bool m.cut, .bool m.des, .bool m.avl, .int .i64 m.code, .slice aq m.qs.length cq, .slice aa m.an.length ca, .slice an m.ns.length cn, .slice ad m.ad.length cd, .bool m.edns, .int .i64 m.size] 27)
  have HAW := Lib.hid mawake_any
  unfold msgV at SM ⊢
  clear hL hf hr hl hll bA
  go_enter Try.func7, Try.ntmps7
  go_wp2_with fail
  refine SM.out.mono ?_
  rintro e w1 ⟨b, rfl, hsm, b1⟩
  have HB1 : Hid (Below w.heap.size w w1) := Lib.hid (HB.out.trans (b1.mono HB.out.size))
  have HL1 := Lib.hid (HL.out.below b1)
  have HR1 := Lib.hid (readR_below HR.out b1)
  have KM1 := Lib.hid (KM.out.below b1)
  clear SM HL HR HB KM b1
  cases b with
  | false =>
    go_wp2_with fail
    refine (HAW.out _).mono ?_
    rintro e w2 ⟨rfl, b2⟩
    go_wp2_with fail
    go_ret
    exact ⟨rfl, HB1.out.trans (b2.mono HB1.out.size)⟩
  | true =>
  have hS := hsm rfl
  clear hsm
  go_wp2_with fail
  refine (SR.out _ HR1.out).mono ?_
  rintro e w2 ⟨b, rfl, hfw, b2⟩
  have HB2 : Hid (Below w.heap.size w w2) := Lib.hid (HB1.out.trans (b2.mono HB1.out.size))
  have HL2 := Lib.hid (HL1.out.below b2)
  have HR2 := Lib.hid (readR_below HR1.out b2)
  have KM2 := Lib.hid (KM1.out.below b2)
  clear SR HL1 HR1 HB1 KM1 b2
  cases b with
  | false =>
    go_wp2_with fail
    refine (HAW.out _).mono ?_
    rintro e w3 ⟨rfl, b3⟩
    go_wp2_with fail
    go_ret
    exact ⟨rfl, HB2.out.trans (b3.mono HB2.out.size)⟩
  | true =>
  have hF := hfw rfl
  clear hfw
  have hql := hS.qs
  have hll := hF.len
  have HQN := Lib.hid hS.names
  have RP := Lib.hid (reply_any m _ _ _ _ code l [] _ (.slice none 0 0) w2 HL2.out (by omega) (fun q h => by have := HQN.out q h; omega) HR2.out (readR_nil _) (by omega) (by simp) (fun r h => by have := hF.all r h; omega) (by simp))
  have RF := Lib.hid (fun W (h : Lists m (.slice aq m.qs.length cq) (.slice aa m.an.length ca) (.slice an m.ns.length cn) (.slice ad m.ad.length cd) W) => refuse_any m _ _ _ _ code W h (by omega) (fun q h => by have := HQN.out q h; omega))
  unfold msgV at RP RF
  clear hS hF
  have c0 := KM2.out.cell (i := 0) rfl
  have c1 := KM2.out.cell (i := 1) rfl
  have c2 := KM2.out.cell (i := 2) rfl
  have c3 := KM2.out.cell (i := 3) rfl
  have c4 := KM2.out.cell (i := 4) rfl
  have c5 := KM2.out.cell (i := 5) rfl
  have c6 := KM2.out.cell (i := 6) rfl
  have c7 := KM2.out.cell (i := 7) rfl
  have c8 := KM2.out.cell (i := 8) rfl
  have c9 := KM2.out.cell (i := 9) rfl
  have c10 := KM2.out.cell (i := 10) rfl
  have c11 := KM2.out.cell (i := 11) rfl
  have c12 := KM2.out.cell (i := 12) rfl
  have c13 := KM2.out.cell (i := 13) rfl
  obtain ⟨B0, hB0⟩ : ∃ B, w.heap.size = B := ⟨_, rfl⟩
  rw [hB0] at KM2 c0 c1 c2 c3 c4 c5 c6 c7 c8 c9 c10 c11 c12 c13 ⊢
  go_wp2_with fail
  refine RP.out.mono ?_
  rintro e w3 ⟨uq, ua, un, ud, rfl, hO, b3⟩
  obtain ⟨oq, kq, rfl, _⟩ := ownK_form hO.qs
  obtain ⟨oa, ka, rfl, _⟩ := ownK_form hO.an
  obtain ⟨on, kn, rfl, _⟩ := ownK_form hO.ns
  obtain ⟨od, kd, rfl, _⟩ := ownK_form hO.ad
  have hOL := hO.lists
  simp only [msgV, Mt.reply, List.length_nil] at hOL ⊢
  obtain ⟨SZ, hSZ⟩ : ∃ z : Int, (if m.edns = true then 1232 else 0) = z := ⟨_, rfl⟩
  rw [hSZ] at hOL ⊢
  have HSZ := Lib.hid hSZ
  have HO3 := Lib.hid hOL
  have bA := (Below.refl w3.heap.size w3).alloc (Nat.le_refl _) (.cells #[.int .i64 m.id, .bool true, .int .i64 m.opc, .bool false, .bool false, .bool m.des, .bool true, .int .i64 code, .slice oq m.qs.length kq, .slice oa l.length ka, .slice on 0 kn, .slice od 0 kd, .bool m.edns, .int .i64 SZ] 27)
  have HL3 := Lib.hid (HL2.out.below b3)
  have HR3 := Lib.hid (readR_below HR2.out b3)
  have KM3 := Lib.hid (KM2.out.below b3)
  have KR3 := Lib.hid (Block.new w3 #[.int .i64 m.id, .bool true, .int .i64 m.opc, .bool false, .bool false, .bool m.des, .bool true, .int .i64 code, .slice oq m.qs.length kq, .slice oa l.length ka, .slice on 0 kn, .slice od 0 kd, .bool m.edns, .int .i64 SZ] 27)
  have HB3 : Hid (Below w.heap.size w w3) := Lib.hid (HB2.out.trans (b3.mono HB2.out.size))
  have HBA := Lib.hid bA
  clear hSZ hOL hO b3 bA HL2 HR2 KM2 HB2 RP hB0 c0 c1 c2 c3 c4 c5 c6 c7 c8 c9 c10 c11 c12 c13
  have c0 := (KM3.out.alloc (.cells #[.int .i64 m.id, .bool true, .int .i64 m.opc, .bool false, .bool false, .bool m.des, .bool true, .int .i64 code, .slice oq m.qs.length kq, .slice oa l.length ka, .slice on 0 kn, .slice od 0 kd, .bool m.edns, .int .i64 SZ] 27)).cell (i := 0) rfl
  have c1 := (KM3.out.alloc (.cells #[.int .i64 m.id, .bool true, .int .i64 m.opc, .bool false, .bool false, .bool m.des, .bool true, .int .i64 code, .slice oq m.qs.length kq, .slice oa l.length ka, .slice on 0 kn, .slice od 0 kd, .bool m.edns, .int .i64 SZ] 27)).cell (i := 1) rfl
  have c2 := (KM3.out.alloc (.cells #[.int .i64 m.id, .bool true, .int .i64 m.opc, .bool false, .bool false, .bool m.des, .bool true, .int .i64 code, .slice oq m.qs.length kq, .slice oa l.length ka, .slice on 0 kn, .slice od 0 kd, .bool m.edns, .int .i64 SZ] 27)).cell (i := 2) rfl
  have c3 := (KM3.out.alloc (.cells #[.int .i64 m.id, .bool true, .int .i64 m.opc, .bool false, .bool false, .bool m.des, .bool true, .int .i64 code, .slice oq m.qs.length kq, .slice oa l.length ka, .slice on 0 kn, .slice od 0 kd, .bool m.edns, .int .i64 SZ] 27)).cell (i := 3) rfl
  have c4 := (KM3.out.alloc (.cells #[.int .i64 m.id, .bool true, .int .i64 m.opc, .bool false, .bool false, .bool m.des, .bool true, .int .i64 code, .slice oq m.qs.length kq, .slice oa l.length ka, .slice on 0 kn, .slice od 0 kd, .bool m.edns, .int .i64 SZ] 27)).cell (i := 4) rfl
  have c5 := (KM3.out.alloc (.cells #[.int .i64 m.id, .bool true, .int .i64 m.opc, .bool false, .bool false, .bool m.des, .bool true, .int .i64 code, .slice oq m.qs.length kq, .slice oa l.length ka, .slice on 0 kn, .slice od 0 kd, .bool m.edns, .int .i64 SZ] 27)).cell (i := 5) rfl
  have c6 := (KM3.out.alloc (.cells #[.int .i64 m.id, .bool true, .int .i64 m.opc, .bool false, .bool false, .bool m.des, .bool true, .int .i64 code, .slice oq m.qs.length kq, .slice oa l.length ka, .slice on 0 kn, .slice od 0 kd, .bool m.edns, .int .i64 SZ] 27)).cell (i := 6) rfl
  have c7 := (KM3.out.alloc (.cells #[.int .i64 m.id, .bool true, .int .i64 m.opc, .bool false, .bool false, .bool m.des, .bool true, .int .i64 code, .slice oq m.qs.length kq, .slice oa l.length ka, .slice on 0 kn, .slice od 0 kd, .bool m.edns, .int .i64 SZ] 27)).cell (i := 7) rfl
  have c8 := (KM3.out.alloc (.cells #[.int .i64 m.id, .bool true, .int .i64 m.opc, .bool false, .bool false, .bool m.des, .bool true, .int .i64 code, .slice oq m.qs.length kq, .slice oa l.length ka, .slice on 0 kn, .slice od 0 kd, .bool m.edns, .int .i64 SZ] 27)).cell (i := 8) rfl
  have c9 := (KM3.out.alloc (.cells #[.int .i64 m.id, .bool true, .int .i64 m.opc, .bool false, .bool false, .bool m.des, .bool true, .int .i64 code, .slice oq m.qs.length kq, .slice oa l.length ka, .slice on 0 kn, .slice od 0 kd, .bool m.edns, .int .i64 SZ] 27)).cell (i := 9) rfl
  have c10 := (KM3.out.alloc (.cells #[.int .i64 m.id, .bool true, .int .i64 m.opc, .bool false, .bool false, .bool m.des, .bool true, .int .i64 code, .slice oq m.qs.length kq, .slice oa l.length ka, .slice on 0 kn, .slice od 0 kd, .bool m.edns, .int .i64 SZ] 27)).cell (i := 10) rfl
  have c11 := (KM3.out.alloc (.cells #[.int .i64 m.id, .bool true, .int .i64 m.opc, .bool false, .bool false, .bool m.des, .bool true, .int .i64 code, .slice oq m.qs.length kq, .slice oa l.length ka, .slice on 0 kn, .slice od 0 kd, .bool m.edns, .int .i64 SZ] 27)).cell (i := 11) rfl
  have c12 := (KM3.out.alloc (.cells #[.int .i64 m.id, .bool true, .int .i64 m.opc, .bool false, .bool false, .bool m.des, .bool true, .int .i64 code, .slice oq m.qs.length kq, .slice oa l.length ka, .slice on 0 kn, .slice od 0 kd, .bool m.edns, .int .i64 SZ] 27)).cell (i := 12) rfl
  have c13 := (KM3.out.alloc (.cells #[.int .i64 m.id, .bool true, .int .i64 m.opc, .bool false, .bool false, .bool m.des, .bool true, .int .i64 code, .slice oq m.qs.length kq, .slice oa l.length ka, .slice on 0 kn, .slice od 0 kd, .bool m.edns, .int .i64 SZ] 27)).cell (i := 13) rfl
  go_wp2_with fail
  refine (RF.out _ (HL3.out.below HBA.out)).mono ?_
  rintro e w4 ⟨uq, ua, un, ud, rfl, hO, b4⟩
  obtain ⟨pq, lq, rfl, _⟩ := ownK_form hO.qs
  obtain ⟨pa, la, rfl, _⟩ := ownK_form hO.an
  obtain ⟨pn, ln, rfl, _⟩ := ownK_form hO.ns
  obtain ⟨pd, ld, rfl, _⟩ := ownK_form hO.ad
  simp only [msgV, Mt.refuse, List.length_nil]
  rw [HSZ.out]
  have bAX := (Below.refl w4.heap.size w4).alloc (Nat.le_refl _) (.cells #[.int .i64 m.id, .bool true, .int .i64 m.opc, .bool false, .bool false, .bool m.des, .bool true, .int .i64 code, .slice pq m.qs.length lq, .slice pa 0 la, .slice pn 0 ln, .slice pd 0 ld, .bool m.edns, .int .i64 SZ] 27)
  have b34 := below_trans (below_trans HBA.out b4) bAX
  have KM4 := Lib.hid ((KM3.out.below HBA.out).below (below_trans b4 bAX))
  have KR4 := Lib.hid (KR3.out.below (below_trans b4 bAX))
  have KX4 := Lib.hid (Block.new w4 #[.int .i64 m.id, .bool true, .int .i64 m.opc, .bool false, .bool false, .bool m.des, .bool true, .int .i64 code, .slice pq m.qs.length lq, .slice pa 0 la, .slice pn 0 ln, .slice pd 0 ld, .bool m.edns, .int .i64 SZ] 27)
  have HL4 := Lib.hid (HL3.out.below b34)
  have HR4 := Lib.hid (readR_below HR3.out b34)
  have HO4 := Lib.hid (HO3.out.below b34)
  have HB4 : Hid (Below w.heap.size w _) := Lib.hid (HB3.out.trans (b34.mono HB3.out.size))
  obtain ⟨B1, hB1⟩ : ∃ B, w3.heap.size = B := ⟨_, rfl⟩
  obtain ⟨B2, hB2⟩ : ∃ B, w4.heap.size = B := ⟨_, rfl⟩
  rw [hB1] at KR4 ⊢
  rw [hB2] at KX4
  clear hO b4 bAX b34 HBA HL3 HR3 KM3 KR3 HB3 HO3 hB1 c0 c1 c2 c3 c4 c5 c6 c7 c8 c9 c10 c11 c12 c13
  obtain ⟨ed, hed⟩ : ∃ e, m.edns = e := ⟨_, rfl⟩
  rw [hed] at KM4 KR4 KX4 HSZ HL4 HR4 HO4 HB4 ⊢
  have HED := Lib.hid hed
  clear hed
  have c0 := KM4.out.cell (i := 0) rfl
  have c1 := KM4.out.cell (i := 1) rfl
  have c2 := KM4.out.cell (i := 2) rfl
  have c3 := KM4.out.cell (i := 3) rfl
  have c4 := KM4.out.cell (i := 4) rfl
  have c5 := KM4.out.cell (i := 5) rfl
  have c6 := KM4.out.cell (i := 6) rfl
  have c7 := KM4.out.cell (i := 7) rfl
  have c8 := KM4.out.cell (i := 8) rfl
  have c9 := KM4.out.cell (i := 9) rfl
  have c10 := KM4.out.cell (i := 10) rfl
  have c11 := KM4.out.cell (i := 11) rfl
  have c12 := KM4.out.cell (i := 12) rfl
  have c13 := KM4.out.cell (i := 13) rfl
  have r0 := KR4.out.cell (i := 0) rfl
  have r1 := KR4.out.cell (i := 1) rfl
  have r2 := KR4.out.cell (i := 2) rfl
  have r3 := KR4.out.cell (i := 3) rfl
  have r4 := KR4.out.cell (i := 4) rfl
  have r5 := KR4.out.cell (i := 5) rfl
  have r6 := KR4.out.cell (i := 6) rfl
  have r7 := KR4.out.cell (i := 7) rfl
  have r8 := KR4.out.cell (i := 8) rfl
  have r9 := KR4.out.cell (i := 9) rfl
  have r10 := KR4.out.cell (i := 10) rfl
  have r11 := KR4.out.cell (i := 11) rfl
  have r12 := KR4.out.cell (i := 12) rfl
  have r13 := KR4.out.cell (i := 13) rfl
  have x0 := KX4.out.cell (i := 0) rfl
  have x1 := KX4.out.cell (i := 1) rfl
  have x2 := KX4.out.cell (i := 2) rfl
  have x3 := KX4.out.cell (i := 3) rfl
  have x4 := KX4.out.cell (i := 4) rfl
  have x5 := KX4.out.cell (i := 5) rfl
  have x6 := KX4.out.cell (i := 6) rfl
  have x7 := KX4.out.cell (i := 7) rfl
  have x8 := KX4.out.cell (i := 8) rfl
  have x9 := KX4.out.cell (i := 9) rfl
  have x10 := KX4.out.cell (i := 10) rfl
  have x11 := KX4.out.cell (i := 11) rfl
  have x12 := KX4.out.cell (i := 12) rfl
  have x13 := KX4.out.cell (i := 13) rfl
  have hsz : SZ = if ed = true then 1232 else 0 := HSZ.out.symm
  clear HSZ
  have HNEQ := Lib.hid (fun W n t c => neq_q W n t c)
  cases ed with
  | false =>
    simp only [Bool.false_eq_true, if_false] at hsz
    subst hsz
    go_wp2_with fail
    clear c0 c1 c2 c3 c4 c5 c6 c7 c8 c9 c10 c11 c12 c13 r0 r1 r2 r3 r4 r5 r6 r7 r8 r9 r10 r11 r12 r13 x0 x1 x2 x3 x4 x5 x6 x7 x8 x9 x10 x11 x12 x13
    generalize (w4.alloc _) = W5 at KM4 KR4 KX4 HL4 HR4 HO4 HB4 ⊢
    go_loopw [9] (fun i wr => ∃ k : Nat, i = .int .i64 (k : Int) ∧ k ≤ m.qs.length ∧ Below W5.heap.size W5 wr) (fun i _ => m.qs.length + 1 - (intOf i).toNat)
    case atStart => exact ⟨0, rfl, by omega, Below.refl _ _⟩
    case round =>
      obtain ⟨k, rfl, hk, hbl⟩ := hrel
      have c8 := (KM4.out.below hbl).cell (i := 8) rfl
      have r8 := (KR4.out.below hbl).cell (i := 8) rfl
      by_cases hlt : k < m.qs.length
      · obtain ⟨g1, f1, rfl, x0, x1, x2⟩ := readQ_at (readQ_below HO4.out.qs hbl) hlt
        obtain ⟨g2, f2, rfl, y0, y1, y2⟩ := readQ_at (readQ_below HL4.out.qs hbl) hlt
        simp only at x0 x1 x2 y0 y1 y2
        obtain ⟨⟨pa, pb, pc⟩, hpq⟩ : ∃ x, m.qs[k] = x := ⟨_, rfl⟩
        rw [hpq] at x0 x1 x2 y0 y1 y2
        simp only at x0 x1 x2 y0 y1 y2
        clear hpq
        have hmp : Try.prog.follows .mixedOrders = true := by kernel_rfl
        go_wp2_with fail
        refine wp_region_slots slotLe (slotPhi ((fun v _ => v = ?ra100) :: (fun v _ => v = ?ra101) :: (fun v _ => v = ?ra102) :: (fun v _ => v = ?ra103) :: (fun v _ => v = ?ra104) :: (fun v _ => v = ?ra105) :: (fun v _ => v = ?ra106) :: (fun v _ => v = ?ra107) :: (fun v _ => v = ?ra108) :: (fun v _ => v = ?ra109) :: (fun v _ => v = ?ra110) :: [])) slotLe_refl slotLe_trans (slotPhi_stable ?stb) (by kernel_rfl) (by kernel_rfl) (by kernel_rfl) ?steps ?fin
        case stb =>
          refine ⟨by intro _ _ _ _ h; exact h, ?_⟩
          refine ⟨by intro _ _ _ _ h; exact h, ?_⟩
          refine ⟨by intro _ _ _ _ h; exact h, ?_⟩
          refine ⟨by intro _ _ _ _ h; exact h, ?_⟩
          refine ⟨by intro _ _ _ _ h; exact h, ?_⟩
          refine ⟨by intro _ _ _ _ h; exact h, ?_⟩
          refine ⟨by intro _ _ _ _ h; exact h, ?_⟩
          refine ⟨by intro _ _ _ _ h; exact h, ?_⟩
          refine ⟨by intro _ _ _ _ h; exact h, ?_⟩
          refine ⟨by intro _ _ _ _ h; exact h, ?_⟩
          refine ⟨by intro _ _ _ _ h; exact h, ?_⟩
          exact trivial
        case steps =>
          refine ⟨?_, ?_⟩
          · intro a W K N hK
            have e7 : a.tmps[7]?.getD undef = .pointer (some ⟨B1, 0, none⟩) := N.was' 7 _ (by kernel_rfl) rfl
            rw [if_pos (wanted_no rfl)]
            go_simp
            refine hK _ _ (slotLe_refl _) ?_
            exact rfl
          refine ⟨?_, ?_⟩
          · intro a W K N hK
            have e100 : a.tmps[100]?.getD undef = _ := N.dep' 0 100 (by kernel_rfl)
            rw [if_pos (wanted_no rfl)]
            have z0 := keep_cell N.le r8
            go_simp
            refine hK _ _ (slotLe_refl _) ?_
            exact rfl
          refine ⟨?_, ?_⟩
          · intro a W K N hK
            have e9 : a.tmps[9]?.getD undef = .int .i64 (k : Int) := N.was' 9 _ (by kernel_rfl) rfl
            rw [if_pos (wanted_no rfl)]
            go_simp
            refine hK _ _ (slotLe_refl _) ?_
            exact rfl
          refine ⟨?_, ?_⟩
          · intro a W K N hK
            have e101 : a.tmps[101]?.getD undef = _ := N.dep' 1 101 (by kernel_rfl)
            have e102 : a.tmps[102]?.getD undef = _ := N.dep' 2 102 (by kernel_rfl)
            rw [if_pos (wanted_no rfl)]
            go_simp
            refine hK _ _ (slotLe_refl _) ?_
            exact rfl
          refine ⟨?_, ?_⟩
          · intro a W K N hK
            have e103 : a.tmps[103]?.getD undef = _ := N.dep' 3 103 (by kernel_rfl)
            rw [if_pos (wanted_no rfl)]
            have z0 := keep_cell N.le x0
            have z1 := keep_cell N.le x1
            have z2 := keep_cell N.le x2
            go_simp
            refine hK _ _ (slotLe_refl _) ?_
            exact rfl
          refine ⟨?_, ?_⟩
          · intro a W K N hK
            have e3 : a.tmps[3]?.getD undef = .pointer (some ⟨B0, 0, none⟩) := N.was' 3 _ (by kernel_rfl) rfl
            rw [if_pos (wanted_no rfl)]
            go_simp
            refine hK _ _ (slotLe_refl _) ?_
            exact rfl
          refine ⟨?_, ?_⟩
          · intro a W K N hK
            have e105 : a.tmps[105]?.getD undef = _ := N.dep' 5 105 (by kernel_rfl)
            rw [if_pos (wanted_no rfl)]
            have z0 := keep_cell N.le c8
            go_simp
            refine hK _ _ (slotLe_refl _) ?_
            exact rfl
          refine ⟨?_, ?_⟩
          · intro a W K N hK
            have e9 : a.tmps[9]?.getD undef = .int .i64 (k : Int) := N.was' 9 _ (by kernel_rfl) rfl
            rw [if_pos (wanted_no rfl)]
            go_simp
            refine hK _ _ (slotLe_refl _) ?_
            exact rfl
          refine ⟨?_, ?_⟩
          · intro a W K N hK
            have e106 : a.tmps[106]?.getD undef = _ := N.dep' 6 106 (by kernel_rfl)
            have e107 : a.tmps[107]?.getD undef = _ := N.dep' 7 107 (by kernel_rfl)
            rw [if_pos (wanted_no rfl)]
            go_simp
            refine hK _ _ (slotLe_refl _) ?_
            exact rfl
          refine ⟨?_, ?_⟩
          · intro a W K N hK
            have e108 : a.tmps[108]?.getD undef = _ := N.dep' 8 108 (by kernel_rfl)
            rw [if_pos (wanted_no rfl)]
            have z0 := keep_cell N.le y0
            have z1 := keep_cell N.le y1
            have z2 := keep_cell N.le y2
            go_simp
            refine hK _ _ (slotLe_refl _) ?_
            exact rfl
          refine ⟨?_, ?_⟩
          · intro a W K N hK
            have e104 : a.tmps[104]?.getD undef = _ := N.dep' 4 104 (by kernel_rfl)
            have e109 : a.tmps[109]?.getD undef = _ := N.dep' 9 109 (by kernel_rfl)
            rw [if_pos (wanted_no rfl)]
            have hn := HNEQ.out
            go_simp
            refine hK _ _ (slotLe_refl _) ?_
            exact rfl
          exact trivial
        case fin =>
          intro W1 hW1
          simp only [FinAll, slotPhi, List.getD_cons_zero, List.getD_cons_succ, forall_eq, Act.put, List.setIfInBounds_toArray, List.set_cons_zero, List.set_cons_succ]
          have bU := below_undrew hW1
          have bW1 := below_trans hbl bU
          go_wp2_with fail
          go_roundw
          case rel => exact ⟨k + 1, by go_num, by omega, bW1⟩
          case measure => simp [intOf]; omega

      · obtain rfl : k = m.qs.length := by omega
        have r9 := (KR4.out.below hbl).cell (i := 9) rfl
        have HRS := Lib.hid (rrs_same l _ _ wr (readR_below HO4.out.an hbl) (readR_below HR4.out hbl) (by omega))
        go_wp2_with fail
        refine HRS.out.mono ?_
        rintro e w6 ⟨rfl, b6⟩
        have b56 := below_trans hbl b6
        have r10 := (KR4.out.below b56).cell (i := 10) rfl
        have r11 := (KR4.out.below b56).cell (i := 11) rfl
        have x9 := (KX4.out.below b56).cell (i := 9) rfl
        have x7 := (KX4.out.below b56).cell (i := 7) rfl
        go_wp2_with fail
        refine (HAW.out _).mono ?_
        rintro e w7 ⟨rfl, b7⟩
        go_wp2_with fail
        go_ret
        exact ⟨rfl, HB4.out.trans ((below_trans b56 b7).mono HB4.out.size)⟩
  | true =>
    simp only [if_true] at hsz
    subst hsz
    go_wp2_with fail
    clear c0 c1 c2 c3 c4 c5 c6 c7 c8 c9 c10 c11 c12 c13 r0 r1 r2 r3 r4 r5 r6 r7 r8 r9 r10 r11 r12 r13 x0 x1 x2 x3 x4 x5 x6 x7 x8 x9 x10 x11 x12 x13
    generalize (w4.alloc _) = W5 at KM4 KR4 KX4 HL4 HR4 HO4 HB4 ⊢
    go_loopw [9] (fun i wr => ∃ k : Nat, i = .int .i64 (k : Int) ∧ k ≤ m.qs.length ∧ Below W5.heap.size W5 wr) (fun i _ => m.qs.length + 1 - (intOf i).toNat)
    case atStart => exact ⟨0, rfl, by omega, Below.refl _ _⟩
    case round =>
      obtain ⟨k, rfl, hk, hbl⟩ := hrel
      have c8 := (KM4.out.below hbl).cell (i := 8) rfl
      have r8 := (KR4.out.below hbl).cell (i := 8) rfl
      by_cases hlt : k < m.qs.length
      · obtain ⟨g1, f1, rfl, x0, x1, x2⟩ := readQ_at (readQ_below HO4.out.qs hbl) hlt
        obtain ⟨g2, f2, rfl, y0, y1, y2⟩ := readQ_at (readQ_below HL4.out.qs hbl) hlt
        simp only at x0 x1 x2 y0 y1 y2
        obtain ⟨⟨pa, pb, pc⟩, hpq⟩ : ∃ x, m.qs[k] = x := ⟨_, rfl⟩
        rw [hpq] at x0 x1 x2 y0 y1 y2
        simp only at x0 x1 x2 y0 y1 y2
        clear hpq
        have hmp : Try.prog.follows .mixedOrders = true := by kernel_rfl
        go_wp2_with fail
        refine wp_region_slots slotLe (slotPhi ((fun v _ => v = ?rb100) :: (fun v _ => v = ?rb101) :: (fun v _ => v = ?rb102) :: (fun v _ => v = ?rb103) :: (fun v _ => v = ?rb104) :: (fun v _ => v = ?rb105) :: (fun v _ => v = ?rb106) :: (fun v _ => v = ?rb107) :: (fun v _ => v = ?rb108) :: (fun v _ => v = ?rb109) :: (fun v _ => v = ?rb110) :: [])) slotLe_refl slotLe_trans (slotPhi_stable ?stb) (by kernel_rfl) (by kernel_rfl) (by kernel_rfl) ?steps ?fin
        case stb =>
          refine ⟨by intro _ _ _ _ h; exact h, ?_⟩
          refine ⟨by intro _ _ _ _ h; exact h, ?_⟩
          refine ⟨by intro _ _ _ _ h; exact h, ?_⟩
          refine ⟨by intro _ _ _ _ h; exact h, ?_⟩
          refine ⟨by intro _ _ _ _ h; exact h, ?_⟩
          refine ⟨by intro _ _ _ _ h; exact h, ?_⟩
          refine ⟨by intro _ _ _ _ h; exact h, ?_⟩
          refine ⟨by intro _ _ _ _ h; exact h, ?_⟩
          refine ⟨by intro _ _ _ _ h; exact h, ?_⟩
          refine ⟨by intro _ _ _ _ h; exact h, ?_⟩
          refine ⟨by intro _ _ _ _ h; exact h, ?_⟩
          exact trivial
        case steps =>
          refine ⟨?_, ?_⟩
          · intro a W K N hK
            have e7 : a.tmps[7]?.getD undef = .pointer (some ⟨B1, 0, none⟩) := N.was' 7 _ (by kernel_rfl) rfl
            rw [if_pos (wanted_no rfl)]
            go_simp
            refine hK _ _ (slotLe_refl _) ?_
            exact rfl
          refine ⟨?_, ?_⟩
          · intro a W K N hK
            have e100 : a.tmps[100]?.getD undef = _ := N.dep' 0 100 (by kernel_rfl)
            rw [if_pos (wanted_no rfl)]
            have z0 := keep_cell N.le r8
            go_simp
            refine hK _ _ (slotLe_refl _) ?_
            exact rfl
          refine ⟨?_, ?_⟩
          · intro a W K N hK
            have e9 : a.tmps[9]?.getD undef = .int .i64 (k : Int) := N.was' 9 _ (by kernel_rfl) rfl
            rw [if_pos (wanted_no rfl)]
            go_simp
            refine hK _ _ (slotLe_refl _) ?_
            exact rfl
          refine ⟨?_, ?_⟩
          · intro a W K N hK
            have e101 : a.tmps[101]?.getD undef = _ := N.dep' 1 101 (by kernel_rfl)
            have e102 : a.tmps[102]?.getD undef = _ := N.dep' 2 102 (by kernel_rfl)
            rw [if_pos (wanted_no rfl)]
            go_simp
            refine hK _ _ (slotLe_refl _) ?_
            exact rfl
          refine ⟨?_, ?_⟩
          · intro a W K N hK
            have e103 : a.tmps[103]?.getD undef = _ := N.dep' 3 103 (by kernel_rfl)
            rw [if_pos (wanted_no rfl)]
            have z0 := keep_cell N.le x0
            have z1 := keep_cell N.le x1
            have z2 := keep_cell N.le x2
            go_simp
            refine hK _ _ (slotLe_refl _) ?_
            exact rfl
          refine ⟨?_, ?_⟩
          · intro a W K N hK
            have e3 : a.tmps[3]?.getD undef = .pointer (some ⟨B0, 0, none⟩) := N.was' 3 _ (by kernel_rfl) rfl
            rw [if_pos (wanted_no rfl)]
            go_simp
            refine hK _ _ (slotLe_refl _) ?_
            exact rfl
          refine ⟨?_, ?_⟩
          · intro a W K N hK
            have e105 : a.tmps[105]?.getD undef = _ := N.dep' 5 105 (by kernel_rfl)
            rw [if_pos (wanted_no rfl)]
            have z0 := keep_cell N.le c8
            go_simp
            refine hK _ _ (slotLe_refl _) ?_
            exact rfl
          refine ⟨?_, ?_⟩
          · intro a W K N hK
            have e9 : a.tmps[9]?.getD undef = .int .i64 (k : Int) := N.was' 9 _ (by kernel_rfl) rfl
            rw [if_pos (wanted_no rfl)]
            go_simp
            refine hK _ _ (slotLe_refl _) ?_
            exact rfl
          refine ⟨?_, ?_⟩
          · intro a W K N hK
            have e106 : a.tmps[106]?.getD undef = _ := N.dep' 6 106 (by kernel_rfl)
            have e107 : a.tmps[107]?.getD undef = _ := N.dep' 7 107 (by kernel_rfl)
            rw [if_pos (wanted_no rfl)]
            go_simp
            refine hK _ _ (slotLe_refl _) ?_
            exact rfl
          refine ⟨?_, ?_⟩
          · intro a W K N hK
            have e108 : a.tmps[108]?.getD undef = _ := N.dep' 8 108 (by kernel_rfl)
            rw [if_pos (wanted_no rfl)]
            have z0 := keep_cell N.le y0
            have z1 := keep_cell N.le y1
            have z2 := keep_cell N.le y2
            go_simp
            refine hK _ _ (slotLe_refl _) ?_
            exact rfl
          refine ⟨?_, ?_⟩
          · intro a W K N hK
            have e104 : a.tmps[104]?.getD undef = _ := N.dep' 4 104 (by kernel_rfl)
            have e109 : a.tmps[109]?.getD undef = _ := N.dep' 9 109 (by kernel_rfl)
            rw [if_pos (wanted_no rfl)]
            have hn := HNEQ.out
            go_simp
            refine hK _ _ (slotLe_refl _) ?_
            exact rfl
          exact trivial
        case fin =>
          intro W1 hW1
          simp only [FinAll, slotPhi, List.getD_cons_zero, List.getD_cons_succ, forall_eq, Act.put, List.setIfInBounds_toArray, List.set_cons_zero, List.set_cons_succ]
          have bU := below_undrew hW1
          have bW1 := below_trans hbl bU
          go_wp2_with fail
          go_roundw
          case rel => exact ⟨k + 1, by go_num, by omega, bW1⟩
          case measure => simp [intOf]; omega

      · obtain rfl : k = m.qs.length := by omega
        have r9 := (KR4.out.below hbl).cell (i := 9) rfl
        have HRS := Lib.hid (rrs_same l _ _ wr (readR_below HO4.out.an hbl) (readR_below HR4.out hbl) (by omega))
        go_wp2_with fail
        refine HRS.out.mono ?_
        rintro e w6 ⟨rfl, b6⟩
        have b56 := below_trans hbl b6
        have r10 := (KR4.out.below b56).cell (i := 10) rfl
        have r11 := (KR4.out.below b56).cell (i := 11) rfl
        have x9 := (KX4.out.below b56).cell (i := 9) rfl
        have x7 := (KX4.out.below b56).cell (i := 7) rfl
        go_wp2_with fail
        refine (HAW.out _).mono ?_
        rintro e w7 ⟨rfl, b7⟩
        go_wp2_with fail
        go_ret
        exact ⟨rfl, HB4.out.trans ((below_trans b56 b7).mono HB4.out.size)⟩
end Go.Proofs.Ytjbigdmhmfjjpaa

/- MatchReplies of package freshetlaw5 (a reply has the asked number, question and wishes, and says that it is one; beside its records nothing else) returns true at every message, code and records.
   Conditions: those of the row, none beside. -/
namespace Go.Proofs.Ytjbigdmhmfjjpaa.matchReplies
open Go.ChangeShapes Go.WideShapes Go.ChangeAt Go.RowKit

set_option maxRecDepth 100000 in
theorem contract (H : Type) (enc : TypeId × Value → H) (W : World) (base : Nat) (args : Array Value) (ds gs : List (DataW H)) (before : List MemPlace)
    (hval : ∀ (j : Nat) t v, Try.f7.params[j]? = some t → args[j]? = some v → Value.okWide Try.prog W .any base t v)
    (hW : DataW.Whole enc Try.prog Try.f7.params.toList Rows.matchRepliesSpec.vars false W args.toList ds gs before) (_hL : laidMetH Try.prog laidList W) :
    Calls Try.prog 7 args W fun e W' => ∃ v, e = .returned v ∧ Rows.matchRepliesSpec.post enc Try.prog Try.f7 false true false false W args v W' := by
  have hW' := hW
  obtain ⟨p, q, hA0, hV, rfl, _, _⟩ := hW
  have hA : DataW.TrodAll enc Try.prog W 0 (fun _ => true) true Try.f7.params.toList args.toList ds p := hA0
  clear hA0
  rw [Try.params7] at hA hval
  obtain ⟨v0, vs0, d0, ds0, p0, q0, hargs0, rfl, rfl, h0, r0⟩ := trodAll_cons hA
  obtain ⟨v1, vs1, d1, ds1, p1, q1, hargs1, rfl, rfl, h1, r1⟩ := trodAll_cons r0
  subst hargs1
  obtain ⟨v2, vs2, d2, ds2, p2, q2, hargs2, rfl, rfl, h2, r2⟩ := trodAll_cons r1
  subst hargs2
  obtain ⟨rfl, rfl, rfl⟩ := trodAll_nil r2
  obtain rfl : args = #[v0, v1, v2] := by cases args; simp_all
  obtain ⟨rfl, rfl⟩ := trodVars_none hV
  obtain ⟨m0, vq0, va0, vn0, vd0, rfl, hm0, hf0, hi0⟩ := arg_msg (hval 0 _ _ rfl rfl) h0
  obtain ⟨z1, rfl, hz1⟩ := arg_int (hval 1 _ _ rfl rfl) h1
  obtain ⟨l2, hr2, hl2, hs2, hi2⟩ := arg_rrl (hval 2 _ v2 rfl rfl) h2
  refine (mreplies_any m0 vq0 va0 vn0 vd0 z1 l2 v2 W hm0 hf0 hr2 hl2 hs2).mono fun e W' ⟨he, hbl⟩ => ?_
  exact ⟨_, he, law_post hW' rfl hbl rfl rfl (fun t ht => readT5 t (by rw [Try.params7] at ht; exact (show ∀ t ∈ (#[27, 3, 25] : Array TypeId).toList, t ∈ [9, 3, 27, 25, 36, 60] by decide) t ht))⟩

set_option maxRecDepth 100000 in
theorem reads (os : Os) {H : Type} (enc : TypeId × Value → H) : ∃ places, DataW.whole enc Try.prog ((laidWorld os).forCall (fun _ _ => 0) ⟨#[], #[.agg #[.int .i64 0, .bool false, .int .i64 0, .bool false, .bool false, .bool false, .bool false, .int .i64 0, .slice none 0 0, .slice none 0 0, .slice none 0 0, .slice none 0 0, .bool false, .int .i64 0], .int .i64 0, .slice none 0 0], []⟩).memory Try.f7.params.toList Rows.matchRepliesSpec.vars false (#[.agg #[.int .i64 0, .bool false, .int .i64 0, .bool false, .bool false, .bool false, .bool false, .int .i64 0, .slice none 0 0, .slice none 0 0, .slice none 0 0, .slice none 0 0, .bool false, .int .i64 0], .int .i64 0, .slice none 0 0] : Array Value).toList 8 = some ([.agg [.lit (.int .i64 0), .lit (.bool false), .lit (.int .i64 0), .lit (.bool false), .lit (.bool false), .lit (.bool false), .lit (.bool false), .lit (.int .i64 0), .nil, .nil, .nil, .nil, .lit (.bool false), .lit (.int .i64 0)], .lit (.int .i64 0), .nil], [], places) :=
  ⟨[], by kernel_rfl⟩

set_option maxRecDepth 100000 in
theorem lifted (os : Os) (started : os.Started) (H : Type) (enc : TypeId × Value → H) (F : Stop.Interp) :
    ReturnsInHanded {} Try.checked os 7 .any ((OpenSpec.ofChange Rows.matchRepliesSpec).preRow enc Try.prog Try.f7 Rows.matchRepliesRow.domain false Rows.matchRepliesRow.laid) (((OpenSpec.ofChange Rows.matchRepliesSpec).at F).post enc Try.prog Try.f7 false true false false) := by
  obtain ⟨places, hx⟩ := reads os enc
  refine returnsInHanded_of_row (C := Try.checked) (s := OpenSpec.ofChange Rows.matchRepliesSpec) own started (by kernel_rfl) Try.func7
    (witness_row_atRef (enc := enc) (C := Try.checked) false (laidWorld os) #[.agg #[.int .i64 0, .bool false, .int .i64 0, .bool false, .bool false, .bool false, .bool false, .int .i64 0, .slice none 0 0, .slice none 0 0, .slice none 0 0, .slice none 0 0, .bool false, .int .i64 0], .int .i64 0, .slice none 0 0] rfl (by kernel_rfl) (by kernel_rfl) (by kernel_rfl)
      (OpenSpec.preRow_of_cond 8 hx (by kernel_rfl) (fun k hk => by cases hk) (by kernel_rfl) (laid_met os _))) ?_
  intro W base args ds gs before hval hW _ _ _ hL _ _
  exact contract H enc W base args ds gs before hval hW hL

theorem said : Rows.MatchRepliesSaid :=
  OpenClaim.holds_of_cond 7 Try.f7 rfl rfl rfl rfl rfl rfl rfl ⟨rfl, rfl, rfl, rfl, rfl⟩ rfl rfl rfl rfl rfl (by kernel_rfl) Try.func7 (by kernel_rfl)
    (of_decide_eq_true (by kernel_rfl)) (by unfold Func.isWrapper; first | (rw [if_pos (by decide +kernel)]; kernel_rfl) | (rw [if_neg (by decide +kernel)]; exact ⟨rfl, rfl⟩))
    (fun os started H enc _ F => by rw [OpenClaim.pre_eq_preRow]; exact lifted os started H enc F)
end Go.Proofs.Ytjbigdmhmfjjpaa.matchReplies
