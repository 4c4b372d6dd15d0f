/- 2 texts put together: MAwake, Lit. -/
import Derived.Test.YtdodamkndigjkaaJB16
import Derived.Test.YtdodamkndigjkaaJB20
import Derived.Test.YtdodamkndigjkaaJB22
import Derived.Test.YtdodamkndigjkaaJB24
import Derived.Test.YtdodamkndigjkaaJB25
/- awake of freshetlaw5. -/
set_option maxRecDepth 100000
namespace Go.Proofs.Ytdodamkndigjkaa
open Go.RowKit Go.Shelf Go.Maps
attribute [local go_sem] Oper.semAt_some

namespace Mt
def aq : Ms.Q := ⟨[1, 97, 0], 1, 1⟩
def am : Ms.M := ⟨5, false, 0, false, false, false, false, 0, [aq], [], [], [], true, 1232⟩
def aw : Ms.M := ⟨6, false, 0, false, false, false, false, 0, [aq], [], [], [], true, 1232⟩
def ar : Ms.M := ⟨5, true, 0, false, false, false, true, 3, [aq], [], [], [], true, 1232⟩
def aRR : Rd.RR := ⟨[1, 65, 0], 1, 1, 0, [49, 50, 51, 52]⟩
theorem ask_am : ask 65541 aq = am := by unfold ask am; rw [show bits .and .i64 65541 65535 = 5 from by decide]
theorem ask_aw : ask 6 aq = aw := by unfold ask aw; rw [show bits .and .i64 6 65535 = 6 from by decide]
theorem reply_ar : reply am 3 [] [] = ar := rfl
theorem ans1 : answers am ar = true := by decide +kernel
theorem ans2 : answers aw ar = false := by decide +kernel
theorem ans3 : answers am am = false := by decide +kernel
theorem sets_aw : sets [aRR, aRR] = [⟨[1, 97, 0], 1, [aRR]⟩] := by
  have h1 : met [] aRR = false := rfl
  have h2 : met (put [] aRR) aRR = true := by rw [met_put]; simp [sameR_iff]
  have h3 : put [] aRR = [⟨[1, 97, 0], 1, [aRR]⟩] := by
    have : Nm.fold aRR.name = [1, 97, 0] := by decide +kernel
    unfold put openK hasK atK
    rw [this]
    rfl
  unfold sets
  simp only [List.foldl_cons, List.foldl_nil]
  have e1 : step [] aRR = put [] aRR := by unfold step; rw [if_pos ⟨rfl, h1⟩]
  rw [e1]
  unfold step
  rw [if_neg (by rw [h2]; simp), h3]
end Mt
theorem eqlKey (W : World) : (binOp .eql 53 (.agg #[.string ⟨#[1, 97, 0]⟩, .int .i64 1]) (.agg #[.string ⟨#[1, 97, 0]⟩, .int .i64 1])).run Try.prog W = .ok (.bool true) W := by kernel_rfl

theorem field7 (W : World) (o1 o2 o3 o4 : Option Addr) (n1 n2 n3 n4 k1 k2 k3 k4 : Nat) : (Instr.field 27 (.agg #[.int .i64 5, .bool true, .int .i64 0, .bool false, .bool false, .bool false, .bool true, .int .i64 2, .slice o1 n1 k1, .slice o2 n2 k2, .slice o3 n3 k3, .slice o4 n4 k4, .bool true, .int .i64 1232]) 7).run Try.prog W = .ok (.int .i64 2) W := by kernel_rfl

set_option maxHeartbeats 8000000 in
theorem mawake_any (w : World) : Calls Try.prog 12 #[] w fun e w' => e = .returned (.bool true) ∧ Below w.heap.size w w' := by
  have HAM := fun W => ask_any 65541 Mt.aq W (by decide)
  have HAW := fun W => ask_any 6 Mt.aq W (by decide)
  rw [Mt.ask_am] at HAM
  rw [Mt.ask_aw] at HAW
  unfold qV Mt.aq at HAM HAW
  simp only at HAM HAW
  go_enter Try.func12, Try.ntmps12
  have H1 := Lib.hid HAM
  have H2 := Lib.hid HAW
  clear HAM HAW
  go_wp2_with fail
  refine (H1.out _).mono ?_
  rintro e w1 ⟨vq, va, vn, vd, rfl, hL, b1⟩
  obtain ⟨oq1, kq1, rfl, _⟩ := ownK_form hL.qs
  obtain ⟨oa1, ka1, rfl, _⟩ := ownK_form hL.an
  obtain ⟨on1, kn1, rfl, _⟩ := ownK_form hL.ns
  obtain ⟨od1, kd1, rfl, _⟩ := ownK_form hL.ad
  have hLr := hL.lists
  simp only [msgV, show Mt.am.qs.length = 1 from rfl, show Mt.am.an.length = 0 from rfl, show Mt.am.ns.length = 0 from rfl, show Mt.am.ad.length = 0 from rfl] at hLr ⊢
  simp only [Mt.am]
  have KQ1 := Lib.hid ((Block.new w #[.string ⟨#[1, 97, 0]⟩, .int .i64 1, .int .i64 1] 36).below b1)
  obtain ⟨B1, hB1⟩ : ∃ B, w.heap.size = B := ⟨_, rfl⟩
  have HL1 := Lib.hid hLr
  have HB1 : Hid (Below w.heap.size w w1) := Lib.hid (((Below.refl _ w).alloc (Nat.le_refl _) _).trans (b1.mono (by simp)))
  rw [hB1] at KQ1 ⊢
  clear hL hLr b1
  have bA := (Below.refl w1.heap.size w1).alloc (Nat.le_refl _) (.cells #[.int .i64 5, .bool false, .int .i64 0, .bool false, .bool false, .bool false, .bool false, .int .i64 0, .slice oq1 1 kq1, .slice oa1 0 ka1, .slice on1 0 kn1, .slice od1 0 kd1, .bool true, .int .i64 1232] 27)
  have K2 := Lib.hid (Block.new w1 #[.int .i64 5, .bool false, .int .i64 0, .bool false, .bool false, .bool false, .bool false, .int .i64 0, .slice oq1 1 kq1, .slice oa1 0 ka1, .slice on1 0 kn1, .slice od1 0 kd1, .bool true, .int .i64 1232] 27)
  have HR := Lib.hid (reply_any Mt.am (.slice oq1 1 kq1) (.slice oa1 0 ka1) (.slice on1 0 kn1) (.slice od1 0 kd1) 3 [] [] (.slice none 0 0) (.slice none 0 0) _ (HL1.out.below bA) (by decide) (by decide) (readR_nil _) (readR_nil _) (by decide) (by decide) (by simp) (by simp))
  rw [Mt.reply_ar] at HR
  simp only [msgV, Mt.am] at HR
  go_wp2_with fail
  refine (HR.out).mono ?_
  rintro e w2 ⟨vq, va, vn, vd, rfl, hL, b1⟩
  obtain ⟨oq2, kq2, rfl, _⟩ := ownK_form hL.qs
  obtain ⟨oa2, ka2, rfl, _⟩ := ownK_form hL.an
  obtain ⟨on2, kn2, rfl, _⟩ := ownK_form hL.ns
  obtain ⟨od2, kd2, rfl, _⟩ := ownK_form hL.ad
  have hLr := hL.lists
  simp only [msgV, show Mt.ar.qs.length = 1 from rfl, show Mt.ar.an.length = 0 from rfl, show Mt.ar.ns.length = 0 from rfl, show Mt.ar.ad.length = 0 from rfl] at hLr ⊢
  simp only [Mt.ar]
  have b12 := below_trans bA b1
  have KQ2 := Lib.hid (KQ1.out.below b12)
  have K22 := Lib.hid (K2.out.below b1)
  have HL12 := Lib.hid (HL1.out.below b12)
  have HL2 := Lib.hid hLr
  have HB2 : Hid (Below w.heap.size w w2) := Lib.hid (HB1.out.trans (b12.mono HB1.out.size))
  clear hL hLr b1 b12 bA KQ1 K2 HL1 HB1 HR
  have bA := (Below.refl w2.heap.size w2).alloc (Nat.le_refl _) (.cells #[.int .i64 5, .bool true, .int .i64 0, .bool false, .bool false, .bool false, .bool true, .int .i64 3, .slice oq2 1 kq2, .slice oa2 0 ka2, .slice on2 0 kn2, .slice od2 0 kd2, .bool true, .int .i64 1232] 27)
  have K3 := Lib.hid (Block.new w2 #[.int .i64 5, .bool true, .int .i64 0, .bool false, .bool false, .bool false, .bool true, .int .i64 3, .slice oq2 1 kq2, .slice oa2 0 ka2, .slice on2 0 kn2, .slice od2 0 kd2, .bool true, .int .i64 1232] 27)
  have q0 := (KQ2.out.alloc (.cells #[.int .i64 5, .bool true, .int .i64 0, .bool false, .bool false, .bool false, .bool true, .int .i64 3, .slice oq2 1 kq2, .slice oa2 0 ka2, .slice on2 0 kn2, .slice od2 0 kd2, .bool true, .int .i64 1232] 27)).cell (i := 0) rfl
  have q1 := (KQ2.out.alloc (.cells #[.int .i64 5, .bool true, .int .i64 0, .bool false, .bool false, .bool false, .bool true, .int .i64 3, .slice oq2 1 kq2, .slice oa2 0 ka2, .slice on2 0 kn2, .slice od2 0 kd2, .bool true, .int .i64 1232] 27)).cell (i := 1) rfl
  have q2 := (KQ2.out.alloc (.cells #[.int .i64 5, .bool true, .int .i64 0, .bool false, .bool false, .bool false, .bool true, .int .i64 3, .slice oq2 1 kq2, .slice oa2 0 ka2, .slice on2 0 kn2, .slice od2 0 kd2, .bool true, .int .i64 1232] 27)).cell (i := 2) rfl
  go_wp2_with fail
  refine (H2.out _).mono ?_
  rintro e w3 ⟨vq, va, vn, vd, rfl, hL, b1⟩
  obtain ⟨oq3, kq3, rfl, _⟩ := ownK_form hL.qs
  obtain ⟨oa3, ka3, rfl, _⟩ := ownK_form hL.an
  obtain ⟨on3, kn3, rfl, _⟩ := ownK_form hL.ns
  obtain ⟨od3, kd3, rfl, _⟩ := ownK_form hL.ad
  have hLr := hL.lists
  simp only [msgV, show Mt.aw.qs.length = 1 from rfl, show Mt.aw.an.length = 0 from rfl, show Mt.aw.ns.length = 0 from rfl, show Mt.aw.ad.length = 0 from rfl] at hLr ⊢
  simp only [Mt.aw]
  have b12 := below_trans bA b1
  have K23 := Lib.hid (K22.out.below b12)
  have K33 := Lib.hid (K3.out.below b1)
  have HL13 := Lib.hid (HL12.out.below b12)
  have HL23 := Lib.hid (HL2.out.below b12)
  have HL3 := Lib.hid hLr
  have HB3 : Hid (Below w.heap.size w w3) := Lib.hid (HB2.out.trans (b12.mono HB2.out.size))
  clear hL hLr b1 b12 bA KQ2 K22 K3 HL12 HL2 HB2 q0 q1 q2 H1 H2
  obtain ⟨B2, hB2⟩ : ∃ B, w1.heap.size = B := ⟨_, rfl⟩
  obtain ⟨B3, hB3⟩ : ∃ B, w2.heap.size = B := ⟨_, rfl⟩
  rw [hB2] at K23 ⊢
  rw [hB3] at K33 ⊢
  clear hB2 hB3
  go_wp2_with fail
  have bA := (((Below.refl w3.heap.size w3).alloc (Nat.le_refl _) (.cells #[.int .i64 6, .bool false, .int .i64 0, .bool false, .bool false, .bool false, .bool false, .int .i64 0, .slice oq3 1 kq3, .slice oa3 0 ka3, .slice on3 0 kn3, .slice od3 0 kd3, .bool true, .int .i64 1232] 27)).alloc (by simp) (.cells #[.string ⟨#[1, 65, 0]⟩, .int .i64 1, .int .i64 1, .int .i64 0, .string ⟨#[49, 50, 51, 52]⟩] 51)).alloc (by simp; omega) (.cells #[.string ⟨#[1, 65, 0]⟩, .int .i64 1, .int .i64 1, .int .i64 0, .string ⟨#[49, 50, 51, 52]⟩, .string ⟨#[1, 65, 0]⟩, .int .i64 1, .int .i64 1, .int .i64 0, .string ⟨#[49, 50, 51, 52]⟩] 51)
  have hK4 := (blk_f1 w3 #[.int .i64 6, .bool false, .int .i64 0, .bool false, .bool false, .bool false, .bool false, .int .i64 0, .slice oq3 1 kq3, .slice oa3 0 ka3, .slice on3 0 kn3, .slice od3 0 kd3, .bool true, .int .i64 1232] 27 (.cells #[.string ⟨#[1, 65, 0]⟩, .int .i64 1, .int .i64 1, .int .i64 0, .string ⟨#[49, 50, 51, 52]⟩] 51)).alloc (.cells #[.string ⟨#[1, 65, 0]⟩, .int .i64 1, .int .i64 1, .int .i64 0, .string ⟨#[49, 50, 51, 52]⟩, .string ⟨#[1, 65, 0]⟩, .int .i64 1, .int .i64 1, .int .i64 0, .string ⟨#[49, 50, 51, 52]⟩] 51)
  have hK5 : Block (((w3.alloc (.cells #[.int .i64 6, .bool false, .int .i64 0, .bool false, .bool false, .bool false, .bool false, .int .i64 0, .slice oq3 1 kq3, .slice oa3 0 ka3, .slice on3 0 kn3, .slice od3 0 kd3, .bool true, .int .i64 1232] 27)).alloc (.cells #[.string ⟨#[1, 65, 0]⟩, .int .i64 1, .int .i64 1, .int .i64 0, .string ⟨#[49, 50, 51, 52]⟩] 51)).alloc (.cells #[.string ⟨#[1, 65, 0]⟩, .int .i64 1, .int .i64 1, .int .i64 0, .string ⟨#[49, 50, 51, 52]⟩, .string ⟨#[1, 65, 0]⟩, .int .i64 1, .int .i64 1, .int .i64 0, .string ⟨#[49, 50, 51, 52]⟩] 51)) (w3.heap.size + 1 + 1) #[.string ⟨#[1, 65, 0]⟩, .int .i64 1, .int .i64 1, .int .i64 0, .string ⟨#[49, 50, 51, 52]⟩, .string ⟨#[1, 65, 0]⟩, .int .i64 1, .int .i64 1, .int .i64 0, .string ⟨#[49, 50, 51, 52]⟩] 51 := by
    have := Block.new ((w3.alloc (.cells #[.int .i64 6, .bool false, .int .i64 0, .bool false, .bool false, .bool false, .bool false, .int .i64 0, .slice oq3 1 kq3, .slice oa3 0 ka3, .slice on3 0 kn3, .slice od3 0 kd3, .bool true, .int .i64 1232] 27)).alloc (.cells #[.string ⟨#[1, 65, 0]⟩, .int .i64 1, .int .i64 1, .int .i64 0, .string ⟨#[49, 50, 51, 52]⟩] 51)) #[.string ⟨#[1, 65, 0]⟩, .int .i64 1, .int .i64 1, .int .i64 0, .string ⟨#[49, 50, 51, 52]⟩, .string ⟨#[1, 65, 0]⟩, .int .i64 1, .int .i64 1, .int .i64 0, .string ⟨#[49, 50, 51, 52]⟩] 51
    rwa [World.size_alloc, World.size_alloc] at this
  have hrd : ReadR (.slice (some ⟨w3.heap.size + 1 + 1, 0, none⟩) 2 2) [Mt.aRR, Mt.aRR] (((w3.alloc (.cells #[.int .i64 6, .bool false, .int .i64 0, .bool false, .bool false, .bool false, .bool false, .int .i64 0, .slice oq3 1 kq3, .slice oa3 0 ka3, .slice on3 0 kn3, .slice od3 0 kd3, .bool true, .int .i64 1232] 27)).alloc (.cells #[.string ⟨#[1, 65, 0]⟩, .int .i64 1, .int .i64 1, .int .i64 0, .string ⟨#[49, 50, 51, 52]⟩] 51)).alloc (.cells #[.string ⟨#[1, 65, 0]⟩, .int .i64 1, .int .i64 1, .int .i64 0, .string ⟨#[49, 50, 51, 52]⟩, .string ⟨#[1, 65, 0]⟩, .int .i64 1, .int .i64 1, .int .i64 0, .string ⟨#[49, 50, 51, 52]⟩] 51)) := readR_row (l := [Mt.aRR, Mt.aRR]) hK5
  have hfin : Fine Mt.aRR := ⟨by decide, by decide, by decide, by decide, by decide⟩
  have HGR := Lib.hid (groups_any [Mt.aRR, Mt.aRR] (-1) _ _ hrd (by simp only [List.mem_cons, List.not_mem_nil, or_false]; rintro r (rfl | rfl) <;> exact hfin) (by decide) (by decide))
  have K24 := Lib.hid (K23.out.below bA)
  have K34 := Lib.hid (K33.out.below bA)
  have K44 := Lib.hid hK4
  have HL14 := Lib.hid (HL13.out.below bA)
  have HL24 := Lib.hid (HL23.out.below bA)
  have HL34 := Lib.hid (HL3.out.below bA)
  have HB4 := Lib.hid (HB3.out.trans (bA.mono HB3.out.size))
  obtain ⟨B4, hB4⟩ : ∃ B, w3.heap.size = B := ⟨_, rfl⟩
  rw [hB4] at K44
  generalize (((w3.alloc (.cells #[.int .i64 6, .bool false, .int .i64 0, .bool false, .bool false, .bool false, .bool false, .int .i64 0, .slice oq3 1 kq3, .slice oa3 0 ka3, .slice on3 0 kn3, .slice od3 0 kd3, .bool true, .int .i64 1232] 27)).alloc (.cells #[.string ⟨#[1, 65, 0]⟩, .int .i64 1, .int .i64 1, .int .i64 0, .string ⟨#[49, 50, 51, 52]⟩] 51)).alloc (.cells #[.string ⟨#[1, 65, 0]⟩, .int .i64 1, .int .i64 1, .int .i64 0, .string ⟨#[49, 50, 51, 52]⟩, .string ⟨#[1, 65, 0]⟩, .int .i64 1, .int .i64 1, .int .i64 0, .string ⟨#[49, 50, 51, 52]⟩] 51)) = W5 at HGR K24 K34 K44 HL14 HL24 HL34 HB4 ⊢
  rw [hB4] at HGR ⊢
  clear bA hK4 hK5 hrd K23 K33 HL13 HL23 HL3 HB3 hB4
  refine HGR.out.mono ?_
  rintro e w6 ⟨v6, L6, rfl, hG6, hm6, b6⟩
  rw [Mt.sets_aw, show mostOf [(⟨[1, 97, 0], 1, [Mt.aRR]⟩ : Mt.Gr)] (-1) = [⟨[1, 97, 0], 1, [Mt.aRR]⟩] from by unfold mostOf; rw [if_neg (by omega)]] at hm6
  obtain ⟨g6, rfl⟩ : ∃ g, L6 = [g] := List.length_eq_one_iff.1 (by have := congrArg List.length hm6; simpa using this)
  simp only [List.map_cons, List.map_nil, List.cons.injEq, and_true] at hm6
  obtain ⟨gn, gt, gr, gao, gcap⟩ := g6
  unfold Ge.gr at hm6
  injection hm6 with hn6 ht6 hr6
  simp only at hn6 ht6 hr6
  subst hn6 ht6 hr6
  obtain ⟨a6, c6, rfl, hc6⟩ := hG6.read.form
  obtain ⟨G6, off6, e6, x0, x1, x2⟩ := hc6 0 (by simp)
  subst e6
  simp only [List.getElem_cons_zero, Nat.zero_mul, Nat.add_zero, Ge.v, List.length_singleton] at x0 x1 x2
  obtain ⟨p6, hp6⟩ : ∃ p : Option Addr, gao.map (fun b => (⟨b, 0, none⟩ : Addr)) = p := ⟨_, rfl⟩
  rw [hp6] at x2
  simp only [List.length_singleton]
  have X0 := Lib.hid x0
  have X1 := Lib.hid x1
  have X2 := Lib.hid x2
  have K2 := Lib.hid (K24.out.below b6)
  have K3 := Lib.hid (K34.out.below b6)
  have K4 := Lib.hid (K44.out.below b6)
  have L1 := Lib.hid (HL14.out.below b6)
  have L2 := Lib.hid (HL24.out.below b6)
  have L3 := Lib.hid (HL34.out.below b6)
  have HB := Lib.hid (HB4.out.trans (b6.mono HB4.out.size))
  have C1 := Lib.hid (fun W (hb : Below w6.heap.size w6 W) => answers_any Mt.am Mt.ar (.slice oq1 1 kq1) (.slice oa1 0 ka1) (.slice on1 0 kn1) (.slice od1 0 kd1) (.slice oq2 1 kq2) (.slice oa2 0 ka2) (.slice on2 0 kn2) (.slice od2 0 kd2) W (readQ_below L1.out.qs hb) (readQ_below L2.out.qs hb) (by decide) (by decide) (by decide) (by decide))
  have C2 := Lib.hid (fun W (hb : Below w6.heap.size w6 W) => answers_any Mt.aw Mt.ar (.slice oq3 1 kq3) (.slice oa3 0 ka3) (.slice on3 0 kn3) (.slice od3 0 kd3) (.slice oq2 1 kq2) (.slice oa2 0 ka2) (.slice on2 0 kn2) (.slice od2 0 kd2) W (readQ_below L3.out.qs hb) (readQ_below L2.out.qs hb) (by decide) (by decide) (by decide) (by decide))
  have C3 := Lib.hid (fun W (hb : Below w6.heap.size w6 W) => answers_any Mt.am Mt.am (.slice oq1 1 kq1) (.slice oa1 0 ka1) (.slice on1 0 kn1) (.slice od1 0 kd1) (.slice oq1 1 kq1) (.slice oa1 0 ka1) (.slice on1 0 kn1) (.slice od1 0 kd1) W (readQ_below L1.out.qs hb) (readQ_below L1.out.qs hb) (by decide) (by decide) (by decide) (by decide))
  have C4 := Lib.hid (fun W (hb : Below w6.heap.size w6 W) => refuse_any Mt.am (.slice oq1 1 kq1) (.slice oa1 0 ka1) (.slice on1 0 kn1) (.slice od1 0 kd1) 2 W (L1.out.below hb) (by decide) (by decide))
  rw [Mt.ans1] at C1
  rw [Mt.ans2] at C2
  rw [Mt.ans3] at C3
  simp only [msgV, Mt.am, Mt.ar, Mt.aw] at C1 C2 C3 C4
  clear HGR K24 K34 K44 HL14 HL24 HL34 HB4 b6 hG6 hc6 x0 x1 x2 hp6
  have p0 := K2.out.cell (i := 0) rfl
  have p1 := K2.out.cell (i := 1) rfl
  have p2 := K2.out.cell (i := 2) rfl
  have p3 := K2.out.cell (i := 3) rfl
  have p4 := K2.out.cell (i := 4) rfl
  have p5 := K2.out.cell (i := 5) rfl
  have p6 := K2.out.cell (i := 6) rfl
  have p7 := K2.out.cell (i := 7) rfl
  have p8 := K2.out.cell (i := 8) rfl
  have p9 := K2.out.cell (i := 9) rfl
  have p10 := K2.out.cell (i := 10) rfl
  have p11 := K2.out.cell (i := 11) rfl
  have p12 := K2.out.cell (i := 12) rfl
  have p13 := K2.out.cell (i := 13) rfl
  have r0 := K3.out.cell (i := 0) rfl
  have r1 := K3.out.cell (i := 1) rfl
  have r2 := K3.out.cell (i := 2) rfl
  have r3 := K3.out.cell (i := 3) rfl
  have r4 := K3.out.cell (i := 4) rfl
  have r5 := K3.out.cell (i := 5) rfl
  have r6 := K3.out.cell (i := 6) rfl
  have r7 := K3.out.cell (i := 7) rfl
  have r8 := K3.out.cell (i := 8) rfl
  have r9 := K3.out.cell (i := 9) rfl
  have r10 := K3.out.cell (i := 10) rfl
  have r11 := K3.out.cell (i := 11) rfl
  have r12 := K3.out.cell (i := 12) rfl
  have r13 := K3.out.cell (i := 13) rfl
  go_wp2_with fail
  refine (C1.out _ (Below.refl _ _)).mono ?_
  rintro e w7 ⟨rfl, b7⟩
  have HBN7 := Lib.hid (b7)
  have K27 := Lib.hid (K2.out.below HBN7.out)
  have K37 := Lib.hid (K3.out.below HBN7.out)
  have K47 := Lib.hid (K4.out.below HBN7.out)
  clear p0 p1 p2 p3 p4 p5 p6 p7 p8 p9 p10 p11 p12 p13 r0 r1 r2 r3 r4 r5 r6 r7 r8 r9 r10 r11 r12 r13
  have r0 := K37.out.cell (i := 0) rfl
  have r1 := K37.out.cell (i := 1) rfl
  have r2 := K37.out.cell (i := 2) rfl
  have r3 := K37.out.cell (i := 3) rfl
  have r4 := K37.out.cell (i := 4) rfl
  have r5 := K37.out.cell (i := 5) rfl
  have r6 := K37.out.cell (i := 6) rfl
  have r7 := K37.out.cell (i := 7) rfl
  have r8 := K37.out.cell (i := 8) rfl
  have r9 := K37.out.cell (i := 9) rfl
  have r10 := K37.out.cell (i := 10) rfl
  have r11 := K37.out.cell (i := 11) rfl
  have r12 := K37.out.cell (i := 12) rfl
  have r13 := K37.out.cell (i := 13) rfl
  have p0 := K47.out.cell (i := 0) rfl
  have p1 := K47.out.cell (i := 1) rfl
  have p2 := K47.out.cell (i := 2) rfl
  have p3 := K47.out.cell (i := 3) rfl
  have p4 := K47.out.cell (i := 4) rfl
  have p5 := K47.out.cell (i := 5) rfl
  have p6 := K47.out.cell (i := 6) rfl
  have p7 := K47.out.cell (i := 7) rfl
  have p8 := K47.out.cell (i := 8) rfl
  have p9 := K47.out.cell (i := 9) rfl
  have p10 := K47.out.cell (i := 10) rfl
  have p11 := K47.out.cell (i := 11) rfl
  have p12 := K47.out.cell (i := 12) rfl
  have p13 := K47.out.cell (i := 13) rfl
  clear b7
  go_wp2_with fail
  refine (C2.out _ HBN7.out).mono ?_
  rintro e w8 ⟨rfl, b8⟩
  have HBN8 := Lib.hid (below_trans HBN7.out b8)
  have K28 := Lib.hid (K2.out.below HBN8.out)
  have K38 := Lib.hid (K3.out.below HBN8.out)
  have K48 := Lib.hid (K4.out.below HBN8.out)
  clear p0 p1 p2 p3 p4 p5 p6 p7 p8 p9 p10 p11 p12 p13 r0 r1 r2 r3 r4 r5 r6 r7 r8 r9 r10 r11 r12 r13
  have p0 := K28.out.cell (i := 0) rfl
  have p1 := K28.out.cell (i := 1) rfl
  have p2 := K28.out.cell (i := 2) rfl
  have p3 := K28.out.cell (i := 3) rfl
  have p4 := K28.out.cell (i := 4) rfl
  have p5 := K28.out.cell (i := 5) rfl
  have p6 := K28.out.cell (i := 6) rfl
  have p7 := K28.out.cell (i := 7) rfl
  have p8 := K28.out.cell (i := 8) rfl
  have p9 := K28.out.cell (i := 9) rfl
  have p10 := K28.out.cell (i := 10) rfl
  have p11 := K28.out.cell (i := 11) rfl
  have p12 := K28.out.cell (i := 12) rfl
  have p13 := K28.out.cell (i := 13) rfl
  have r0 := K38.out.cell (i := 0) rfl
  have r1 := K38.out.cell (i := 1) rfl
  have r2 := K38.out.cell (i := 2) rfl
  have r3 := K38.out.cell (i := 3) rfl
  have r4 := K38.out.cell (i := 4) rfl
  have r5 := K38.out.cell (i := 5) rfl
  have r6 := K38.out.cell (i := 6) rfl
  have r7 := K38.out.cell (i := 7) rfl
  have r8 := K38.out.cell (i := 8) rfl
  have r9 := K38.out.cell (i := 9) rfl
  have r10 := K38.out.cell (i := 10) rfl
  have r11 := K38.out.cell (i := 11) rfl
  have r12 := K38.out.cell (i := 12) rfl
  have r13 := K38.out.cell (i := 13) rfl
  clear b8
  go_wp2_with fail
  refine (C3.out _ HBN8.out).mono ?_
  rintro e w9 ⟨rfl, b9⟩
  have HBN9 := Lib.hid (below_trans HBN8.out b9)
  have K29 := Lib.hid (K2.out.below HBN9.out)
  have K39 := Lib.hid (K3.out.below HBN9.out)
  have K49 := Lib.hid (K4.out.below HBN9.out)
  clear p0 p1 p2 p3 p4 p5 p6 p7 p8 p9 p10 p11 p12 p13 r0 r1 r2 r3 r4 r5 r6 r7 r8 r9 r10 r11 r12 r13
  have p0 := K29.out.cell (i := 0) rfl
  have p1 := K29.out.cell (i := 1) rfl
  have p2 := K29.out.cell (i := 2) rfl
  have p3 := K29.out.cell (i := 3) rfl
  have p4 := K29.out.cell (i := 4) rfl
  have p5 := K29.out.cell (i := 5) rfl
  have p6 := K29.out.cell (i := 6) rfl
  have p7 := K29.out.cell (i := 7) rfl
  have p8 := K29.out.cell (i := 8) rfl
  have p9 := K29.out.cell (i := 9) rfl
  have p10 := K29.out.cell (i := 10) rfl
  have p11 := K29.out.cell (i := 11) rfl
  have p12 := K29.out.cell (i := 12) rfl
  have p13 := K29.out.cell (i := 13) rfl
  have r0 := K39.out.cell (i := 0) rfl
  have r1 := K39.out.cell (i := 1) rfl
  have r2 := K39.out.cell (i := 2) rfl
  have r3 := K39.out.cell (i := 3) rfl
  have r4 := K39.out.cell (i := 4) rfl
  have r5 := K39.out.cell (i := 5) rfl
  have r6 := K39.out.cell (i := 6) rfl
  have r7 := K39.out.cell (i := 7) rfl
  have r8 := K39.out.cell (i := 8) rfl
  have r9 := K39.out.cell (i := 9) rfl
  have r10 := K39.out.cell (i := 10) rfl
  have r11 := K39.out.cell (i := 11) rfl
  have r12 := K39.out.cell (i := 12) rfl
  have r13 := K39.out.cell (i := 13) rfl
  clear b9
  go_wp2_with fail
  refine (C4.out _ HBN9.out).mono ?_
  rintro e w10 ⟨vq, va, vn, vd, rfl, hO, b10⟩
  obtain ⟨oq4, kq4, rfl, _⟩ := ownK_form hO.qs
  obtain ⟨oa4, ka4, rfl, _⟩ := ownK_form hO.an
  obtain ⟨on4, kn4, rfl, _⟩ := ownK_form hO.ns
  obtain ⟨od4, kd4, rfl, _⟩ := ownK_form hO.ad
  clear hO
  have HBN10 := Lib.hid (below_trans HBN9.out b10)
  have y0 := keep_cell HBN10.out X0.out
  have y1 := keep_cell HBN10.out X1.out
  have y2 := keep_cell HBN10.out X2.out
  have hek := eqlKey
  have hf7 := field7
  simp only [msgV, Mt.refuse]
  clear b10 p0 p1 p2 p3 p4 p5 p6 p7 p8 p9 p10 p11 p12 p13 r0 r1 r2 r3 r4 r5 r6 r7 r8 r9 r10 r11 r12 r13
  go_wp2_with fail
  go_ret
  exact ⟨rfl, HB.out.trans (HBN10.out.mono HB.out.size)⟩
end Go.Proofs.Ytdodamkndigjkaa

/- append([]T{}, x...): what was there is left alone. -/
set_option maxRecDepth 100000
namespace Go.Proofs.Ytdodamkndigjkaa
open Go.RowKit Go.Shelf
attribute [local go_sem] Oper.semAt_some

theorem run_litk {α : Type} {P : Program} (enc : α → List Value) (k : Nat) (hk : ∀ x, (enc x).length = k) (_h0 : 0 < k) (_henc : ∀ x, ∀ u ∈ enc x, u.oneCell' = true) (w : World) (base : Nat) (t ty e : TypeId) (z : Value) (bytes : Nat) (h1 : P.underlying t = some (.slice e))
    (h2 : (P.info? e).map (fun i => (i.zero, i.size, i.bytes)) = some (some z, k, bytes)) (hz : z.cells.size = k) (b0 : Addr) (ad : Addr) (m c : Nat) (news : List α) (hm : news.length = m) (hpos : 0 < m)
    (hc : ∀ j u, (news.flatMap enc)[j]? = some u → w.cell? (ad.add j) = some u) (b1 : m ≤ 1000000) (b2 : bytes ≤ 1000) (hb : base ≤ w.heap.size) :
    ∃ v' w', (Builtin.append_ #[t, t] ty #[.slice (some b0) 0 0, .slice (some ad) m c]).run P w = .ok v' w' ∧ OwnK enc k e base v' news w' ∧ Below w.heap.size w w' := by
  obtain ⟨i, hi, hz0, hz1, hz2⟩ := info_parts h2
  have hlim : m * bytes ≤ 140737488355328 := Nat.le_trans (Nat.mul_le_mul b1 b2) (by decide)
  have hmax : m ≤ maxLen := Nat.le_trans b1 (by unfold maxLen; decide)
  have hfl : (news.flatMap enc).length = m * k := by rw [flat_len enc k hk, hm]
  have hr := run_append_grow (P := P) w t ty e i z h1 hi hz0 b0 0 0 [] (by simp) (fun j v hj => by simp at hj) ad m c (news.flatMap enc) (by rw [hfl, hz1]) hc (by omega) (by simp only [maxLen] at hmax; omega) (growslice_fits (by omega) (by rw [hz2]; simpa using hlim))
  simp only [Nat.zero_add] at hr
  have hge := grownCap_ge w m 0 e
  have hcm := grownCap_le_maxLen w m 0 e hmax
  refine ⟨_, _, hr, ⟨by rw [hfl, hm], .inr ⟨w.heap.size, _, _, by rw [hm], hb, heap_alloc_new w.drew _, by rw [hm]; exact hge, hcm, ?_, ?_⟩⟩, (Below.refl _ w).drew.alloc (Nat.le_refl _) _⟩
  · simp only [Array.size_append, List.size_toArray, List.length_nil, size_zeroCells, hz, hfl, Nat.zero_add, ← Nat.add_mul]
    congr 1
    omega
  · simp only [Array.toList_append, List.nil_append]
    rw [hm, ← hfl]
    exact List.take_left
theorem run_litQ (w : World) (base : Nat) (ty : TypeId) (g : Nat) (hown : OwnK encQ 3 36 base (.slice (some ⟨g, 0, none⟩) 0 0) [] w) (x : Value) (news : List Ms.Q) (hx : ReadQ x news w) (b1 : news.length ≤ 1000000) (hb : base ≤ w.heap.size) :
    ∃ v' w', (Builtin.append_ #[24, 24] ty #[.slice (some ⟨g, 0, none⟩) 0 0, x]).run Try.prog w = .ok v' w' ∧ OwnK encQ 3 36 base v' news w' ∧ Below w.heap.size w w' := by
  by_cases h0 : news = []
  · subst h0
    obtain ⟨ao, cap, rfl, hc⟩ := hx.form
    obtain ⟨i, hi, hz0, hz1, hz2⟩ := info_parts infoQ'
    refine ⟨_, _, ?_, hown, Below.refl _ w⟩
    cases ao with
    | none => exact run_append_nothing (P := Try.prog) w 24 24 ty 36 i Try.underlying24 hi _ 0 0 (Nat.le_refl _) _ (Src.ofNil w Try.underlying24 cap)
    | some ad => exact run_append_nothing (P := Try.prog) w 24 24 ty 36 i Try.underlying24 hi _ 0 0 (Nat.le_refl _) _ (Src.ofSlice _ Try.underlying24 ad 0 cap [] (by simp) (fun j v hj => by simp at hj) (by simp))
  · obtain ⟨ao, cap, rfl, hc⟩ := hx.form
    have hpos : 0 < news.length := List.length_pos_iff.2 h0
    obtain ⟨g2, off, e, _⟩ := hc 0 hpos
    cases e
    exact run_litk (P := Try.prog) encQ 3 encQ_len (by omega) encQ_one w base 24 ty 36 _ 32 Try.underlying24 infoQ' rfl _ ⟨g2, off, none⟩ news.length cap news rfl hpos (fun j u hj => readQ_cells ⟨_, cap, rfl, hc⟩ j u hj) b1 (by omega) hb
theorem wp_litQ {w : World} {o : Oper} {a : Act} {K : Act → World → Prop} {Q : Exit → Act → World → Prop} (s x : Operand) (hop : o.op = Op.call { callee := Callee.builtin Builtin.append, args := #[s, x], argTypes := #[24, 24] })
    (base g : Nat) (hs : a.eval s = .slice (some ⟨g, 0, none⟩) 0 0) (hown : OwnK encQ 3 36 base (.slice (some ⟨g, 0, none⟩) 0 0) [] w) (xv : Value) (news : List Ms.Q) (hx : a.eval x = xv) (hr : ReadQ xv news w) (b1 : news.length ≤ 1000000) (hb : base ≤ w.heap.size)
    (hK : ∀ v' w', OwnK encQ 3 36 base v' news w' → Below w.heap.size w w' → K (a.put o.dst v') w') : Oper.wp Try.prog o a w K Q := by
  obtain ⟨v', w', hrun, r1, r2⟩ := run_litQ w base o.type g hown xv news hr b1 hb
  unfold Oper.wp
  simp [execOp, hop, resolve, invoke, builtin, hs, hx, hrun, Result.andThen]
  exact hK v' w' r1 r2
end Go.Proofs.Ytdodamkndigjkaa
