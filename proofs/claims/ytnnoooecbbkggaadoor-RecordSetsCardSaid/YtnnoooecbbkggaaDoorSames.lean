/- RecordSame: its walk. -/
import Derived.Test.YtnnoooecbbkggaaDoorAwake
import Derived.Test.YtnnoooecbbkggaaDoorFormMath
import Derived.Test.YtnnoooecbbkggaaDoorRound
import Derived.Test.YtnnoooecbbkggaaDoorRValid
import Derived.Test.YtnnoooecbbkggaaDoorRSame
import Derived.RegionTactic
import Derived.BigRegion
namespace Go.Proofs.YtnnoooecbbkggaaDoor
open Go.RowKit Go.Shelf
attribute [local go_sem] Oper.semAt_some

namespace Nm
theorem small_small (c : UInt8) : small (small c) = small c := by
  by_cases h : 65 ≤ c.toNat ∧ c.toNat ≤ 90
  · have := small_yes h.1 h.2
    exact small_no (by omega)
  · rw [small_no h, small_no h]
theorem folded_folded (n : List UInt8) : folded (folded n) = folded n := by simp [folded, small_small]
theorem valid_folded {n : List UInt8} (h : valid n = true) : valid (folded n) = true := by
  obtain ⟨_, e, g, l⟩ := labs_of_valid h
  unfold valid
  rw [e, folded_made g, labs_iff.2 ⟨rfl, good_folded g, by rw [← folded_made g, ← e, folded_length]; exact l⟩]
  rfl
theorem fold_valid {n : List UInt8} (h : valid n = true) : valid (fold n) = true ∧ fold (fold n) = fold n := by
  have e : fold n = folded n := by unfold fold; rw [if_pos h]
  rw [e]
  refine ⟨valid_folded h, ?_⟩
  unfold fold; rw [if_pos (valid_folded h), folded_folded]
end Nm
namespace Rd
theorem foldData_name {t : Int} {l : List UInt8} (ht : t = 2 ∨ t = 5 ∨ t = 12) (h : Nm.valid l = true) : foldData t l = Nm.fold l := by
  unfold foldData
  rw [(partsD_some (parts_name ht h)).2]
  simp [foldP, fold1]
theorem same_yes {n to : List UInt8} {k x y : Int} (hk : k = 2 ∨ k = 5 ∨ k = 12) (hn : Nm.valid n = true) (ht : Nm.valid to = true) :
    sameR ⟨n, k, 1, x, to⟩ ⟨Nm.fold n, k, 1, y, Nm.fold to⟩ = true ∧ sameR ⟨Nm.fold n, k, 1, y, Nm.fold to⟩ ⟨n, k, 1, x, to⟩ = true := by
  obtain ⟨h1, h2⟩ := Nm.fold_valid hn
  obtain ⟨h3, h4⟩ := Nm.fold_valid ht
  rw [sameR_eq, sameR_eq]
  simp only [h2, foldData_name hk ht, foldData_name hk h3, h4, BEq.rfl, Bool.and_true]
  exact ⟨trivial, trivial⟩
theorem same_cls {a b : RR} (h : a.cls ≠ b.cls) : sameR a b = false := by
  rw [sameR_eq, beq_eq_false_iff_ne.2 h]; simp
theorem same_typ {a b : RR} (h : a.typ ≠ b.typ) : sameR a b = false := by
  rw [sameR_eq, beq_eq_false_iff_ne.2 h]; simp
end Rd
theorem with_world {P : Program} {c : Code} {K : Exit → Act → World → Prop} {a : Act} {W : World} (h : ∀ W', W' = W → Code.wp P c K a W') : Code.wp P c K a W := h W rfl
theorem Block.new' {W w : World} {cs : Array Value} {t : TypeId} (h : W = w.alloc (.cells cs t)) : Block W w.heap.size cs t := by subst h; exact Block.new w cs t
theorem Block.alloc' {W w : World} {B : Nat} {cs : Array Value} {t : TypeId} (hb : Block w B cs t) {o : Obj} (h : W = w.alloc o) : Block W B cs t := by subst h; exact hb.alloc o
theorem below_alloc' {n : Nat} {w0 w W : World} (hb : Below n w0 w) {o : Obj} (h : W = w.alloc o) (hn : n ≤ w.heap.size) : Below n w0 W := by subst h; exact hb.alloc hn o
theorem calls_with {P : Program} {f : FuncId} {args : Array Value} {W : World} {R : Ending → World → Prop} (h : ∀ V, V = W → Calls P f args V R) : Calls P f args W R := h W rfl
theorem blk_first {V W : World} {c1 : Array Value} {t1 : TypeId} {o2 : Obj} (h : V = ((W.alloc (.cells c1 t1)).alloc o2).drew) : Block V W.heap.size c1 t1 := by
  subst h
  exact ((Block.new W c1 t1).alloc o2 : Block ((W.alloc (.cells c1 t1)).alloc o2) _ _ _)
theorem blk_second {V W : World} {c2 : Array Value} {t2 : TypeId} {o1 : Obj} (h : V = ((W.alloc o1).alloc (.cells c2 t2)).drew) : Block V (W.heap.size + 1) c2 t2 := by
  subst h
  have := Block.new (W.alloc o1) c2 t2
  rw [World.size_alloc] at this
  exact this
theorem blk_old {V W : World} {B : Nat} {cs : Array Value} {t : TypeId} {o1 o2 : Obj} (hb : Block W B cs t) (h : V = ((W.alloc o1).alloc o2).drew) : Block V B cs t := by
  subst h
  exact ((hb.alloc o1).alloc o2 : Block ((W.alloc o1).alloc o2) _ _ _)
theorem below_old {n : Nat} {w0 V W : World} {o1 o2 : Obj} (hb : Below n w0 W) (h : V = ((W.alloc o1).alloc o2).drew) (hn : n ≤ W.heap.size) : Below n w0 V := by
  subst h
  exact ((hb.alloc hn o1).alloc (by simp; omega) o2).drew
theorem readTwo (W : World) (a b : Rd.RR) (t : TypeId) {B : Nat} (hB : W.heap.size = B) : ReadR (.slice (some ⟨B, 0, none⟩) 2 2) [a, b] (W.alloc (.cells #[.string ⟨a.name.toArray⟩, .int .i64 a.typ, .int .i64 a.cls, .int .i64 a.ttl, .string ⟨a.data.toArray⟩, .string ⟨b.name.toArray⟩, .int .i64 b.typ, .int .i64 b.cls, .int .i64 b.ttl, .string ⟨b.data.toArray⟩] t)) := by
  subst hB
  have h := readR_new W [a, b] t 2
  have e : ([a, b].flatMap encRR).toArray = #[.string ⟨a.name.toArray⟩, .int .i64 a.typ, .int .i64 a.cls, .int .i64 a.ttl, .string ⟨a.data.toArray⟩, .string ⟨b.name.toArray⟩, .int .i64 b.typ, .int .i64 b.cls, .int .i64 b.ttl, .string ⟨b.data.toArray⟩] := by simp [encRR]
  rw [e] at h
  exact h
theorem readOne (W : World) (a : Rd.RR) (t : TypeId) {B : Nat} (hB : W.heap.size = B) : ReadR (.slice (some ⟨B, 0, none⟩) 1 1) [a] (W.alloc (.cells #[.string ⟨a.name.toArray⟩, .int .i64 a.typ, .int .i64 a.cls, .int .i64 a.ttl, .string ⟨a.data.toArray⟩] t)) := by
  subst hB
  have h := readR_new W [a] t 1
  have e : ([a].flatMap encRR).toArray = #[.string ⟨a.name.toArray⟩, .int .i64 a.typ, .int .i64 a.cls, .int .i64 a.ttl, .string ⟨a.data.toArray⟩] := by simp [encRR]
  rw [e] at h
  exact h

set_option maxRecDepth 100000 in
set_option maxHeartbeats 16000000 in
theorem sames_any (n to : List UInt8) (ttl t : Int) (w : World) (hn : n.length ≤ 9223372036854775807) (hto : to.length ≤ 9223372036854775807)
    (hl0 : -9223372036854775808 ≤ ttl) (hl1 : ttl ≤ 9223372036854775807) (ht0 : -9223372036854775808 ≤ t) (ht1 : t ≤ 9223372036854775807) (hv : VarsOk w) :
    Calls Tryd.prog 5 #[.string ⟨n.toArray⟩, .string ⟨to.toArray⟩, .int .i64 ttl, .int .i64 t] w fun e w' => e = .returned (.bool true) ∧ Below w.heap.size w w' := by
  by_cases hg : 100 < n.length ∨ 100 < to.length
  · have hcase : 100 < n.length ∨ (n.length ≤ 100 ∧ 100 < to.length) := by omega
    clear hg
    rcases hcase with g1 | ⟨g1, g2⟩
    all_goals
      go_enter Tryd.func5, Tryd.ntmps5
      go_wp2_with (go_at_call 9; refine (awake_any _ hv).mono ?_; rintro e w1 ⟨rfl, b1⟩)
      go_ret
      exact ⟨rfl, b1⟩
  have g1 : n.length ≤ 100 := by omega
  have g2 : to.length ≤ 100 := by omega
  clear hg
  have hV1 := fun W => rvalid_any n W (by omega)
  have hV2 := fun W => rvalid_any to W (by omega)
  cases hvn : Nm.valid n
  · rw [hvn] at hV1
    go_enter Tryd.func5, Tryd.ntmps5
    go_wp2_with (first
      | (go_at_call 35; refine (hV1 _).mono ?_; rintro e w1 ⟨rfl, b1⟩)
      | (go_at_call 9; refine (awake_any _ (hv.below b1)).mono ?_; rintro e w2 ⟨rfl, b2⟩))
    go_ret
    exact ⟨rfl, below_trans b1 b2⟩
  rw [hvn] at hV1
  cases hvt : Nm.valid to
  · rw [hvt] at hV2
    have HV1 := Lib.hid hV1
    have HV2 := Lib.hid hV2
    clear hV1 hV2
    go_enter Tryd.func5, Tryd.ntmps5
    go_wp2_with (go_at_call 35; refine (HV1.out _).mono ?_; rintro e w1 ⟨rfl, b1⟩; refine Hid.out ?_)
    refine Lib.hid ?_
    go_wp2_with (go_at_call 35; refine (HV2.out _).mono ?_; rintro e w2 ⟨rfl, b2⟩; replace b2 := below_trans b1 b2; refine Hid.out ?_)
    refine Lib.hid ?_
    go_wp2_with (go_at_call 9; refine (awake_any _ (hv.below b2)).mono ?_; rintro e w3 ⟨rfl, b3⟩; replace b3 := below_trans b2 b3; refine Hid.out ?_)
    refine Lib.hid ?_
    go_wp2
    go_ret
    exact ⟨rfl, b3⟩
  rw [hvt] at hV2
  obtain ⟨hr0, hr1⟩ := roundI_bounds t 3 (by omega)
  have hro := fun W => round_any t 3 W (by omega) (by omega) ht0 ht1
  obtain ⟨r, hr⟩ : ∃ r, roundI t 3 = r := ⟨_, rfl⟩
  rw [hr] at hro hr0 hr1
  obtain ⟨k, hk, hcase⟩ : ∃ k : Int, (k = 2 ∨ k = 5 ∨ k = 12) ∧ ((r = 0 ∧ k = 2) ∨ (r = 1 ∧ k = 5) ∨ (r = 2 ∧ k = 12)) := by
    have : r = 0 ∨ r = 1 ∨ r = 2 := by omega
    rcases this with rfl | rfl | rfl
    · exact ⟨2, by omega, by omega⟩
    · exact ⟨5, by omega, by omega⟩
    · exact ⟨12, by omega, by omega⟩
  have f1 := fun W => rfold_any n W (by omega)
  have f2 := fun W => rfold_any to W (by omega)
  obtain ⟨s1, s2⟩ := Rd.same_yes (x := 0) (y := ttl) hk hvn hvt
  have hml := Rd.fold_len n
  have hol := Rd.fold_len to
  obtain ⟨m, hm⟩ : ∃ m, Nm.fold n = m := ⟨_, rfl⟩
  obtain ⟨o, ho⟩ : ∃ m, Nm.fold to = m := ⟨_, rfl⟩
  rw [hm] at f1 s1 s2 hml
  rw [ho] at f2 s1 s2 hol
  have s3 : Rd.sameR ⟨n, k, 1, 0, to⟩ ⟨m, k, 3, ttl, o⟩ = false := Rd.same_cls (by simp)
  have s4 : Rd.sameR ⟨n, k, 1, 0, to⟩ ⟨m, 16, 1, ttl, o⟩ = false := Rd.same_typ (show k ≠ 16 by omega)
  have s7 : Rd.sameR ⟨m, k, 1, ttl, o⟩ ⟨m, k, 3, ttl, o⟩ = false := Rd.same_cls (by simp)
  have fA : Fine ⟨n, k, 1, 0, to⟩ := ⟨show n.length ≤ 100000 by omega, show to.length ≤ 100000 by omega, ⟨show _ ≤ k by omega, show k ≤ _ by omega⟩, by simp, by simp⟩
  have fB : Fine ⟨m, k, 1, ttl, o⟩ := ⟨show m.length ≤ 100000 by omega, show o.length ≤ 100000 by omega, ⟨show _ ≤ k by omega, show k ≤ _ by omega⟩, by simp, ⟨hl0, hl1⟩⟩
  have fC : Fine ⟨m, k, 3, ttl, o⟩ := ⟨show m.length ≤ 100000 by omega, show o.length ≤ 100000 by omega, ⟨show _ ≤ k by omega, show k ≤ _ by omega⟩, by simp, ⟨hl0, hl1⟩⟩
  have s5 : Rd.sameSet [⟨n, k, 1, 0, to⟩, ⟨n, k, 1, 0, to⟩] [⟨m, k, 1, ttl, o⟩] = true := by simp [Rd.sameSet, s1, s2]
  have s6 : Rd.sameSet [⟨n, k, 1, 0, to⟩, ⟨m, k, 3, ttl, o⟩] [⟨m, k, 1, ttl, o⟩] = false := by simp [Rd.sameSet, s7]
  have cAB := fun W => same_any ⟨n, k, 1, 0, to⟩ ⟨m, k, 1, ttl, o⟩ W fA.name fA.data fB.name fB.data
  have cBA := fun W => same_any ⟨m, k, 1, ttl, o⟩ ⟨n, k, 1, 0, to⟩ W fB.name fB.data fA.name fA.data
  have cAC := fun W => same_any ⟨n, k, 1, 0, to⟩ ⟨m, k, 3, ttl, o⟩ W fA.name fA.data fC.name fC.data
  have cAD := fun W => same_any ⟨n, k, 1, 0, to⟩ ⟨m, 16, 1, ttl, o⟩ W fA.name fA.data fB.name fB.data
  have cS1 := fun W sa sb ha hb => sameSet_any [⟨n, k, 1, 0, to⟩, ⟨n, k, 1, 0, to⟩] [⟨m, k, 1, ttl, o⟩] sa sb W ha hb (by intro r hr; simp only [List.mem_cons, List.not_mem_nil, or_false, or_self] at hr; rw [hr]; exact fA) (by intro r hr; simp only [List.mem_cons, List.not_mem_nil, or_false] at hr; rw [hr]; exact fB) (by simp) (by simp)
  have cS2 := fun W sa sb ha hb => sameSet_any [⟨n, k, 1, 0, to⟩, ⟨m, k, 3, ttl, o⟩] [⟨m, k, 1, ttl, o⟩] sa sb W ha hb (by intro r hr; simp only [List.mem_cons, List.not_mem_nil, or_false] at hr; rcases hr with hr | hr <;> rw [hr]; exact fA; exact fC) (by intro r hr; simp only [List.mem_cons, List.not_mem_nil, or_false] at hr; rw [hr]; exact fB) (by simp) (by simp)
  rw [s1] at cAB
  rw [s2] at cBA
  rw [s3] at cAC
  rw [s4] at cAD
  rw [s5] at cS1
  rw [s6] at cS2
  unfold rrV at cAB cBA cAC cAD
  simp only at cAB cBA cAC cAD
  clear s1 s2 s3 s4 s5 s6 s7 fA fB fC hr hm ho hk hvn hvt
  have Hf1 := Lib.hid f1
  have Hf2 := Lib.hid f2
  have HcAB := Lib.hid cAB
  have HcBA := Lib.hid cBA
  have HcAC := Lib.hid cAC
  have HcAD := Lib.hid cAD
  have HcS1 := Lib.hid cS1
  have HcS2 := Lib.hid cS2
  have HhV1 := Lib.hid hV1
  have HhV2 := Lib.hid hV2
  have Hhro := Lib.hid hro
  clear f1 f2 cAB cBA cAC cAD cS1 cS2 hV1 hV2 hro
  rcases hcase with ⟨rfl, rfl⟩ | ⟨rfl, rfl⟩ | ⟨rfl, rfl⟩
  all_goals
    go_enter Tryd.func5, Tryd.ntmps5
    go_wp2_with (go_at_call 35; refine (HhV1.out _).mono ?_; rintro e w1 ⟨rfl, b1⟩; refine Hid.out ?_)
    refine Lib.hid ?_
    go_wp2_with (go_at_call 35; refine (HhV2.out _).mono ?_; rintro e w2 ⟨rfl, b2⟩; replace b2 := below_trans b1 b2; clear b1; refine Hid.out ?_)
    refine Lib.hid ?_
    go_wp2_with fail
    refine (Hhro.out _).mono ?_
    rintro e w3 ⟨rfl, rfl⟩
    go_wp2_with fail
    refine (Hf1.out _).mono ?_
    rintro e w3 ⟨rfl, b3⟩
    have k1 := (Block.new (w2.alloc (.cells #[.int .i64 2, .int .i64 5, .int .i64 12] 3)) _ 23).below b3
    replace b3 := ((b2.alloc b2.size _).alloc (by have := b2.size; simp; omega) _).trans (b3.mono (by have := b2.size; simp; omega))
    simp only [World.size_alloc] at k1
    clear b2
    generalize w2.heap.size + 1 = B1 at k1 ⊢
    go_wp2_with fail
    refine (Hf2.out _).mono ?_
    rintro e w4 ⟨rfl, b4⟩
    replace k1 := k1.below b4
    replace b4 := below_trans b3 b4
    clear b3
    go_wp2_with fail
    refine with_world ?_
    intro W hW
    replace k1 := k1.alloc' hW
    have k2 := Block.new' hW
    replace b4 := below_alloc' b4 hW b4.size
    clear hW
    have q0 := k2.cell (i := 0) rfl
    have q1 := k2.cell (i := 1) rfl
    have q2 := k2.cell (i := 2) rfl
    have q3 := k2.cell (i := 3) rfl
    have q4 := k2.cell (i := 4) rfl
    have lq := k2.lt
    have lp := k1.lt
    have p0 := k1.cell (i := 0) rfl
    have p1 := k1.cell (i := 1) rfl
    have p2 := k1.cell (i := 2) rfl
    have p3 := k1.cell (i := 3) rfl
    have p4 := k1.cell (i := 4) rfl
    go_region
    all_goals go_wp2_with fail
    all_goals refine calls_with ?_
    all_goals intro V hV
    all_goals clear lp p0 p1 p2 p3 p4 lq q0 q1 q2 q3 q4
    all_goals have kx := blk_first hV
    all_goals have ky := blk_second hV
    all_goals replace k1 := blk_old k1 hV
    all_goals replace k2 := blk_old k2 hV
    all_goals replace b4 := below_old b4 hV b4.size
    all_goals clear hV
    all_goals refine (HcAB.out _).mono ?_
    all_goals rintro e w5 ⟨rfl, b5⟩
    all_goals
      replace k1 := k1.below b5
      replace k2 := k2.below b5
      replace kx := kx.below b5
      replace ky := ky.below b5
      replace b5 := below_trans b4 b5
      clear b4
      have lp := k1.lt
      have p0 := k1.cell (i := 0) rfl
      have p1 := k1.cell (i := 1) rfl
      have p2 := k1.cell (i := 2) rfl
      have p3 := k1.cell (i := 3) rfl
      have p4 := k1.cell (i := 4) rfl
      have lq := k2.lt
      have q0 := k2.cell (i := 0) rfl
      have q1 := k2.cell (i := 1) rfl
      have q2 := k2.cell (i := 2) rfl
      have q3 := k2.cell (i := 3) rfl
      have q4 := k2.cell (i := 4) rfl
      go_wp2_with fail
      refine (HcBA.out _).mono ?_
      rintro e w6 ⟨rfl, b6⟩
      clear lp p0 p1 p2 p3 p4
      clear lq q0 q1 q2 q3 q4
      replace k1 := k1.below b6
      replace k2 := k2.below b6
      replace kx := kx.below b6
      replace ky := ky.below b6
      replace b6 := below_trans b5 b6
      clear b5
      have lp := k1.lt
      have p0 := k1.cell (i := 0) rfl
      have p1 := k1.cell (i := 1) rfl
      have p2 := k1.cell (i := 2) rfl
      have p3 := k1.cell (i := 3) rfl
      have p4 := k1.cell (i := 4) rfl
      have lx := kx.lt
      have x0 := kx.cell (i := 0) rfl
      have x1 := kx.cell (i := 1) rfl
      have x2 := kx.cell (i := 2) rfl
      have x3 := kx.cell (i := 3) rfl
      have x4 := kx.cell (i := 4) rfl
      have ly := ky.lt
      have y0 := ky.cell (i := 0) rfl
      have y1 := ky.cell (i := 1) rfl
      have y2 := ky.cell (i := 2) rfl
      have y3 := ky.cell (i := 3) rfl
      have y4 := ky.cell (i := 4) rfl
      go_wp2_with fail
      refine (HcAC.out _).mono ?_
      rintro e w7 ⟨rfl, b7⟩
      clear lp p0 p1 p2 p3 p4
      clear lx x0 x1 x2 x3 x4
      clear ly y0 y1 y2 y3 y4
      replace k1 := k1.below b7
      replace k2 := k2.below b7
      replace kx := kx.below b7
      replace ky := ky.below b7
      replace b7 := below_trans b6 b7
      clear b6
      have lp := k1.lt
      have p0 := k1.cell (i := 0) rfl
      have p1 := k1.cell (i := 1) rfl
      have p2 := k1.cell (i := 2) rfl
      have p3 := k1.cell (i := 3) rfl
      have p4 := k1.cell (i := 4) rfl
      have lx := kx.lt
      have x0 := kx.cell (i := 0) rfl
      have x1 := kx.cell (i := 1) rfl
      have x2 := kx.cell (i := 2) rfl
      have x3 := kx.cell (i := 3) rfl
      have x4 := kx.cell (i := 4) rfl
      have ly := ky.lt
      have y0 := ky.cell (i := 0) rfl
      have y1 := ky.cell (i := 1) rfl
      have y2 := ky.cell (i := 2) rfl
      have y3 := ky.cell (i := 3) rfl
      have y4 := ky.cell (i := 4) rfl
      go_wp2_with fail
      refine (HcAD.out _).mono ?_
      rintro e w8 ⟨rfl, b8⟩
      clear lp p0 p1 p2 p3 p4
      clear lx x0 x1 x2 x3 x4
      clear ly y0 y1 y2 y3 y4
      replace k1 := k1.below b8
      replace k2 := k2.below b8
      replace kx := kx.below b8
      replace ky := ky.below b8
      replace b8 := below_trans b7 b8
      clear b7
      have lp := k1.lt
      have p0 := k1.cell (i := 0) rfl
      have p1 := k1.cell (i := 1) rfl
      have p2 := k1.cell (i := 2) rfl
      have p3 := k1.cell (i := 3) rfl
      have p4 := k1.cell (i := 4) rfl
      have lq := k2.lt
      have q0 := k2.cell (i := 0) rfl
      have q1 := k2.cell (i := 1) rfl
      have q2 := k2.cell (i := 2) rfl
      have q3 := k2.cell (i := 3) rfl
      have q4 := k2.cell (i := 4) rfl
      go_wp2_with fail
      refine (HcS1.out _ _ _ (readR_below (readTwo w8 _ _ _ rfl) ((Below.refl _ _).alloc (Nat.le_refl _) _)) (readOne _ _ _ (World.size_alloc _ _))).mono ?_
      rintro e w9 ⟨rfl, b9⟩
      clear lp p0 p1 p2 p3 p4
      clear lq q0 q1 q2 q3 q4
      have b89 := (((Below.refl _ w8).alloc (Nat.le_refl _) _).alloc (by simp) _).trans (b9.mono (by simp; omega))
      clear b9
      replace k1 := k1.below b89
      replace k2 := k2.below b89
      replace kx := kx.below b89
      replace ky := ky.below b89
      have b9 := below_trans b8 b89
      clear b8 b89
      have lp := k1.lt
      have p0 := k1.cell (i := 0) rfl
      have p1 := k1.cell (i := 1) rfl
      have p2 := k1.cell (i := 2) rfl
      have p3 := k1.cell (i := 3) rfl
      have p4 := k1.cell (i := 4) rfl
      have lq := k2.lt
      have q0 := k2.cell (i := 0) rfl
      have q1 := k2.cell (i := 1) rfl
      have q2 := k2.cell (i := 2) rfl
      have q3 := k2.cell (i := 3) rfl
      have q4 := k2.cell (i := 4) rfl
      have lx := kx.lt
      have x0 := kx.cell (i := 0) rfl
      have x1 := kx.cell (i := 1) rfl
      have x2 := kx.cell (i := 2) rfl
      have x3 := kx.cell (i := 3) rfl
      have x4 := kx.cell (i := 4) rfl
      have ly := ky.lt
      have y0 := ky.cell (i := 0) rfl
      have y1 := ky.cell (i := 1) rfl
      have y2 := ky.cell (i := 2) rfl
      have y3 := ky.cell (i := 3) rfl
      have y4 := ky.cell (i := 4) rfl
      go_wp2_with fail
      refine (HcS2.out _ _ _ (readR_below (readTwo w9 _ _ _ rfl) ((Below.refl _ _).alloc (Nat.le_refl _) _)) (readOne _ _ _ (World.size_alloc _ _))).mono ?_
      rintro e w10 ⟨rfl, b10⟩
      clear lp p0 p1 p2 p3 p4
      clear lq q0 q1 q2 q3 q4
      clear lx x0 x1 x2 x3 x4
      clear ly y0 y1 y2 y3 y4
      have b910 := (((Below.refl _ w9).alloc (Nat.le_refl _) _).alloc (by simp) _).trans (b10.mono (by simp; omega))
      have b11 := below_trans b9 b910
      go_wp2_with fail
      refine (awake_any _ (hv.below b11)).mono ?_
      rintro e w12 ⟨rfl, b12⟩
      replace b12 := below_trans b11 b12
      go_wp2
      go_ret
      exact ⟨rfl, b12⟩
end Go.Proofs.YtnnoooecbbkggaaDoor
