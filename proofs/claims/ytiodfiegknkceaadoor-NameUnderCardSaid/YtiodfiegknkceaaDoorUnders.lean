/- NameUnder: its walk. -/
import Derived.Test.YtiodfiegknkceaaDoorCommonMath
import Derived.Test.YtiodfiegknkceaaDoorShort
import Derived.Test.YtiodfiegknkceaaDoorRLabels
import Derived.Test.YtiodfiegknkceaaDoorFrame
import Derived.Deep.AppendSrc
import Derived.Deep.Upon
namespace Go.Proofs.YtiodfiegknkceaaDoor
open Go.RowKit Go.Shelf
attribute [local go_sem] Oper.semAt_some

theorem apd_refl {base : Nat} {v : Value} {ne : Prop} (w : World) : Apd base v ne w w :=
  ⟨Below.refl _ _, KeepsOthers.refl w, fun _ _ _ _ h => h, fun _ _ _ h => h⟩
theorem readS_apd {x v : Value} {L : List (List UInt8)} {w0 w w' : World} {base k : Nat} {ne : Prop} (h : ReadS x L w0) (hb : Below w0.heap.size w0 w) (ha : Apd base v ne w w') (hv : v.ownBlock = some k) (hk : w0.heap.size ≤ k) : ReadS x L w' := by
  obtain ⟨ao, cap, rfl, hc⟩ := h.form
  refine ⟨ao, cap, rfl, fun j hj => ?_⟩
  obtain ⟨b, off, e, c⟩ := hc j hj
  refine ⟨b, off, e, ?_⟩
  have hlt : b < w0.heap.size := cell_lt c
  have c1 : w.cell? ⟨b, off + j, none⟩ = some (encS L[j]) := (hb.cell hlt).trans c
  cases ho : w.heap[b]? with
  | none => simp [World.cell?, ho] at c1
  | some o =>
    have ho' := ha.other b o (by rw [hv]; intro e2; cases e2; omega) ho
    unfold World.cell? at c1 ⊢
    rw [ho] at c1
    rw [ho']
    exact c1
/-- append of what lies in a slice that is read. -/
theorem run_apdR {P : Program} (w : World) (base : Nat) (t ty e : TypeId) (h1 : P.underlying t = some (.slice e))
    (h2 : (P.info? e).map (fun i => (i.zero, i.size, i.bytes)) = some (some (.string ⟨#[]⟩), 1, 16)) (v : Value) (l : List (List UInt8)) (hown : OwnE encS e base v l w) (x : Value) (news : List (List UInt8)) (hx : ReadS x news w)
    (b1 : l.length + news.length ≤ 1000000) (hb : base ≤ w.heap.size) :
    ∃ v' w', (Builtin.append_ #[t, t] ty #[v, x]).run P w = .ok v' w' ∧ OwnE encS e base v' (l ++ news) w' ∧ Apd base v (l ≠ []) w w' := by
  obtain ⟨ao, cap, rfl, hc⟩ := hx.form
  cases ao with
  | none =>
    have hn : news = [] := by
      cases news with
      | nil => rfl
      | cons a l2 => obtain ⟨_, _, e, _⟩ := hc 0 (by simp); cases e
    subst hn
    obtain ⟨i, hi, hz0, hz1, hz2⟩ := info_parts h2
    have hform : ∃ ao n c, v = .slice ao n c ∧ n ≤ c := by
      rcases hown.2 with ⟨rfl, hn⟩ | ⟨g, cap', cur, rfl, _, _, hle, _⟩
      · exact ⟨none, 0, 0, rfl, Nat.le_refl _⟩
      · exact ⟨_, _, _, rfl, hle⟩
    obtain ⟨ao, n, c, rfl, hle⟩ := hform
    exact ⟨_, _, run_append_nothing (P := P) w t t ty e i h1 hi ao n c hle _ (Src.ofNil w h1 cap), by rw [List.append_nil]; exact hown, apd_refl w⟩
  | some ad =>
    obtain ⟨v', w', hr, ho, ha, _⟩ := run_apd (P := P) encS encS_one w base t ty e (.string ⟨#[]⟩) 16 h1 h2 rfl v l hown ad news.length cap news rfl (fun j u hj => by
      rw [List.getElem?_map] at hj
      obtain ⟨y, hy, rfl⟩ := Option.map_eq_some_iff.1 hj
      obtain ⟨hj', rfl⟩ := List.getElem?_eq_some_iff.1 hy
      obtain ⟨b, off, e, c⟩ := hc j hj'
      cases e
      have e2 : (⟨b, off, none⟩ : Addr).add j = ⟨b, off + j, none⟩ := by unfold Addr.add; split <;> simp_all
      rw [e2]; exact c) b1 (by omega) hb
    exact ⟨v', w', hr, ho, ha⟩
theorem wpListIn_apdR {P : Program} {F : Fence} {n : Nat} (w : World) {ops : Array Oper} {rest : List Oper} {o : Oper} {a : Act} {Q : Exit → Act → World → Prop} (hg : o.guard = none) (s x : Operand) (t : TypeId)
    (hop : o.op = Op.call { callee := Callee.builtin Builtin.append, args := #[s, x], argTypes := #[t, t] })
    (base : Nat) (e : TypeId) (h1 : P.underlying t = some (.slice e))
    (h2 : (P.info? e).map (fun i => (i.zero, i.size, i.bytes)) = some (some (.string ⟨#[]⟩), 1, 16)) (v : Value) (l : List (List UInt8)) (hs : a.eval s = v) (hown : OwnE encS e base v l w) (xv : Value) (news : List (List UInt8)) (hx : a.eval x = xv) (hr : ReadS xv news w)
    (b1 : l.length + news.length ≤ 1000000) (hb : base ≤ w.heap.size)
    (hK : ∀ v' w', OwnE encS e base v' (l ++ news) w' → Apd base v (l ≠ []) w w' → wpListIn F n P ops Q rest (a.put o.dst v') w') :
    wpListIn F n P ops Q (o :: rest) a w := by
  refine wpListIn_plain hg fun K hK' => ?_
  obtain ⟨v', w', hrun, r1, r2⟩ := run_apdR (P := P) w base t o.type e h1 h2 v l hown xv news hr b1 hb
  unfold Oper.wpIn
  refine ⟨?_, ?_⟩
  · simp [Oper.about, hop, resolve, Target.leads, Sem.run_pure]
  · rw [Oper.semAt_plain F _ _ (by rw [hop]; intro c hc'; cases hc')]
    simp [execOp, hop, resolve, invoke, builtin, hs, hx, hrun, Result.andThen]
    exact hK' _ _ (hK v' w' r1 r2)

set_option maxRecDepth 100000 in
set_option maxHeartbeats 4000000 in
theorem unders_any (n : List UInt8) (more : List (List UInt8)) (sv : Value) (w : World) (hn : n.length ≤ 9223372036854775807) (hr : ReadS sv more w) (hlen : more.length ≤ 9223372036854775807) (hl : ∀ l ∈ more, l.length ≤ 9223372036854775807) (hv : VarsOk w) :
    Calls Tryd.prog 8 #[.string ⟨n.toArray⟩, sv] w fun e w' => e = .returned (.bool true) ∧ Below w.heap.size w w' := by
  obtain ⟨xv, hxv⟩ : ∃ x, Nm.valid n = x := ⟨_, rfl⟩
  obtain ⟨xs, hxs⟩ : ∃ x, decide ((Nm.encL more : Int) ≤ 200) = x := ⟨_, rfl⟩
  have HXV := Lib.hid hxv
  have HXS := Lib.hid hxs
  have HLM := Lib.hid hl
  clear hl
  by_cases hg : 200 < n.length ∨ xv = false ∨ xs = false
  · have hg' : 200 < n.length ∨ (n.length ≤ 200 ∧ xv = false) ∨ (n.length ≤ 200 ∧ xv = true ∧ xs = false) := by
      by_cases g1 : 200 < n.length
      · exact .inl g1
      · cases xv
        · exact .inr (.inl ⟨by omega, rfl⟩)
        · cases xs
          · exact .inr (.inr ⟨by omega, rfl, rfl⟩)
          · simp at hg; omega
    clear hg hxv hxs
    rcases hg' with g1 | ⟨g1, rfl⟩ | ⟨g1, rfl, rfl⟩
    all_goals
      go_enter Tryd.func8, Tryd.ntmps8
      go_wp2_with (first
        | (go_at_call 15; refine (valid_any n _ (by omega)).mono ?_; rw [HXV.out]; rintro e w' ⟨rfl, rfl⟩)
        | (go_at_call 25; refine (short_any more sv 200 _ hr hlen HLM.out (by omega)).mono ?_; rw [HXS.out]; rintro e w' ⟨rfl, rfl⟩)
        | (go_at_call 11; refine (awake_any _ hv).mono ?_; rintro e w1 ⟨rfl, b1⟩))
      go_ret
      exact ⟨rfl, b1⟩
  have g1 : n.length ≤ 200 := by omega
  obtain rfl : xv = true := by cases xv <;> simp_all
  obtain rfl : xs = true := by cases xs <;> simp_all
  have hs200 : Nm.encL more ≤ 200 := by rw [decide_eq_true_eq] at hxs; omega
  have hm200 : more.length ≤ 200 := Nat.le_trans Nm.length_le_encL hs200
  have HLL : Hid (∀ l ∈ more ++ Nm.labsD n, l.length ≤ 100000) := Lib.hid (fun l hl => by
    rcases List.mem_append.1 hl with h | h
    · have := Nm.encL_mem h; omega
    · have := (Nm.labsD_good n l h).2; omega)
  have hL255 := Nm.labsD_len n
  have HK := Lib.hid (fun (o : List UInt8) (h : Nm.join (more ++ Nm.labsD n) = some o) => Nm.ahead hxv h)
  clear hg hxs hxv
  obtain ⟨ao2, cap2, rfl, junk⟩ := hr.form
  clear junk
  refine (callsIn_wide (n := 9)).1 ?_
  refine callsIn_of_wp Tryd.func8 rfl trivial ?_ rfl
  simp only [Tryd.ntmps8, List.size_toArray, List.length_cons, List.length_nil, Nat.reduceAdd, Nat.reduceSub, Array.replicate_succ, Array.replicate_zero, List.push_toArray, List.append_toArray, List.nil_append, List.cons_append]
  have hF1 : Fence.wide.fn 15 := trivial
  have hF2 : Fence.wide.fn 25 := trivial
  have hF3 : Fence.wide.fn 12 := trivial
  have hF4 : Fence.wide.fn 26 := trivial
  have hF5 : Fence.wide.fn 11 := trivial
  have hF6 : Fence.wide.fn 30 := trivial
  have hF7 : Fence.wide.fn 18 := trivial
  have hF8 : Fence.wide.fn 34 := trivial
  have hF9 : Fence.wide.fn 32 := trivial
  have hF10 : Fence.wide.fn 21 := trivial
  gi_wp2_with (first
    | (gi_at_call 15; refine (callsIn_wide.2 (valid_any n _ (by omega))).mono ?_; rw [HXV.out]; rintro e w' ⟨rfl, rfl⟩)
    | (gi_at_call 25; refine (callsIn_wide.2 (short_any more _ 200 _ hr hlen HLM.out (by omega))).mono ?_; rw [HXS.out]; rintro e w' ⟨rfl, rfl⟩)
    | (gi_at_call 12; refine (callsIn_wide.2 (rlabels_any n _ (by omega))).mono ?_; rintro e w4 ⟨v, L, rfl, ho, b4, hL, _⟩; replace hL := hL HXV.out; rw [HXV.out]; subst hL; refine Hid.out ?_))
  refine Lib.hid ?_
  obtain ⟨ao, cap, rfl, _⟩ := own_slice ho
  have ho1 := World.ownsRow_lit (base := w.heap.size) (e := 9) (size := 1) w4 #[] 0 b4.size (by simp) rfl
  replace ho1 : OwnE encS 9 w.heap.size (.slice (some ⟨w4.heap.size, 0, none⟩) 0 0) [] (w4.alloc (.cells #[] 9)) := ho1
  have hr1 := readS_below (readS_below hr b4) ((Below.refl _ w4).alloc (Nat.le_refl _) (.cells #[] 9))
  have hv1 := readS_below (ownS_read ho) ((Below.refl _ w4).alloc (Nat.le_refl _) (.cells #[] 9))
  have hb1 := b4.alloc b4.size (.cells #[] 9)
  gi_wp2_with (gi_at_builtin; refine wpListIn_apdR _ rfl _ _ 23 rfl w.heap.size 9 Tryd.underlying23 infoStr _ [] rfl ho1 _ more rfl hr1 (by simp; omega) hb1.size ?_; intro v6 w6 ho6 ha6; refine Hid.out ?_)
  refine Lib.hid ?_
  rw [List.nil_append] at ho6
  have hv6 := readS_apd (ownS_read ho) ((Below.refl _ w4).alloc (Nat.le_refl _) (.cells #[] 9)) ha6 (k := w4.heap.size) rfl (Nat.le_refl _)
  have hb6 := hb1.trans ha6.below
  gi_wp2_with (gi_at_builtin; refine wpListIn_apdR _ rfl _ _ 23 rfl w.heap.size 9 Tryd.underlying23 infoStr _ more rfl ho6 _ (Nm.labsD n) rfl hv6 (by omega) hb6.size ?_; intro v7 w7 ho7 ha7; refine Hid.out ?_)
  refine Lib.hid ?_
  have hb7 := hb6.trans ha7.below
  have hr7 := ownS_read ho7
  obtain ⟨jr, hjr⟩ : ∃ jr, joinRet (more ++ Nm.labsD n) = jr := ⟨_, rfl⟩
  gi_wp2_with (gi_at_call 26; refine (callsIn_wide.2 (join_any _ _ _ hr7 (by simp; omega) HLL.out)).mono ?_; rintro e w8 ⟨rfl, b8⟩; refine Hid.out ?_)
  refine Lib.hid ?_
  have bb := below_trans hb7 b8
  cases hj : Nm.join (more ++ Nm.labsD n) with
  | none =>
    rw [joinRet_none hj] at hjr
    subst hjr
    clear hj
    gi_wp2_with (gi_at_call 11; refine (callsIn_wide.2 (awake_any _ (hv.below bb))).mono ?_; rintro e w9 ⟨rfl, b9⟩)
    go_ret
    exact ⟨rfl, below_trans bb b9⟩
  | some o =>
    rw [joinRet_some hj] at hjr
    subst hjr
    obtain ⟨k1, k2, k3, k4, k5, k6, k7, k8⟩ := HK.out o hj
    have C1 : Hid ((Nm.labsD o).length = (Nm.labsD n).length + more.length) := Lib.hid (by rw [k2, List.length_append, Nat.add_comm])
    have K4 := Lib.hid k4
    have K5 := Lib.hid k5
    have K6 := Lib.hid k6
    clear HK HXV HXS HLL HLM hj k1 k2 k4 k5 k6 ho1 hr1 hv1 ho6 hv6 hr7 ho7 ha6 ha7 ho hr b4 hb1 hb6
    by_cases hm : more = []
    · subst hm
      have K7 : Hid (Nm.under n o = true) := Lib.hid k7
      clear k7 k8
      gi_wp2_with (first
        | (gi_at_call 30; with_reducible refine (callsIn_wide.2 (under_any o n _ (by omega) (by omega))).mono ?_; rw [K4.out]; rintro e w' ⟨rfl, b1⟩; replace bb := below_trans bb b1; clear b1)
        | (gi_at_call 30; with_reducible refine (callsIn_wide.2 (under_any n o _ (by omega) (by omega))).mono ?_; rw [K7.out]; rintro e w' ⟨rfl, b1⟩; replace bb := below_trans bb b1; clear b1)
        | (gi_at_call 18; with_reducible refine (callsIn_wide.2 (count_any o _ (by omega))).mono ?_; rw [C1.out]; rintro e w' ⟨rfl, b1⟩; replace bb := below_trans bb b1; clear b1)
        | (gi_at_call 34; with_reducible refine (callsIn_wide.2 (common_any o n _ (by omega) (by omega))).mono ?_; rw [K5.out]; rintro e w' ⟨rfl, b1⟩; replace bb := below_trans bb b1; clear b1)
        | (gi_at_call 34; with_reducible refine (callsIn_wide.2 (common_any n o _ (by omega) (by omega))).mono ?_; rw [K6.out]; rintro e w' ⟨rfl, b1⟩; replace bb := below_trans bb b1; clear b1)
        | (gi_at_call 11; refine (callsIn_wide.2 (awake_any _ (hv.below bb))).mono ?_; rintro e w' ⟨rfl, b1⟩; replace bb := below_trans bb b1; clear b1))
      all_goals first
        | (exfalso; simp_all [undef]; done)
        | (go_ret; exact ⟨rfl, bb⟩)
    · obtain ⟨k9, k10⟩ := k8 hm
      have K7 : Hid (Nm.under n o = false) := Lib.hid (by rw [k7, decide_eq_false_iff_not]; exact hm)
      have K9 := Lib.hid k9
      have K10 := Lib.hid k10
      have hml : 0 < more.length := List.length_pos_iff.2 hm
      have hpl : (Nm.parent o).length ≤ 100000 := by have := Nm.parent_le o; omega
      have t1 : ((more.length : Int) == 0) = false := by rw [beq_eq_false_iff_ne]; omega
      clear k7 k8 k9 k10
      gi_wp2_with (first
        | (gi_at_call 30; with_reducible refine (callsIn_wide.2 (under_any o n _ (by omega) (by omega))).mono ?_; rw [K4.out]; rintro e w' ⟨rfl, b1⟩; replace bb := below_trans bb b1; clear b1)
        | (gi_at_call 30; with_reducible refine (callsIn_wide.2 (under_any n o _ (by omega) (by omega))).mono ?_; rw [K7.out]; rintro e w' ⟨rfl, b1⟩; replace bb := below_trans bb b1; clear b1)
        | (gi_at_call 30; with_reducible refine (callsIn_wide.2 (under_any (Nm.parent o) n _ hpl (by omega))).mono ?_; rw [K10.out]; rintro e w' ⟨rfl, b1⟩; replace bb := below_trans bb b1; clear b1)
        | (gi_at_call 32; with_reducible refine (callsIn_wide.2 (less_any n o _ (by omega) (by omega))).mono ?_; rw [K9.out]; rintro e w' ⟨rfl, b1⟩; replace bb := below_trans bb b1; clear b1)
        | (gi_at_call 21; with_reducible refine (callsIn_wide.2 (parent_any o _ (by omega))).mono ?_; rintro e w' ⟨rfl, b1⟩; replace bb := below_trans bb b1; clear b1)
        | (gi_at_call 18; with_reducible refine (callsIn_wide.2 (count_any o _ (by omega))).mono ?_; rw [C1.out]; rintro e w' ⟨rfl, b1⟩; replace bb := below_trans bb b1; clear b1)
        | (gi_at_call 34; with_reducible refine (callsIn_wide.2 (common_any o n _ (by omega) (by omega))).mono ?_; rw [K5.out]; rintro e w' ⟨rfl, b1⟩; replace bb := below_trans bb b1; clear b1)
        | (gi_at_call 34; with_reducible refine (callsIn_wide.2 (common_any n o _ (by omega) (by omega))).mono ?_; rw [K6.out]; rintro e w' ⟨rfl, b1⟩; replace bb := below_trans bb b1; clear b1)
        | (gi_at_call 11; refine (callsIn_wide.2 (awake_any _ (hv.below bb))).mono ?_; rintro e w' ⟨rfl, b1⟩; replace bb := below_trans bb b1; clear b1))
      go_ret
      exact ⟨rfl, bb⟩
end Go.Proofs.YtiodfiegknkceaaDoor
