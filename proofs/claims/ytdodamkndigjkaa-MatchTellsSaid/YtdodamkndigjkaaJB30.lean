/- 3 texts put together: RFoldData, RSame, RIn. -/
import Derived.Test.YtdodamkndigjkaaJB5
import Derived.Test.YtdodamkndigjkaaJB7
import Derived.Test.YtdodamkndigjkaaJB11
import Derived.Test.YtdodamkndigjkaaJB17
/- The document's own FoldData: each name in data folded. -/
namespace Go.Proofs.Ytdodamkndigjkaa
open Go.RowKit Go.Shelf
attribute [local go_sem] Oper.semAt_some

namespace Rd
theorem foldData_none {t : Int} {d : List UInt8} (h : parts t d = none) : foldData t d = d := by
  unfold foldData
  rw [(partsD_none h).2]
  rfl
theorem foldP_take {ps : List (Nat × Nat)} {k : Nat} (h : k < ps.length) (d : List UInt8) : foldP (ps.take (k + 1)) d = fold1 (foldP (ps.take k) d) ps[k] := by
  rw [List.take_succ_eq_append_getElem h, foldP_snoc]
theorem parts_few {t : Int} {d : List UInt8} {ps : List (Nat × Nat)} (hp : parts t d = some ps) : ps.length ≤ 2 := by
  cases h : lay t with
  | none => rw [parts_other16 h hp]; simp
  | some x =>
    obtain ⟨a, n, b⟩ := x
    obtain ⟨e, hr, _⟩ := parts_len h hp
    have h1 := (run_bound _ _ _ hr).2.2.2.1
    have h2 : n ≤ 2 := by
      unfold lay at h
      repeat' split at h
      all_goals (first | cases h | skip)
      all_goals omega
    omega
theorem partsD_long {t : Int} {d : List UInt8} (h : partsD t d ≠ []) : d.length ≤ 1000 := by
  cases hp : parts t d with
  | none => rw [(partsD_none hp).2] at h; exact absurd rfl h
  | some ps => exact (parts_bound hp).1
end Rd

set_option maxRecDepth 100000 in
set_option maxHeartbeats 8000000 in
theorem rfoldData_any (t : Int) (d : List UInt8) (w : World) (hs : d.length ≤ 100000) :
    Calls Try.prog 95 #[.int .i64 t, .string ⟨d.toArray⟩] w fun e w' => e = .returned (.string ⟨(Rd.foldData t d).toArray⟩) ∧ Below w.heap.size w w' := by
  have hF : Fence.wide.fn 43 := trivial
  cases hp : Rd.parts t d with
  | none =>
    have h := Rd.foldData_none hp
    have hk := (Rd.partsD_none hp).1
    rw [h]
    clear h hp
    refine (callsIn_wide (n := 9)).1 ?_
    refine callsIn_of_wp Try.func95 rfl trivial ?_ rfl
    simp only [Try.ntmps95, List.size_toArray, List.length_cons, List.length_nil, Nat.reduceAdd, Nat.reduceSub, Array.replicate_succ, Array.replicate_zero, List.push_toArray, List.append_toArray, List.nil_append, List.cons_append]
    gi_wp2_with (refine ⟨trivial, ?_⟩; gi_at_call 64; refine (callsIn_wide.2 (rparts_any t d _ hs)).mono ?_; rintro e w1 ⟨v, rfl, hr, b1⟩; rw [hk])
    go_ret
    exact ⟨rfl, b1⟩
  | some ps =>
    obtain ⟨hk, hD⟩ := Rd.partsD_some hp
    have hb := Rd.partsD_bound (t := t) (d := d)
    have hfd : Rd.foldData t d = Rd.foldP ps d := by unfold Rd.foldData; rw [hD]
    rw [hD] at hb
    have hlen : ps.length ≤ 1000 := by
      have := Rd.parts_few hp
      omega
    rw [hfd]
    have HB := Lib.hid hb
    clear hfd hp hb
    refine (callsIn_wide (n := 9)).1 ?_
    refine callsIn_of_wp Try.func95 rfl trivial ?_ rfl
    simp only [Try.ntmps95, List.size_toArray, List.length_cons, List.length_nil, Nat.reduceAdd, Nat.reduceSub, Array.replicate_succ, Array.replicate_zero, List.push_toArray, List.append_toArray, List.nil_append, List.cons_append]
    gi_wp2_with (refine ⟨trivial, ?_⟩; gi_at_call 64; refine (callsIn_wide.2 (rparts_any t d _ hs)).mono ?_; rintro e w1 ⟨v, rfl, hr, b1⟩; rw [hk]; rw [hD] at hr; obtain ⟨ao, cap, rfl, hc⟩ := hr.form; refine Hid.out ?_)
    refine Lib.hid ?_
    have HC := Lib.hid hc
    have HD := Lib.hid hD
    have HK := Lib.hid hk
    clear hc hr hD hk
    gi_wp2
    gi_loopw [1, 7] (fun s i wr => ∃ k : Nat, s = .string ⟨(Rd.foldP (ps.take k) d).toArray⟩ ∧ i = .int .i64 (k : Int) ∧ k ≤ ps.length ∧ Below w1.heap.size w1 wr) (fun _ i _ => ps.length + 1 - (intOf i).toNat)
    case atStart => exact ⟨0, by rw [List.take_zero]; rfl, rfl, by omega, Below.refl _ _⟩
    case round =>
      obtain ⟨k, rfl, rfl, hk, hbl⟩ := hrel
      by_cases hlt : k < ps.length
      · obtain ⟨g, off, rfl, c0, c1⟩ := HC.out k hlt
        have hgl : g < w1.heap.size := cell_lt c0
        replace c0 := (hbl.cell (p := ⟨g, off + k * 2, none⟩) hgl).trans c0
        replace c1 := (hbl.cell (p := ⟨g, off + k * 2 + 1, none⟩) hgl).trans c1
        have hxb := HB.out ps[k] (List.getElem_mem hlt)
        have hcl := Rd.foldP_len (ps.take k) d (fun p hp => HB.out p (List.mem_of_mem_take hp))
        have hfs := Rd.foldP_take hlt d
        obtain ⟨x, hx⟩ : ∃ x, ps[k] = x := ⟨_, rfl⟩
        rw [hx] at c0 c1 hxb hfs
        obtain ⟨q, hq⟩ : ∃ q, Rd.foldP (ps.take k) d = q := ⟨_, rfl⟩
        rw [hq] at hcl hfs ⊢
        obtain ⟨A, hA⟩ : ∃ A, q.take x.1 = A := ⟨_, rfl⟩
        obtain ⟨X, hX⟩ : ∃ X, (q.drop x.1).take x.2 = X := ⟨_, rfl⟩
        obtain ⟨Z, hZ⟩ : ∃ Z, q.drop (x.1 + x.2) = Z := ⟨_, rfl⟩
        have hXl : X.length ≤ 100000 := by rw [← hX, List.length_take, List.length_drop]; omega
        have hs1 := fun W => run_to (P := Try.prog) Try.underlying9 (l := q) (l' := A) (hi := (x.1 : Int)) (by omega) (by omega) (by rw [← hA]; rfl) W
        have hs2 := fun W => run_cut (P := Try.prog) Try.underlying9 (l := q) (l' := X) (lo := (x.1 : Int)) (hi := (x.1 : Int) + (x.2 : Int)) (by omega) (by omega) (by omega) (by rw [← hX]; congr 1; omega) W
        have hs3 := fun W => run_from (P := Try.prog) Try.underlying9 (l := q) (l' := Z) (lo := (x.1 : Int) + (x.2 : Int)) (by omega) (by omega) (by rw [← hZ]; congr 1) W
        have hw1 : IntKind.i64.wrap ((x.1 : Int) + (x.2 : Int)) = (x.1 : Int) + (x.2 : Int) := IntWalk.i64_in _ (by omega)
        obtain ⟨Y, hY⟩ : ∃ Y, Nm.fold X = Y := ⟨_, rfl⟩
        have hfold := fun W => rfold_any X W hXl
        rw [hY] at hfold
        have hfin : Rd.foldP (ps.take (k + 1)) d = A ++ Y ++ Z := by rw [hfs, ← hA, ← hY, ← hX, ← hZ]; rfl
        obtain ⟨V, hV⟩ : ∃ V, A ++ Y ++ Z = V := ⟨_, rfl⟩
        obtain ⟨U, hU⟩ : ∃ U, A ++ Y = U := ⟨_, rfl⟩
        have hVl : V.length ≤ 100000 := by
          rw [← hV, ← hfin, hfs, Rd.fold1_len (by rw [hcl]; exact hxb)]; omega
        have hUl : U.length ≤ 100000 := by
          have : U.length ≤ V.length := by rw [← hV, ← hU]; simp
          omega
        have hAl : A.length ≤ 100000 := by rw [← hA, List.length_take]; omega
        have hYl : Y.length ≤ 100000 := by rw [← hY, Rd.fold_len]; exact hXl
        have hZl : Z.length ≤ 100000 := by rw [← hZ, List.length_drop]; omega
        have ha1 := fun W => run_string_add_lists (P := Try.prog) W A Y (by omega) (by omega)
        have ha2 := fun W => run_string_add_lists (P := Try.prog) W (A ++ Y) Z (by rw [hU]; omega) (by omega)
        rw [hU] at ha1 ha2 hV
        rw [hV] at ha2
        have HFIN : Hid (Rd.foldP (ps.take (k + 1)) d = V) := Lib.hid (by rw [hfin, hU, hV])
        have HFOLD := Lib.hid hfold
        obtain ⟨x0, x1⟩ := x
        simp only at c0 c1 hxb hs1 hs2 hs3 hw1
        clear hfs hq hA hX hZ hY hfin hV hU hfold hcl hx
        gi_wp2
        have hblk := Block.new wr #[.int .i64 (x0 : Int), .int .i64 (x1 : Int)] 135
        have hb0 : Below w1.heap.size w1 (wr.alloc (.cells #[.int .i64 (x0 : Int), .int .i64 (x1 : Int)] 135)) := hbl.alloc hbl.size _
        generalize (wr.alloc (.cells #[.int .i64 (x0 : Int), .int .i64 (x1 : Int)] 135)) = W0 at *
        have d0 := Grew.cell (hblk.cell (i := 0) rfl)
        have d1 := Grew.cell (hblk.cell (i := 1) rfl)
        refine wpIn_region_grew (by kernel_rfl) (by kernel_rfl) (by kernel_rfl) ?_
        repeat (gi_big_quiet_step ((gi_at_call 43; (with_reducible exact Grew.calls _ _ (callsIn_wide.2 (HFOLD.out _))))))
        refine wpQuietIn_nil ?_
        rintro W1 ⟨iG, hi⟩
        have hdw : Below W0.heap.size W0 W1 := by rw [hi]; exact iG.below
        clear hi
        have hbn : Below w1.heap.size w1 W1 := hb0.trans (hdw.mono hb0.size)
        gi_wp2
        go_roundw
        case rel => exact ⟨k + 1, by rw [HFIN.out], by go_num, by omega, hbn⟩
        case measure => simp [intOf]; omega
      · obtain rfl : k = ps.length := by omega
        rw [List.take_length]
        gi_wp2
        go_ret
        exact ⟨rfl, below_trans b1 hbl⟩
end Go.Proofs.Ytdodamkndigjkaa

/- The document's own SameRR. -/
namespace Go.Proofs.Ytdodamkndigjkaa
open Go.RowKit Go.Shelf
attribute [local go_sem] Oper.semAt_some

theorem Rd.sameR_eq (a b : Rd.RR) : Rd.sameR a b = ((Nm.fold a.name == Nm.fold b.name) && ((a.typ == b.typ) && ((a.cls == b.cls) && (Rd.foldData a.typ a.data == Rd.foldData b.typ b.data)))) := by
  have : Rd.sameR a b = decide (Rd.foldR a = Rd.foldR b) := by unfold Rd.sameR; rw [Bool.eq_iff_iff]; simp
  rw [this, ← eqRR_iff]
  unfold eqRR Rd.foldR
  simp only [BEq.rfl, Bool.true_and]

set_option maxRecDepth 100000 in
set_option maxHeartbeats 8000000 in
theorem rsame_any (a b : Rd.RR) (w : World) (ha : a.name.length ≤ 100000) (ha' : a.data.length ≤ 100000) (hb : b.name.length ≤ 100000) (hb' : b.data.length ≤ 100000) :
    Calls Try.prog 72 #[rrV a, rrV b] w fun e w' => e = .returned (.bool (Rd.sameR a b)) ∧ Below w.heap.size w w' := by
  rw [Rd.sameR_eq]
  obtain ⟨n, t, c, l, d⟩ := a
  obtain ⟨n2, t2, c2, l2, d2⟩ := b
  simp only at ha ha' hb hb' ⊢
  unfold rrV
  simp only
  have h1 := fun W => rfold_any n W ha
  have h2 := fun W => rfold_any n2 W hb
  have h3 := fun W => rfoldData_any t d W ha'
  have h4 := fun W => rfoldData_any t2 d2 W hb'
  obtain ⟨m, hm⟩ : ∃ m, Nm.fold n = m := ⟨_, rfl⟩
  obtain ⟨m2, hm2⟩ : ∃ m, Nm.fold n2 = m := ⟨_, rfl⟩
  obtain ⟨g, hg⟩ : ∃ m, Rd.foldData t d = m := ⟨_, rfl⟩
  obtain ⟨g2, hg2⟩ : ∃ m, Rd.foldData t2 d2 = m := ⟨_, rfl⟩
  rw [hm] at h1
  rw [hm2] at h2
  rw [hg] at h3
  rw [hg2] at h4
  rw [hm, hm2, hg, hg2]
  obtain ⟨q1, hq1⟩ : ∃ q, (m == m2) = q := ⟨_, rfl⟩
  obtain ⟨q2, hq2⟩ : ∃ q, (t == t2) = q := ⟨_, rfl⟩
  obtain ⟨q3, hq3⟩ : ∃ q, (c == c2) = q := ⟨_, rfl⟩
  obtain ⟨q4, hq4⟩ : ∃ q, (g == g2) = q := ⟨_, rfl⟩
  rw [hq1, hq2, hq3, hq4]
  have H1 := Lib.hid h1
  have H2 := Lib.hid h2
  have H3 := Lib.hid h3
  have H4 := Lib.hid h4
  clear h1 h2 h3 h4 hm hm2 hg hg2 ha ha' hb hb'
  have hk1 := (Block.new w #[.string ⟨n.toArray⟩, .int .i64 t, .int .i64 c, .int .i64 l, .string ⟨d.toArray⟩] 51).alloc (.cells #[.string ⟨n2.toArray⟩, .int .i64 t2, .int .i64 c2, .int .i64 l2, .string ⟨d2.toArray⟩] 51)
  have hk2 := Block.new (w.alloc (.cells #[.string ⟨n.toArray⟩, .int .i64 t, .int .i64 c, .int .i64 l, .string ⟨d.toArray⟩] 51)) #[.string ⟨n2.toArray⟩, .int .i64 t2, .int .i64 c2, .int .i64 l2, .string ⟨d2.toArray⟩] 51
  rw [World.size_alloc] at hk2
  have hbw : Below w.heap.size w ((w.alloc (.cells #[.string ⟨n.toArray⟩, .int .i64 t, .int .i64 c, .int .i64 l, .string ⟨d.toArray⟩] 51)).alloc (.cells #[.string ⟨n2.toArray⟩, .int .i64 t2, .int .i64 c2, .int .i64 l2, .string ⟨d2.toArray⟩] 51)) := ((Below.refl _ w).alloc (Nat.le_refl _) _).alloc (by simp) _
  have hF : Fence.wide.fn 43 := trivial
  have hF2 : Fence.wide.fn 95 := trivial
  have hcase : (q1 = false) ∨ (q1 = true ∧ q2 = false) ∨ (q1 = true ∧ q2 = true ∧ q3 = false) ∨ (q1 = true ∧ q2 = true ∧ q3 = true) := by cases q1 <;> cases q2 <;> cases q3 <;> simp
  rcases hcase with rfl | ⟨rfl, rfl⟩ | ⟨rfl, rfl, rfl⟩ | ⟨rfl, rfl, rfl⟩
  all_goals
    simp only [Bool.false_and, Bool.true_and]
    refine (callsIn_wide (n := 9)).1 ?_
    refine callsIn_of_wp Try.func72 rfl trivial ?_ rfl
    simp only [Try.ntmps72, List.size_toArray, List.length_cons, List.length_nil, Nat.reduceAdd, Nat.reduceSub, Array.replicate_succ, Array.replicate_zero, List.push_toArray, List.append_toArray, List.nil_append, List.cons_append]
    gi_wp2
    generalize ((w.alloc (.cells #[.string ⟨n.toArray⟩, .int .i64 t, .int .i64 c, .int .i64 l, .string ⟨d.toArray⟩] 51)).alloc (.cells #[.string ⟨n2.toArray⟩, .int .i64 t2, .int .i64 c2, .int .i64 l2, .string ⟨d2.toArray⟩] 51)) = W0 at *
    have a0 := Grew.cell (hk1.cell (i := 0) rfl)
    have b0 := Grew.cell (hk2.cell (i := 0) rfl)
    have a1 := Grew.cell (hk1.cell (i := 1) rfl)
    have b1 := Grew.cell (hk2.cell (i := 1) rfl)
    have a2 := Grew.cell (hk1.cell (i := 2) rfl)
    have b2 := Grew.cell (hk2.cell (i := 2) rfl)
    have a4 := Grew.cell (hk1.cell (i := 4) rfl)
    have b4 := Grew.cell (hk2.cell (i := 4) rfl)
    refine wpIn_region_grew (by kernel_rfl) (by kernel_rfl) (by kernel_rfl) ?_
    repeat (gi_big_quiet_step ((first
      | (gi_at_call 43; (with_reducible exact Grew.calls _ _ (callsIn_wide.2 (H1.out _))))
      | (gi_at_call 43; (with_reducible exact Grew.calls _ _ (callsIn_wide.2 (H2.out _))))
      | (gi_at_call 95; (with_reducible exact Grew.calls _ _ (callsIn_wide.2 (H3.out _))))
      | (gi_at_call 95; (with_reducible exact Grew.calls _ _ (callsIn_wide.2 (H4.out _)))))))
    refine wpQuietIn_nil ?_
    rintro W1 ⟨iG, hi⟩
    have hdw : Below W0.heap.size W0 W1 := by rw [hi]; exact iG.below
    clear hi
    gi_wp2
    go_ret
    exact ⟨rfl, below_trans hbw hdw⟩
end Go.Proofs.Ytdodamkndigjkaa

/- The document's own in: is a record among others? And its SameSet. -/
namespace Go.Proofs.Ytdodamkndigjkaa
open Go.RowKit Go.Shelf
attribute [local go_sem] Oper.semAt_some

namespace Rd
theorem any_take_succ {l : List RR} {k : Nat} (h : k < l.length) (p : RR → Bool) : (l.take (k + 1)).any p = ((l.take k).any p || p l[k]) := by
  rw [List.take_succ_eq_append_getElem h, List.any_append]; simp
theorem any_at {l : List RR} {k : Nat} (h : k < l.length) {p : RR → Bool} (hp : p l[k] = true) : l.any p = true := List.any_eq_true.2 ⟨_, List.getElem_mem h, hp⟩
theorem all_take_succ {l : List RR} {k : Nat} (h : k < l.length) (p : RR → Bool) : (l.take (k + 1)).all p = ((l.take k).all p && p l[k]) := by
  rw [List.take_succ_eq_append_getElem h, List.all_append]; simp
theorem all_at {l : List RR} {k : Nat} (h : k < l.length) {p : RR → Bool} (hp : p l[k] = false) : l.all p = false := by
  rw [List.all_eq_false]
  exact ⟨_, List.getElem_mem h, by rw [hp]; simp⟩
end Rd

set_option maxRecDepth 100000 in
set_option maxHeartbeats 8000000 in
theorem rin_any (l : List Rd.RR) (sv : Value) (r : Rd.RR) (w : World) (hr : ReadR sv l w) (hf : ∀ x ∈ l, Fine x) (hrf : Fine r) (hl : l.length ≤ 100000) :
    Calls Try.prog 44 #[sv, rrV r] w fun e w' => e = .returned (.bool (l.any (fun y => Rd.sameR y r))) ∧ Below w.heap.size w w' := by
  obtain ⟨ao, cap, rfl, hc⟩ := hr.form
  obtain ⟨R, hR⟩ : ∃ R, l.any (fun y => Rd.sameR y r) = R := ⟨_, rfl⟩
  have HSAME := Lib.hid (fun (x : Rd.RR) (hx : x ∈ l) W => rsame_any x r W (hf x hx).name (hf x hx).data hrf.name hrf.data)
  have HT := Lib.hid (fun (k : Nat) (h : k < l.length) (q : Rd.sameR l[k] r = true) => show R = true from by rw [← hR]; exact Rd.any_at h q)
  have HE := Lib.hid (fun (h : (l.take l.length).any (fun y => Rd.sameR y r) = false) => show R = false from by rw [← hR]; rw [List.take_length] at h; exact h)
  have HN := Lib.hid (fun (k : Nat) (h : k < l.length) (q : Rd.sameR l[k] r = false) (q' : (l.take k).any (fun y => Rd.sameR y r) = false) => show (l.take (k + 1)).any (fun y => Rd.sameR y r) = false from by rw [Rd.any_take_succ h, q', q]; rfl)
  rw [hR]
  clear hR
  have HC := Lib.hid hc
  clear hc hr hf hrf
  obtain ⟨rn, rt, rc, rl, rd⟩ := r
  obtain ⟨S, hS⟩ : ∃ S : Rd.RR → Bool, (fun y => Rd.sameR y ⟨rn, rt, rc, rl, rd⟩) = S := ⟨_, rfl⟩
  have hSx : ∀ x, Rd.sameR x ⟨rn, rt, rc, rl, rd⟩ = S x := fun x => congrFun hS x
  rw [hS] at HE HN
  simp only [hSx] at HSAME HT HN
  clear hS hSx
  unfold rrV at HSAME ⊢
  simp only at HSAME ⊢
  refine (callsIn_wide (n := 9)).1 ?_
  refine callsIn_of_wp Try.func44 rfl trivial ?_ rfl
  simp only [Try.ntmps44, List.size_toArray, List.length_cons, List.length_nil, Nat.reduceAdd, Nat.reduceSub, Array.replicate_succ, Array.replicate_zero, List.push_toArray, List.append_toArray, List.nil_append, List.cons_append]
  have hF : Fence.wide.fn 72 := trivial
  gi_wp2
  gi_loopw [5] (fun i wr => ∃ k : Nat, i = .int .i64 (k : Int) ∧ k ≤ l.length ∧ Hid ((l.take k).any S = false) ∧ Below w.heap.size w wr ∧ Block wr w.heap.size #[.string ⟨rn.toArray⟩, .int .i64 rt, .int .i64 rc, .int .i64 rl, .string ⟨rd.toArray⟩] 51) (fun i _ => l.length + 1 - (intOf i).toNat)
  case atStart => exact ⟨0, rfl, by omega, Lib.hid rfl, (Below.refl _ w).alloc (Nat.le_refl _) _, Block.new w _ _⟩
  case round =>
    obtain ⟨k, rfl, hk, hn, hb, hx⟩ := hrel
    have hwr := hb.size
    by_cases hlt : k < l.length
    · obtain ⟨g, off, rfl, c0, c1, c2, c3, c4⟩ := HC.out k hlt
      have hgl : g < w.heap.size := cell_lt c0
      replace c0 := Grew.cell ((hb.cell (p := ⟨g, off + k * 5, none⟩) hgl).trans c0)
      replace c1 := Grew.cell ((hb.cell (p := ⟨g, off + k * 5 + 1, none⟩) hgl).trans c1)
      replace c2 := Grew.cell ((hb.cell (p := ⟨g, off + k * 5 + 2, none⟩) hgl).trans c2)
      replace c3 := Grew.cell ((hb.cell (p := ⟨g, off + k * 5 + 3, none⟩) hgl).trans c3)
      replace c4 := Grew.cell ((hb.cell (p := ⟨g, off + k * 5 + 4, none⟩) hgl).trans c4)
      have d0 := Grew.cell (hx.cell (i := 0) rfl)
      have d1 := Grew.cell (hx.cell (i := 1) rfl)
      have d2 := Grew.cell (hx.cell (i := 2) rfl)
      have d3 := Grew.cell (hx.cell (i := 3) rfl)
      have d4 := Grew.cell (hx.cell (i := 4) rfl)
      have hsame := HSAME.out l[k] (List.getElem_mem hlt)
      have HTk := Lib.hid (HT.out k hlt)
      have HNk := Lib.hid (fun q => HN.out k hlt q hn.out)
      obtain ⟨x, hxx⟩ : ∃ x, l[k] = x := ⟨_, rfl⟩
      rw [hxx] at c0 c1 c2 c3 c4 hsame HTk HNk
      obtain ⟨s, hs⟩ : ∃ s, S x = s := ⟨_, rfl⟩
      rw [hs] at hsame HTk HNk
      have HS := Lib.hid hsame
      obtain ⟨n, t, c, ttl, d⟩ := x
      simp only at c0 c1 c2 c3 c4 HS
      clear hsame hxx hs
      cases s
      · gi_wp2
        refine wpIn_region_grew (by kernel_rfl) (by kernel_rfl) (by kernel_rfl) ?_
        repeat (gi_big_quiet_step ((gi_at_call 72; (with_reducible exact Grew.calls _ _ (callsIn_wide.2 (HS.out _))))))
        refine wpQuietIn_nil ?_
        rintro W1 ⟨iG, hi⟩
        have hdw : Below wr.heap.size wr W1 := by rw [hi]; exact iG.below
        clear hi
        have hb1 : Below w.heap.size w W1 := hb.trans (hdw.mono hwr)
        have hx1 := hx.below hdw
        gi_wp2
        go_roundw
        case rel => exact ⟨k + 1, by go_num, by omega, Lib.hid (HNk.out (by first | rfl | trivial)), hb1, hx1⟩
        case measure => simp [intOf]; omega
      · gi_wp2
        refine wpIn_region_grew (by kernel_rfl) (by kernel_rfl) (by kernel_rfl) ?_
        repeat (gi_big_quiet_step ((gi_at_call 72; (with_reducible exact Grew.calls _ _ (callsIn_wide.2 (HS.out _))))))
        refine wpQuietIn_nil ?_
        rintro W1 ⟨iG, hi⟩
        have hdw : Below wr.heap.size wr W1 := by rw [hi]; exact iG.below
        clear hi
        have hb1 : Below w.heap.size w W1 := hb.trans (hdw.mono hwr)
        gi_wp2
        go_ret
        exact ⟨by rw [HTk.out (by first | rfl | trivial)]; rfl, hb1⟩
    · obtain rfl : k = l.length := by omega
      have HQ := HE.out hn.out
      subst HQ
      gi_wp2
      go_ret
      exact ⟨rfl, hb⟩

end Go.Proofs.Ytdodamkndigjkaa
