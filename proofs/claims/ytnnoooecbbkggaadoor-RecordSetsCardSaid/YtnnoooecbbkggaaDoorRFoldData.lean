/- The document's own FoldData: each name in data folded. -/
import Derived.Test.YtnnoooecbbkggaaDoorFolded
import Derived.Test.YtnnoooecbbkggaaDoorRFold
import Derived.Test.YtnnoooecbbkggaaDoorRParts
namespace Go.Proofs.YtnnoooecbbkggaaDoor
open Go.RowKit Go.Shelf
attribute [local go_sem] Oper.semAt_some

namespace Rd
theorem foldData_none {t : Int} {d : List UInt8} (h : parts t d = none) : foldData t d = d := by
  unfold foldData
  rw [(partsD_none h).2]
  rfl
theorem foldP_take {ps : List (Nat × Nat)} {k : Nat} (h : k < ps.length) (d : List UInt8) : foldP (ps.take (k + 1)) d = fold1 (foldP (ps.take k) d) ps[k] := by
  rw [List.take_succ_eq_append_getElem h, foldP_snoc]
theorem parts_few {t : Int} {d : List UInt8} {ps : List (Nat × Nat)} (hp : parts t d = some ps) : ps.length ≤ 2 := by
  cases h : lay t with
  | none => rw [parts_other16 h hp]; simp
  | some x =>
    obtain ⟨a, n, b⟩ := x
    obtain ⟨e, hr, _⟩ := parts_len h hp
    have h1 := (run_bound _ _ _ hr).2.2.2.1
    have h2 : n ≤ 2 := by
      unfold lay at h
      repeat' split at h
      all_goals (first | cases h | skip)
      all_goals omega
    omega
theorem partsD_long {t : Int} {d : List UInt8} (h : partsD t d ≠ []) : d.length ≤ 1000 := by
  cases hp : parts t d with
  | none => rw [(partsD_none hp).2] at h; exact absurd rfl h
  | some ps => exact (parts_bound hp).1
end Rd

set_option maxRecDepth 100000 in
set_option maxHeartbeats 8000000 in
theorem rfoldData_any (t : Int) (d : List UInt8) (w : World) (hs : d.length ≤ 100000) :
    Calls Tryd.prog 50 #[.int .i64 t, .string ⟨d.toArray⟩] w fun e w' => e = .returned (.string ⟨(Rd.foldData t d).toArray⟩) ∧ Below w.heap.size w w' := by
  have hF : Fence.wide.fn 37 := trivial
  cases hp : Rd.parts t d with
  | none =>
    have h := Rd.foldData_none hp
    have hk := (Rd.partsD_none hp).1
    rw [h]
    clear h hp
    refine (callsIn_wide (n := 9)).1 ?_
    refine callsIn_of_wp Tryd.func50 rfl trivial ?_ rfl
    simp only [Tryd.ntmps50, List.size_toArray, List.length_cons, List.length_nil, Nat.reduceAdd, Nat.reduceSub, Array.replicate_succ, Array.replicate_zero, List.push_toArray, List.append_toArray, List.nil_append, List.cons_append]
    gi_wp2_with (refine ⟨trivial, ?_⟩; gi_at_call 10; refine (callsIn_wide.2 (rparts_any t d _ hs)).mono ?_; rintro e w1 ⟨v, rfl, hr, b1⟩; rw [hk])
    go_ret
    exact ⟨rfl, b1⟩
  | some ps =>
    obtain ⟨hk, hD⟩ := Rd.partsD_some hp
    have hb := Rd.partsD_bound (t := t) (d := d)
    have hfd : Rd.foldData t d = Rd.foldP ps d := by unfold Rd.foldData; rw [hD]
    rw [hD] at hb
    have hlen : ps.length ≤ 1000 := by
      have := Rd.parts_few hp
      omega
    rw [hfd]
    have HB := Lib.hid hb
    clear hfd hp hb
    refine (callsIn_wide (n := 9)).1 ?_
    refine callsIn_of_wp Tryd.func50 rfl trivial ?_ rfl
    simp only [Tryd.ntmps50, List.size_toArray, List.length_cons, List.length_nil, Nat.reduceAdd, Nat.reduceSub, Array.replicate_succ, Array.replicate_zero, List.push_toArray, List.append_toArray, List.nil_append, List.cons_append]
    gi_wp2_with (refine ⟨trivial, ?_⟩; gi_at_call 10; refine (callsIn_wide.2 (rparts_any t d _ hs)).mono ?_; rintro e w1 ⟨v, rfl, hr, b1⟩; rw [hk]; rw [hD] at hr; obtain ⟨ao, cap, rfl, hc⟩ := hr.form; refine Hid.out ?_)
    refine Lib.hid ?_
    have HC := Lib.hid hc
    have HD := Lib.hid hD
    have HK := Lib.hid hk
    clear hc hr hD hk
    gi_wp2
    gi_loopw [1, 7] (fun s i wr => ∃ k : Nat, s = .string ⟨(Rd.foldP (ps.take k) d).toArray⟩ ∧ i = .int .i64 (k : Int) ∧ k ≤ ps.length ∧ Below w1.heap.size w1 wr) (fun _ i _ => ps.length + 1 - (intOf i).toNat)
    case atStart => exact ⟨0, by rw [List.take_zero]; rfl, rfl, by omega, Below.refl _ _⟩
    case round =>
      obtain ⟨k, rfl, rfl, hk, hbl⟩ := hrel
      by_cases hlt : k < ps.length
      · obtain ⟨g, off, rfl, c0, c1⟩ := HC.out k hlt
        have hgl : g < w1.heap.size := cell_lt c0
        replace c0 := (hbl.cell (p := ⟨g, off + k * 2, none⟩) hgl).trans c0
        replace c1 := (hbl.cell (p := ⟨g, off + k * 2 + 1, none⟩) hgl).trans c1
        have hxb := HB.out ps[k] (List.getElem_mem hlt)
        have hcl := Rd.foldP_len (ps.take k) d (fun p hp => HB.out p (List.mem_of_mem_take hp))
        have hfs := Rd.foldP_take hlt d
        obtain ⟨x, hx⟩ : ∃ x, ps[k] = x := ⟨_, rfl⟩
        rw [hx] at c0 c1 hxb hfs
        obtain ⟨q, hq⟩ : ∃ q, Rd.foldP (ps.take k) d = q := ⟨_, rfl⟩
        rw [hq] at hcl hfs ⊢
        obtain ⟨A, hA⟩ : ∃ A, q.take x.1 = A := ⟨_, rfl⟩
        obtain ⟨X, hX⟩ : ∃ X, (q.drop x.1).take x.2 = X := ⟨_, rfl⟩
        obtain ⟨Z, hZ⟩ : ∃ Z, q.drop (x.1 + x.2) = Z := ⟨_, rfl⟩
        have hXl : X.length ≤ 100000 := by rw [← hX, List.length_take, List.length_drop]; omega
        have hs1 := fun W => run_to (P := Tryd.prog) Tryd.underlying9 (l := q) (l' := A) (hi := (x.1 : Int)) (by omega) (by omega) (by rw [← hA]; rfl) W
        have hs2 := fun W => run_cut (P := Tryd.prog) Tryd.underlying9 (l := q) (l' := X) (lo := (x.1 : Int)) (hi := (x.1 : Int) + (x.2 : Int)) (by omega) (by omega) (by omega) (by rw [← hX]; congr 1; omega) W
        have hs3 := fun W => run_from (P := Tryd.prog) Tryd.underlying9 (l := q) (l' := Z) (lo := (x.1 : Int) + (x.2 : Int)) (by omega) (by omega) (by rw [← hZ]; congr 1) W
        have hw1 : IntKind.i64.wrap ((x.1 : Int) + (x.2 : Int)) = (x.1 : Int) + (x.2 : Int) := IntWalk.i64_in _ (by omega)
        obtain ⟨Y, hY⟩ : ∃ Y, Nm.fold X = Y := ⟨_, rfl⟩
        have hfold := fun W => rfold_any X W hXl
        rw [hY] at hfold
        have hfin : Rd.foldP (ps.take (k + 1)) d = A ++ Y ++ Z := by rw [hfs, ← hA, ← hY, ← hX, ← hZ]; rfl
        obtain ⟨V, hV⟩ : ∃ V, A ++ Y ++ Z = V := ⟨_, rfl⟩
        obtain ⟨U, hU⟩ : ∃ U, A ++ Y = U := ⟨_, rfl⟩
        have hVl : V.length ≤ 100000 := by
          rw [← hV, ← hfin, hfs, Rd.fold1_len (by rw [hcl]; exact hxb)]; omega
        have hUl : U.length ≤ 100000 := by
          have : U.length ≤ V.length := by rw [← hV, ← hU]; simp
          omega
        have hAl : A.length ≤ 100000 := by rw [← hA, List.length_take]; omega
        have hYl : Y.length ≤ 100000 := by rw [← hY, Rd.fold_len]; exact hXl
        have hZl : Z.length ≤ 100000 := by rw [← hZ, List.length_drop]; omega
        have ha1 := fun W => run_string_add_lists (P := Tryd.prog) W A Y (by omega) (by omega)
        have ha2 := fun W => run_string_add_lists (P := Tryd.prog) W (A ++ Y) Z (by rw [hU]; omega) (by omega)
        rw [hU] at ha1 ha2 hV
        rw [hV] at ha2
        have HFIN : Hid (Rd.foldP (ps.take (k + 1)) d = V) := Lib.hid (by rw [hfin, hU, hV])
        have HFOLD := Lib.hid hfold
        obtain ⟨x0, x1⟩ := x
        simp only at c0 c1 hxb hs1 hs2 hs3 hw1
        clear hfs hq hA hX hZ hY hfin hV hU hfold hcl hx
        gi_wp2
        have hblk := Block.new wr #[.int .i64 (x0 : Int), .int .i64 (x1 : Int)] 34
        have hb0 : Below w1.heap.size w1 (wr.alloc (.cells #[.int .i64 (x0 : Int), .int .i64 (x1 : Int)] 34)) := hbl.alloc hbl.size _
        generalize (wr.alloc (.cells #[.int .i64 (x0 : Int), .int .i64 (x1 : Int)] 34)) = W0 at *
        have d0 := Grew.cell (hblk.cell (i := 0) rfl)
        have d1 := Grew.cell (hblk.cell (i := 1) rfl)
        refine wpIn_region_grew (by kernel_rfl) (by kernel_rfl) (by kernel_rfl) ?_
        repeat (gi_big_quiet_step ((gi_at_call 37; (with_reducible exact Grew.calls _ _ (callsIn_wide.2 (HFOLD.out _))))))
        refine wpQuietIn_nil ?_
        rintro W1 ⟨iG, hi⟩
        have hdw : Below W0.heap.size W0 W1 := by rw [hi]; exact iG.below
        clear hi
        have hbn : Below w1.heap.size w1 W1 := hb0.trans (hdw.mono hb0.size)
        gi_wp2
        go_roundw
        case rel => exact ⟨k + 1, by rw [HFIN.out], by go_num, by omega, hbn⟩
        case measure => simp [intOf]; omega
      · obtain rfl : k = ps.length := by omega
        rw [List.take_length]
        gi_wp2
        go_ret
        exact ⟨rfl, below_trans b1 hbl⟩
end Go.Proofs.YtnnoooecbbkggaaDoor
