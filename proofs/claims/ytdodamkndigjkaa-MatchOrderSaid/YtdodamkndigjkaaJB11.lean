/- 2 texts put together: Folded, SlotsIn. -/
import Derived.RangeFuncCalls
import Derived.Test.YtdodamkndigjkaaJB3
import Derived.Test.YtdodamkndigjkaaJB5
import Derived.Test.YtdodamkndigjkaaJB9
import Derived.Test.YtdodamkndigjkaaJB10
/- folded: what is compared of a record. -/
namespace Go.Proofs.Ytdodamkndigjkaa
open Go.RowKit Go.Shelf
attribute [local go_sem] Oper.semAt_some

theorem below5 {B : Nat} {w W : World} (h : Below B w W) {g : Nat} (hg : B ≤ g) (a b c d e : Value) : Below B w (((((W.setCell ⟨g, 0, none⟩ a).setCell ⟨g, 1, none⟩ b).setCell ⟨g, 2, none⟩ c).setCell ⟨g, 3, none⟩ d).setCell ⟨g, 4, none⟩ e) :=
  ((((h.setCell (p := ⟨g, 0, none⟩) hg a).setCell (p := ⟨g, 1, none⟩) hg b).setCell (p := ⟨g, 2, none⟩) hg c).setCell (p := ⟨g, 3, none⟩) hg d).setCell (p := ⟨g, 4, none⟩) hg e

namespace Rd
theorem fold_len (l : List UInt8) : (Nm.fold l).length = l.length := by
  unfold Nm.fold
  split
  · exact Nm.folded_length l
  · rfl
theorem fold1_len {d : List UInt8} {p : Nat × Nat} (h : p.1 + p.2 ≤ d.length) : (fold1 d p).length = d.length := by
  unfold fold1
  simp only [List.length_append, List.length_take, List.length_drop, fold_len]
  omega
theorem foldP_snoc (ps : List (Nat × Nat)) (p : Nat × Nat) (d : List UInt8) : foldP (ps ++ [p]) d = fold1 (foldP ps d) p := by
  simp [foldP]
theorem foldP_len : ∀ (ps : List (Nat × Nat)) (d : List UInt8), (∀ p ∈ ps, p.1 + p.2 ≤ d.length) → (foldP ps d).length = d.length
  | [], _, _ => rfl
  | p :: ps, d, h => by
    have h1 := fold1_len (h p (by simp))
    have h2 := foldP_len ps (fold1 d p) (fun q hq => by rw [h1]; exact h q (List.mem_cons_of_mem _ hq))
    show (foldP ps (fold1 d p)).length = _
    rw [h2, h1]
theorem partsD_bound {t : Int} {d : List UInt8} : ∀ p ∈ partsD t d, p.1 + p.2 ≤ d.length := by
  unfold partsD
  cases hp : parts t d with
  | none => intro p h; cases h
  | some ps => exact (parts_bound hp).2
theorem prefix_bound {t : Int} {d : List UInt8} {pre : List (Nat × Nat)} {x : Nat × Nat} (h : pre ++ [x] <+: partsD t d) : (foldP pre d).length = d.length ∧ x.1 + x.2 ≤ d.length := by
  have hb := partsD_bound (t := t) (d := d)
  exact ⟨foldP_len pre d (fun p hp => hb p (h.subset (by simp [hp]))), hb x (h.subset (by simp))⟩
end Rd

/-- s[:hi] of a string. -/
theorem run_to {P : Program} {t : TypeId} (h : P.underlying t = some .string) {l l' : List UInt8} {hi : Int} (h0 : 0 ≤ hi) (h2 : hi ≤ l.length) (hl : l' = l.take hi.toNat) (w : World) :
    (Instr.slice t (.string ⟨l.toArray⟩) none (some (.int .i64 hi)) none).run P w = .ok (.string ⟨l'.toArray⟩) w := by
  have hb : 0 ≤ hi ∧ hi ≤ ((⟨l.toArray⟩ : ByteArray).size : Int) := ⟨h0, by show hi ≤ (l.toArray.size : Int); simpa using h2⟩
  simp only [run_slice_string_to_if w t ⟨l.toArray⟩ .i64 hi h]
  rw [if_pos (by first | exact hb | exact hb.2)]
  rw [ByteArray.extract_mk, hl, List.drop_zero, Nat.sub_zero]

/-- A block of cells, whatever its size. -/
def Block (W : World) (B : Nat) (cs : Array Value) (t : TypeId) : Prop := W.heap[B]? = some (.cells cs t (0, 0))
theorem block_own {β : Type} (B : Nat) (cs : Array Value) (t : TypeId) : Own (fun (_ : β) W => Block W B cs t) := fun s X Y row hs hg hrow =>
  (hg.block B (Array.getElem?_eq_some_iff.1 hs).1 (fun e => by
    obtain ⟨o, ho, hc⟩ := hrow B e.symm
    rw [show X.heap[B]? = _ from hs] at ho
    cases ho
    cases hc)).trans hs
theorem Block.cell {W : World} {B : Nat} {cs : Array Value} {t : TypeId} (h : Block W B cs t) {i : Nat} {v : Value} (hv : cs[i]? = some v) : W.cell? ⟨B, i, none⟩ = some v := by
  have := cell_of_row W B i cs t (0, 0) h
  rw [this, hv]
theorem Block.frozen {W : World} {B : Nat} {cs : Array Value} {t : TypeId} (h : Block W B cs t) (i : Nat) : W.frozen? ⟨B, i, none⟩ = false := by
  simp [World.frozen?, show W.heap[B]? = _ from h]
theorem Block.new (W : World) (cs : Array Value) (t : TypeId) : Block (W.alloc (.cells cs t)) W.heap.size cs t := World.alloc_heap_new W _
theorem Block.lt {W : World} {B : Nat} {cs : Array Value} {t : TypeId} (h : Block W B cs t) : B < W.heap.size := (Array.getElem?_eq_some_iff.1 h).1
theorem Block.below {W W' : World} {B : Nat} {cs : Array Value} {t : TypeId} (h : Block W B cs t) (hb : Below W.heap.size W W') : Block W' B cs t := (hb.block B h.lt).trans h
theorem Block.alloc {W : World} {B : Nat} {cs : Array Value} {t : TypeId} (h : Block W B cs t) (o : Obj) : Block (W.alloc o) B cs t := h.below ((Below.refl _ W).alloc (Nat.le_refl _) o)
theorem Block.other {W : World} {B B' : Nat} {cs : Array Value} {t : TypeId} (h : Block W B cs t) (hne : B ≠ B') (i : Nat) (u : Value) : Block (W.setCell ⟨B', i, none⟩ u) B cs t :=
  (Below.heap_setCell W ⟨B', i, none⟩ u B hne).trans h

theorem Block.set {W : World} {B : Nat} {cs : Array Value} {t : TypeId} (h : Block W B cs t) (i : Nat) (v : Value) : Block (W.setCell ⟨B, i, none⟩ v) B (cs.setIfInBounds i v) t := by
  unfold Block
  rw [setCell_eq_setRow W B i cs t (0, 0) v h]
  exact setRow_heap W B cs _ t _ h

set_option maxRecDepth 100000 in
set_option maxHeartbeats 8000000 in
theorem folded_any (r : Rd.RR) (w : World) (hn : r.name.length ≤ 100000) (hs : r.data.length ≤ 100000) :
    Calls Try.prog 94 #[rrV r] w fun e w' => e = .returned (rrV (Rd.foldR r)) ∧ Below w.heap.size w w' := by
  obtain ⟨n, t, c, l, d⟩ := r
  simp only at hn hs
  have hFR : Hid (rrV (Rd.foldR ⟨n, t, c, l, d⟩) = .agg #[.string ⟨(Nm.fold n).toArray⟩, .int .i64 t, .int .i64 c, .int .i64 0, .string ⟨(Rd.foldP (Rd.partsD t d) d).toArray⟩]) := Lib.hid rfl
  unfold rrV at hFR ⊢
  refine (callsIn_wide (n := 9)).1 ?_
  refine callsIn_of_wp_marks Try.func94 rfl trivial ?_ rfl
  simp only [Try.ntmps94, List.size_toArray, List.length_cons, List.length_nil, Nat.reduceAdd, Nat.reduceSub, Array.replicate_succ, Array.replicate_zero, List.push_toArray, List.append_toArray, List.nil_append, List.cons_append]
  gi_wp2_with (refine ⟨trivial, ?_⟩; gi_at_call 98; refine (callsIn_wide.2 (names_any t d _)).mono ?_; rintro e w' ⟨rfl, rfl⟩)
  have hk1 : Block (((((w.alloc (.cells #[.string ⟨n.toArray⟩, .int .i64 t, .int .i64 c, .int .i64 l, .string ⟨d.toArray⟩] 51)).alloc (.cells #[.string ⟨#[]⟩, .int .i64 0, .int .i64 0, .int .i64 0, .string ⟨#[]⟩] 51)).alloc (.cells #[.string ⟨d.toArray⟩] 9)).alloc (.cells #[.int .i64 t] 3)).alloc (.cells #[.string ⟨d.toArray⟩] 9)) w.heap.size #[.string ⟨n.toArray⟩, .int .i64 t, .int .i64 c, .int .i64 l, .string ⟨d.toArray⟩] 51 := ((((Block.new w #[.string ⟨n.toArray⟩, .int .i64 t, .int .i64 c, .int .i64 l, .string ⟨d.toArray⟩] 51).alloc _).alloc _).alloc _).alloc _
  have hk2 := (((Block.new (w.alloc (.cells #[.string ⟨n.toArray⟩, .int .i64 t, .int .i64 c, .int .i64 l, .string ⟨d.toArray⟩] 51)) #[.string ⟨#[]⟩, .int .i64 0, .int .i64 0, .int .i64 0, .string ⟨#[]⟩] 51).alloc (.cells #[.string ⟨d.toArray⟩] 9)).alloc (.cells #[.int .i64 t] 3)).alloc (.cells #[.string ⟨d.toArray⟩] 9)
  have hbx := ((Boxed.new ((w.alloc (.cells #[.string ⟨n.toArray⟩, .int .i64 t, .int .i64 c, .int .i64 l, .string ⟨d.toArray⟩] 51)).alloc (.cells #[.string ⟨#[]⟩, .int .i64 0, .int .i64 0, .int .i64 0, .string ⟨#[]⟩] 51)) 9 (.string ⟨d.toArray⟩)).alloc (.cells #[.int .i64 t] 3)).alloc (.cells #[.string ⟨d.toArray⟩] 9)
  have hbt := (Boxed.new (((w.alloc (.cells #[.string ⟨n.toArray⟩, .int .i64 t, .int .i64 c, .int .i64 l, .string ⟨d.toArray⟩] 51)).alloc (.cells #[.string ⟨#[]⟩, .int .i64 0, .int .i64 0, .int .i64 0, .string ⟨#[]⟩] 51)).alloc (.cells #[.string ⟨d.toArray⟩] 9)) 3 (.int .i64 t)).alloc (.cells #[.string ⟨d.toArray⟩] 9)
  have hbd := Boxed.new ((((w.alloc (.cells #[.string ⟨n.toArray⟩, .int .i64 t, .int .i64 c, .int .i64 l, .string ⟨d.toArray⟩] 51)).alloc (.cells #[.string ⟨#[]⟩, .int .i64 0, .int .i64 0, .int .i64 0, .string ⟨#[]⟩] 51)).alloc (.cells #[.string ⟨d.toArray⟩] 9)).alloc (.cells #[.int .i64 t] 3)) 9 (.string ⟨d.toArray⟩)
  have hbw : Below w.heap.size w (((((w.alloc (.cells #[.string ⟨n.toArray⟩, .int .i64 t, .int .i64 c, .int .i64 l, .string ⟨d.toArray⟩] 51)).alloc (.cells #[.string ⟨#[]⟩, .int .i64 0, .int .i64 0, .int .i64 0, .string ⟨#[]⟩] 51)).alloc (.cells #[.string ⟨d.toArray⟩] 9)).alloc (.cells #[.int .i64 t] 3)).alloc (.cells #[.string ⟨d.toArray⟩] 9)) := (((((Below.refl _ w).alloc (Nat.le_refl _) _).alloc (by simp) _).alloc (by simp; omega) _).alloc (by simp; omega) _).alloc (by simp; omega) _
  have hsz : (((((w.alloc (.cells #[.string ⟨n.toArray⟩, .int .i64 t, .int .i64 c, .int .i64 l, .string ⟨d.toArray⟩] 51)).alloc (.cells #[.string ⟨#[]⟩, .int .i64 0, .int .i64 0, .int .i64 0, .string ⟨#[]⟩] 51)).alloc (.cells #[.string ⟨d.toArray⟩] 9)).alloc (.cells #[.int .i64 t] 3)).alloc (.cells #[.string ⟨d.toArray⟩] 9)).heap.size = w.heap.size + 5 := by simp
  simp only [World.size_alloc] at hk2 hbx hbt hbd
  generalize (((((w.alloc (.cells #[.string ⟨n.toArray⟩, .int .i64 t, .int .i64 c, .int .i64 l, .string ⟨d.toArray⟩] 51)).alloc (.cells #[.string ⟨#[]⟩, .int .i64 0, .int .i64 0, .int .i64 0, .string ⟨#[]⟩] 51)).alloc (.cells #[.string ⟨d.toArray⟩] 9)).alloc (.cells #[.int .i64 t] 3)).alloc (.cells #[.string ⟨d.toArray⟩] 9)) = W0 at *
  refine wpIn_rangeFunc_ownB rfl (by omega) (gf := 113) (lb := #[.pointer (some ⟨w.heap.size + 1 + 1 + 1, 0, none⟩), .pointer (some ⟨w.heap.size + 1 + 1 + 1 + 1, 0, none⟩)]) (by rfl) trivial (enters_of Try.func113 (by kernel_rfl) rfl)
    (names_stops _ (by omega) (w.heap.size + 1 + 1 + 1) (w.heap.size + 1 + 1 + 1 + 1) t d hs _ hbt.cell hbd.cell) kb_t kb_b (Below.refl _ _) (fun _ => rfl)
    (fun pre W => (((Boxed W (w.heap.size + 1 + 1) 9 (.string ⟨(Rd.foldP pre d).toArray⟩) ∧ Boxed W (w.heap.size + 1 + 1 + 1 + 1) 9 (.string ⟨d.toArray⟩)) ∧ Block W w.heap.size #[.string ⟨n.toArray⟩, .int .i64 t, .int .i64 c, .int .i64 l, .string ⟨d.toArray⟩] 51) ∧ Block W (w.heap.size + 1) #[.string ⟨#[]⟩, .int .i64 0, .int .i64 0, .int .i64 0, .string ⟨#[]⟩] 51) ∧ Below w.heap.size w W)
    (fun c pre W => False)
    (ownFrom_book (((((Own.from (boxed_own (w.heap.size + 1 + 1) 9 (fun pre : List (Nat × Nat) => .string ⟨(Rd.foldP pre d).toArray⟩)) _).and (Own.from (boxed_own (w.heap.size + 1 + 1 + 1 + 1) 9 (fun _ : List (Nat × Nat) => .string ⟨d.toArray⟩)) _)).and (Own.from (block_own w.heap.size #[.string ⟨n.toArray⟩, .int .i64 t, .int .i64 c, .int .i64 l, .string ⟨d.toArray⟩] 51) _)).and (Own.from (block_own (w.heap.size + 1) #[.string ⟨#[]⟩, .int .i64 0, .int .i64 0, .int .i64 0, .string ⟨#[]⟩] 51) _)).and (ownFrom_below (Nat.le_refl _) (by omega))))
    (fun c s A B row hs hg hr => hs)
    ⟨⟨⟨⟨hbx, hbd⟩, hk1⟩, hk2⟩, hbw⟩
    (fun x => { tmps := #[.agg #[.string ⟨n.toArray⟩, .int .i64 t, .int .i64 c, .int .i64 l, .string ⟨d.toArray⟩], .pointer (some ⟨w.heap.size, 0, none⟩), .pointer (some ⟨w.heap.size + 1, 0, none⟩), .pointer (some ⟨w.heap.size + 1 + 1, 0, none⟩), .int .i64 (x.1 : Int), .int .i64 (x.2 : Int), .pointer (some ⟨w.heap.size, 4, none⟩), .string ⟨d.toArray⟩, .pointer (some ⟨w.heap.size, 1, none⟩), .int .i64 t, .pointer (some ⟨w.heap.size, 4, none⟩), .string ⟨d.toArray⟩, (.func (.func 113) #[] #[.pointer (some ⟨w.heap.size + 1 + 1 + 1, 0, none⟩), .pointer (some ⟨w.heap.size + 1 + 1 + 1 + 1, 0, none⟩)]), .int .i64 (x.1 : Int), .int .i64 (x.2 : Int), undef, undef, undef, undef, undef, undef, undef, undef, undef, undef, undef, undef, undef, undef, undef, undef, undef, undef, undef, undef, undef, undef, undef, undef, undef, undef], defers := [] }) ?assign ?body ?done ?stop
  case assign =>
    intro l x W K hK
    gi_wp2
    exact hK
  case body =>
    have hF : Fence.wide.fn 84 := trivial
    rintro l1 pre x W ⟨⟨⟨⟨hx, hd⟩, hr1⟩, hr2⟩, hbl⟩ hlen hsp
    obtain ⟨hcl, hxb⟩ := Rd.prefix_bound hsp
    have hfs := Rd.foldP_snoc pre x d
    obtain ⟨q, hq⟩ : ∃ q, Rd.foldP pre d = q := ⟨_, rfl⟩
    rw [hq] at hx hcl hfs
    have c3 := Grew.cell hx.cell
    obtain ⟨A, hA⟩ : ∃ A, q.take x.1 = A := ⟨_, rfl⟩
    obtain ⟨X, hX⟩ : ∃ X, (q.drop x.1).take x.2 = X := ⟨_, rfl⟩
    obtain ⟨Z, hZ⟩ : ∃ Z, q.drop (x.1 + x.2) = Z := ⟨_, rfl⟩
    have hXl : X.length ≤ 100000 := by rw [← hX, List.length_take, List.length_drop]; omega
    have hs1 := fun W => run_to (P := Try.prog) Try.underlying9 (l := q) (l' := A) (hi := (x.1 : Int)) (by omega) (by omega) (by rw [← hA]; rfl) W
    have hs2 := fun W => run_cut (P := Try.prog) Try.underlying9 (l := q) (l' := X) (lo := (x.1 : Int)) (hi := (x.1 : Int) + (x.2 : Int)) (by omega) (by omega) (by omega) (by rw [← hX]; congr 1; omega) W
    have hs3 := fun W => run_from (P := Try.prog) Try.underlying9 (l := q) (l' := Z) (lo := (x.1 : Int) + (x.2 : Int)) (by omega) (by omega) (by rw [← hZ]; congr 1) W
    have hw1 : IntKind.i64.wrap ((x.1 : Int) + (x.2 : Int)) = (x.1 : Int) + (x.2 : Int) := IntWalk.i64_in _ (by omega)
    obtain ⟨Y, hY⟩ : ∃ Y, Nm.fold X = Y := ⟨_, rfl⟩
    have hfold := fun W => fold_any X W hXl
    rw [hY] at hfold
    have hfin : Rd.foldP (pre ++ [x]) d = A ++ Y ++ Z := by rw [hfs, ← hA, ← hY, ← hX, ← hZ]; rfl
    obtain ⟨V, hV⟩ : ∃ V, A ++ Y ++ Z = V := ⟨_, rfl⟩
    obtain ⟨U, hU⟩ : ∃ U, A ++ Y = U := ⟨_, rfl⟩
    have hVl : V.length ≤ 100000 := by
      rw [← hV, ← hfin, hfs, Rd.fold1_len (by rw [hcl]; exact hxb)]; omega
    have hUl : U.length ≤ 100000 := by
      have : U.length ≤ V.length := by rw [← hV, ← hU]; simp
      omega
    have hAl : A.length ≤ 100000 := by rw [← hA, List.length_take]; omega
    have hYl : Y.length ≤ 100000 := by rw [← hY, Rd.fold_len]; exact hXl
    have hZl : Z.length ≤ 100000 := by rw [← hZ, List.length_drop]; omega
    have ha1 := fun W => run_string_add_lists (P := Try.prog) W A Y (by omega) (by omega)
    have ha2 := fun W => run_string_add_lists (P := Try.prog) W (A ++ Y) Z (by rw [hU]; omega) (by omega)
    rw [hU] at ha1 ha2 hV
    rw [hV] at ha2
    have HFIN : Hid (Rd.foldP (pre ++ [x]) d = V) := Lib.hid (by rw [hfin, hU, hV])
    have HFOLD := Lib.hid hfold
    clear hsp hfs hq hA hX hZ hY hfin hV hU hfold hcl
    gi_wp2
    refine wpIn_region_tailG (by simp) rfl rfl (by kernel_rfl) (by kernel_rfl) (by kernel_rfl) (by kernel_rfl) (by kernel_rfl) ?_
    dsimp only [swapL, List.getLast]
    repeat (gi_big_quiet_step ((gi_at_call 84; exact Grew.calls _ (.string ⟨Y.toArray⟩) (CallsIn.inRound l1 (callsIn_wide.2 (HFOLD.out _))))))
    refine wpQuietIn_idle rfl rfl ?_
    rintro W1 ⟨iG, hi⟩
    have hdw : Below W.heap.size W W1 := by rw [hi]; exact iG.below
    clear hi
    have hx' := boxed_below hx hdw
    have c3' := hx'.cell
    have f3' := hx'.frozen
    have hd' := boxed_below hd hdw
    have hkb : KB (w.heap.size + 1 + 1 + 1 + 1) W (W1.setCell ⟨w.heap.size + 1 + 1, 0, none⟩ (.string ⟨V.toArray⟩)) := fun u hu => by
      rw [hd.cell] at hu
      cases hu
      exact (hd'.other (by omega) _).cell
    have hko := ((ko_below hdw).trans (KeepsOthers.setCell W1 ⟨w.heap.size + 1 + 1, 0, none⟩ (.string ⟨V.toArray⟩))).from W0.heap.size
    gi_wp2
    exact ⟨keepsFrom_book hko, hkb, ⟨⟨⟨by rw [HFIN.out]; exact hx'.set _, hd'.other (by omega) _⟩, (hr1.below hdw).other (by omega) _ _⟩, (hr2.below hdw).other (by omega) _ _⟩, (below_trans hbl hdw).setCell (p := ⟨w.heap.size + 1 + 1, 0, none⟩) (by show w.heap.size ≤ w.heap.size + 1 + 1; omega) _⟩
  case done =>
    have hF : Fence.wide.fn 84 := trivial
    rintro D ys W hD hS ⟨⟨⟨⟨hx, hd⟩, hr1⟩, hr2⟩, hbl⟩ hK
    rw [hS] at hx
    obtain ⟨q, hq⟩ : ∃ q, Rd.foldP (Rd.partsD t d) d = q := ⟨_, rfl⟩
    rw [hq] at hx hFR
    obtain ⟨m, hm⟩ : ∃ m, Nm.fold n = m := ⟨_, rfl⟩
    have hfold := fun W => fold_any n W hn
    rw [hm] at hfold hFR
    have HFOLD := Lib.hid hfold
    have c0 := Grew.cell (hr1.cell (i := 0) rfl)
    have c1 := Grew.cell (hr1.cell (i := 1) rfl)
    have c2 := Grew.cell (hr1.cell (i := 2) rfl)
    have c3 := Grew.cell hx.cell
    clear hS hq hm hfold
    gi_wp2
    refine wpIn_region_tailG (by simp) rfl rfl (by kernel_rfl) (by kernel_rfl) (by kernel_rfl) (by kernel_rfl) (by kernel_rfl) ?_
    dsimp only [swapL, List.getLast]
    repeat (gi_big_quiet_step ((gi_at_call 84; exact Grew.calls _ (.string ⟨m.toArray⟩) (callsIn_wide.2 (HFOLD.out _)))))
    refine wpQuietIn_idle rfl rfl ?_
    rintro W1 ⟨iG, hi⟩
    have hdw : Below W.heap.size W W1 := by rw [hi]; exact iG.below
    clear hi
    have hr2' := hr2.below hdw
    have d0 := hr2'.cell (i := 0) rfl
    have d1 := hr2'.cell (i := 1) rfl
    have d2 := hr2'.cell (i := 2) rfl
    have d3 := hr2'.cell (i := 3) rfl
    have d4 := hr2'.cell (i := 4) rfl
    have f2 := hr2'.frozen
    have hD1 : W1.heap[D]? = some (.deferred (some [])) := (hdw.block D (Array.getElem?_eq_some_iff.1 hK).1).trans hK
    have hb1 := below_trans hbl hdw
    gi_wp2
    have hblk : Block (((((W1.setCell ⟨w.heap.size + 1, 0, none⟩ (.string ⟨m.toArray⟩)).setCell ⟨w.heap.size + 1, 1, none⟩ (.int .i64 t)).setCell ⟨w.heap.size + 1, 2, none⟩ (.int .i64 c)).setCell ⟨w.heap.size + 1, 3, none⟩ (.int .i64 0)).setCell ⟨w.heap.size + 1, 4, none⟩ (.string ⟨q.toArray⟩)) (w.heap.size + 1) #[.string ⟨m.toArray⟩, .int .i64 t, .int .i64 c, .int .i64 0, .string ⟨q.toArray⟩] 51 := ((((hr2'.set 0 _).set 1 _).set 2 _).set 3 _).set 4 _
    have hbel := below5 hb1 (g := w.heap.size + 1) (by omega) (.string ⟨m.toArray⟩) (.int .i64 t) (.int .i64 c) (.int .i64 0) (.string ⟨q.toArray⟩)
    have hD2 : (((((W1.setCell ⟨w.heap.size + 1, 0, none⟩ (.string ⟨m.toArray⟩)).setCell ⟨w.heap.size + 1, 1, none⟩ (.int .i64 t)).setCell ⟨w.heap.size + 1, 2, none⟩ (.int .i64 c)).setCell ⟨w.heap.size + 1, 3, none⟩ (.int .i64 0)).setCell ⟨w.heap.size + 1, 4, none⟩ (.string ⟨q.toArray⟩)).heap[D]? = some (.deferred (some [])) := by
      have hne : D ≠ w.heap.size + 1 := by omega
      rw [Below.heap_setCell _ _ _ _ hne, Below.heap_setCell _ _ _ _ hne, Below.heap_setCell _ _ _ _ hne, Below.heap_setCell _ _ _ _ hne, Below.heap_setCell _ _ _ _ hne]
      exact hD1
    generalize (((((W1.setCell ⟨w.heap.size + 1, 0, none⟩ (.string ⟨m.toArray⟩)).setCell ⟨w.heap.size + 1, 1, none⟩ (.int .i64 t)).setCell ⟨w.heap.size + 1, 2, none⟩ (.int .i64 c)).setCell ⟨w.heap.size + 1, 3, none⟩ (.int .i64 0)).setCell ⟨w.heap.size + 1, 4, none⟩ (.string ⟨q.toArray⟩)) = W2 at *
    refine ⟨by simp, .inl ⟨_, _, rfl, run_takeDeferred hD2, ?_⟩⟩
    have hblk3 := block_own (w.heap.size + 1) #[.string ⟨m.toArray⟩, .int .i64 t, .int .i64 c, .int .i64 0, .string ⟨q.toArray⟩] 51 () W2 _ (some D) hblk (grownBy_putObj' W2 D (.deferred none)) (fun r e => by cases e; exact ⟨_, hD2, rfl⟩)
    have g0 := hblk3.cell (i := 0) rfl
    have g1 := hblk3.cell (i := 1) rfl
    have g2 := hblk3.cell (i := 2) rfl
    have g3 := hblk3.cell (i := 3) rfl
    have g4 := hblk3.cell (i := 4) rfl
    refine ⟨.agg #[.string ⟨m.toArray⟩, .int .i64 t, .int .i64 c, .int .i64 0, .string ⟨q.toArray⟩], ?_, ?_⟩
    · simp [results, Try.results94, go_sem, g0, g1, g2, g3, g4]
    · exact ⟨by rw [← hFR.out], below_putD hbel (by omega) hD2 rfl rfl _⟩
  case stop =>
    rintro D c pre W hD hSp h hK
    exact h.elim
end Go.Proofs.Ytdodamkndigjkaa

/- The law of slots in a round of a range over a function. -/
namespace Go.Proofs.Ytdodamkndigjkaa
open Go

theorem rowsIn_wide {l n : Nat} {P : Program} {row : String} {args : Array Value} {w : World} {R : Value → World → Prop} (h : Rows P row args w R) : RowsIn (Fence.wide.inRound l) n P row args w R := by
  intro c cs _
  obtain ⟨v, w', r, s⟩ := h c cs
  exact ⟨v, w', r, (stepsIn_wide (P := P)).2 s⟩
theorem wpIn_of_wp {l n : Nat} {P : Program} {o : Oper} {a : Act} {w : World} {K : Act → World → Prop} {Q : Exit → Act → World → Prop} (hd : ∀ c, o.op ≠ .defer c) (h : o.wp P a w K Q) : o.wpIn (Fence.wide.inRound l) n P a w K Q := by
  refine ⟨fun _ _ => trivial, ?_⟩
  rw [Oper.semAt_eq _ _ _ hd]
  unfold Oper.wp at h
  generalize (execOp a.eval o).run P w = res at h
  cases res with
  | ok x w' =>
    cases x with
    | value v => exact h
    | skip => exact h
    | defer d => exact h
    | enter f args => exact ⟨fun e => by simp [Fence.wide] at e, CallsIn.inRound l (callsIn_wide.2 h)⟩
    | row row args => exact ⟨fun e => by simp [Fence.wide] at e, rowsIn_wide h⟩
    | _ => first | exact h.elim | exact h
  | halt x w' =>
    cases x with
    | panic v => exact h
    | _ => first | exact h.elim | exact h

theorem countP_lt {l : List Nat} {p q : Nat → Bool} {i : Nat} (hi : i ∈ l) (hpq : ∀ j ∈ l, p j = true → q j = true) (hq : q i = true) (hp : p i = false) : l.countP p < l.countP q := by
  induction l with
  | nil => cases hi
  | cons x l ih =>
    rw [List.countP_cons, List.countP_cons]
    rcases List.mem_cons.1 hi with rfl | hi
    · have := List.countP_mono_left (p := p) (q := q) (l := l) (fun j hj => hpq j (List.mem_cons_of_mem _ hj))
      rw [hq, hp]
      simp
      omega
    · have h1 := ih hi (fun j hj => hpq j (List.mem_cons_of_mem _ hj))
      have h2 := hpq x (List.mem_cons_self ..)
      cases hpx : p x <;> cases hqx : q x <;> simp_all <;> omega

section
variable {P : Program} {ops : Array Oper} {Q : Exit → Act → World → Prop} {le : World → World → Prop} {φ : Nat → Value → World → Prop} {a0 : Act} {w0 : World}
theorem wpAnyIn_of_steps {r n : Nat} (hnd : noDefer ops = true) (trans : ∀ {x y z}, le x y → le y z → le x z) (stable : ∀ j v x y, le x y → φ j v x → φ j v y) (hD : dstsOk ops a0.tmps.size = true)
    (steps : ∀ i o, ops[i]? = some o → StepOk P ops Q le φ a0 w0 i o)
    (fin : ∀ listed a w, Inv ops le φ a0 w0 listed a w → Region.ready .any ops listed = [] → Q .normal a w) :
    ∀ (fuel : Nat) (listed : Array Bool) (a : Act) (w : World), Inv ops le φ a0 w0 listed a w → (List.range ops.size).countP (fun i => !listed.getD i true) ≤ fuel → wpAnyIn (Fence.wide.inRound r) n P .any ops Q fuel listed a w
  | 0, listed, a, w, I, hc => by
    have : Region.ready .any ops listed = [] := by
      rw [List.eq_nil_iff_forall_not_mem]
      intro i hi
      obtain ⟨hn, o, ho, _⟩ := mem_ready.1 hi
      have hlt : i < ops.size := (Array.getElem?_eq_some_iff.1 ho).1
      have : 0 < (List.range ops.size).countP (fun i => !listed.getD i true) := List.countP_pos_iff.2 ⟨i, List.mem_range.2 hlt, by simp only [hn, Bool.not_false]⟩
      omega
    exact ⟨this, fin listed a w I this⟩
  | fuel + 1, listed, a, w, I, hc => by
    refine ⟨fun h => fin listed a w I h, fun i hi => ?_⟩
    obtain ⟨hn, o, ho, _⟩ := mem_ready.1 hi
    have hlt : i < ops.size := (Array.getElem?_eq_some_iff.1 ho).1
    have hs := steps i o ho a w (fun a' w' => wpAnyIn (Fence.wide.inRound r) n P .any ops Q fuel (listed.setIfInBounds i true) a' w') (I.now hi)
      (fun v w' hw hv => wpAnyIn_of_steps hnd trans stable hD steps fin fuel _ _ _ (I.step trans stable hD hi ho hw (fun _ _ => hv)) (by
        have hlt' : i < listed.size := by rw [I.size]; exact hlt
        have h1 : (List.range ops.size).countP (fun j => !(listed.setIfInBounds i true).getD j true) < (List.range ops.size).countP (fun i => !listed.getD i true) := by
          refine countP_lt (i := i) (List.mem_range.2 hlt) ?_ ?_ ?_
          · intro j _ hj
            by_cases hji : j = i
            · subst hji; rw [hn]; rfl
            · rw [getD_set_ne true (Ne.symm hji)] at hj; exact hj
          · rw [hn]; rfl
          · simp [Array.getD_eq_getD_getElem?, Array.getElem?_setIfInBounds_self_of_lt hlt']
        omega))
    unfold wpOpIn
    rw [ho]
    simp only
    split
    · rename_i hw; rw [if_pos hw] at hs; exact wpIn_of_wp (noDefer_spec hnd ho) hs
    · rename_i hw; rw [if_neg hw] at hs; exact ⟨fun _ _ => trivial, hs⟩
/-- The law. -/
theorem wpIn_region_slots {id r n : Nat} {l : List Oper} (le : World → World → Prop) (φ : Nat → Value → World → Prop) (refl : ∀ x, le x x) (trans : ∀ {x y z}, le x y → le y z → le x z) (stable : ∀ j v x y, le x y → φ j v x → φ j v y)
    (hm : P.follows .mixedOrders = true) (hnd : noDefer l.toArray = true) (hF : fwdOk l.toArray = true) (hD : dstsOk l.toArray a0.tmps.size = true)
    (steps : StepsOk P l.toArray Q le φ a0 w0.drew 0 l)
    (fin : ∀ w, le w0.drew w → FinAll φ w (fun a => Q .normal a w) 0 l a0) :
    (Code.region id l.toArray true).wpIn (Fence.wide.inRound r) n P Q a0 w0 := by
  refine wpIn_region_any hm ?_
  refine wpAnyIn_of_steps (le := le) (φ := φ) (a0 := a0) (w0 := w0.drew) hnd trans stable hD (fun i o ho => ?_) (fun listed a w I hr => ?_) _ _ _ _ ?_ ?_
  · have := stepsOk_at l 0 steps i o (by simpa using ho)
    rwa [Nat.zero_add] at this
  · have hall := fun i hi => all_listed hF I.size hr (i + 1) i (Nat.lt_succ_self i) hi
    have hf := finAll_take (fun d => a.eval (.tmp d)) l 0 a0 (fin w I.le) (fun j o d hj hd => by
      rw [Nat.zero_add]
      have hj' : l.toArray[j]? = some o := by simpa using hj
      exact I.done j d (by unfold dstAt; rw [hj']; exact hd) (hall j (Array.getElem?_eq_some_iff.1 hj').1))
    have hin : ∀ o ∈ l, ∀ d, o.dst = some d → d < a0.tmps.size := by
      intro o ho d hd
      obtain ⟨j, hj⟩ := List.getElem?_of_mem ho
      have hj' : l.toArray[j]? = some o := by simpa using hj
      unfold dstsOk at hD
      rw [List.all_eq_true] at hD
      have := hD j (List.mem_range.2 (Array.getElem?_eq_some_iff.1 hj').1)
      have e : dstAt l.toArray j = some d := by unfold dstAt; rw [hj']; exact hd
      rw [e] at this
      simp only [Bool.and_eq_true, decide_eq_true_eq] at this
      exact this.1
    have hs := putAll_size (fun d => a.eval (.tmp d)) l a0
    have : putAll a0 l (fun d => a.eval (.tmp d)) = a := by
      refine act_ext (hs.1.trans I.tmps.symm) (hs.2.trans I.defers.symm) fun k => ?_
      rw [putAll_get _ _ _ _ hin]
      split
      · rfl
      · rename_i h
        refine (I.rest k fun j hj hd => h ?_).symm
        rw [List.any_eq_true]
        unfold dstAt at hd
        cases ho : l.toArray[j]? with
        | none => rw [ho] at hd; cases hd
        | some o =>
          rw [ho] at hd
          exact ⟨o, List.mem_of_getElem? (by simpa using ho), by simpa using hd⟩
    rw [this] at hf
    exact hf
  · refine ⟨by simp, refl _, rfl, rfl, ?_, ?_, fun k _ => rfl⟩
    · intro j o _ hl
      simp only [Array.getD_eq_getD_getElem?, Array.getElem?_replicate] at hl
      split at hl <;> cases hl
    · intro j d _ hl
      simp only [Array.getD_eq_getD_getElem?, Array.getElem?_replicate] at hl
      split at hl <;> cases hl
  · have := List.countP_le_length (p := fun i => !(Array.replicate l.toArray.size false).getD i true) (l := List.range l.toArray.size)
    simpa using this
end
end Go.Proofs.Ytdodamkndigjkaa
