/- Same: two records compared. -/
import Derived.Test.YtnnoooecbbkggaaDoorFolded
import Derived.Laws.StructEq
namespace Go.Proofs.YtnnoooecbbkggaaDoor
open Go.RowKit Go.Shelf
attribute [local go_sem] Oper.semAt_some

theorem fieldsRR : Tryd.prog.fieldsOf 23 = #[{ name := "Name", type := 9, offset := 0, embedded := false, tag := "", pkgPath := "", byteOffset := 0 }, { name := "Type", type := 3, offset := 1, embedded := false, tag := "", pkgPath := "", byteOffset := 16 },
    { name := "Class", type := 3, offset := 2, embedded := false, tag := "", pkgPath := "", byteOffset := 24 }, { name := "TTL", type := 3, offset := 3, embedded := false, tag := "", pkgPath := "", byteOffset := 32 }, { name := "Data", type := 9, offset := 4, embedded := false, tag := "", pkgPath := "", byteOffset := 40 }] := by
  unfold Program.fieldsOf
  rw [Tryd.underlying23]
theorem heldRR : Tryd.prog.stoodInHeld 23 = false := by kernel_rfl
def eqRR (a b : Rd.RR) : Bool := a.name == b.name && (a.typ == b.typ && (a.cls == b.cls && (a.ttl == b.ttl && a.data == b.data)))
theorem eqRR_iff (a b : Rd.RR) : eqRR a b = decide (a = b) := by
  rw [Bool.eq_iff_iff, decide_eq_true_iff]
  unfold eqRR
  cases a; cases b
  simp only [Bool.and_eq_true, beq_iff_eq, Rd.RR.mk.injEq]
theorem toList_mk (l : List UInt8) : (⟨l.toArray⟩ : ByteArray).toList = l := by rw [ByteArray.toList_eq]
theorem eql_rr (W : World) (a b : Rd.RR) : (binOp .eql 23 (rrV a) (rrV b)).run Tryd.prog W = .ok (.bool (decide (a = b))) W := by
  rw [← eqRR_iff]
  obtain ⟨n, t, c, l, d⟩ := a
  obtain ⟨n', t', c', l', d'⟩ := b
  unfold rrV eqRR
  simp only
  rw [run_eql_struct, run_equalIn_struct W 9999 23 _ _ (by rw [fieldsRR]; exact Tryd.underlying23) heldRR, fieldsRR]
  cases h1 : n == n' <;> cases h2 : t == t' <;> cases h3 : c == c' <;> cases h4 : l == l' <;> cases h5 : d == d' <;> simp [Op.eqFields, go_sem, toList_mk, h1, h2, h3, h4, h5]
theorem guard_rr (W : World) (x y : Operand) (a b : Rd.RR) : (eqGuard .eql 23 x y (rrV a) (rrV b)).run Tryd.prog W = .ok () W := by
  unfold rrV
  exact run_eqGuard_agg W .eql 23 x y _ _ (by kernel_rfl)

set_option maxRecDepth 100000 in
set_option maxHeartbeats 4000000 in
theorem same_any (a b : Rd.RR) (w : World) (ha : a.name.length ≤ 100000) (ha' : a.data.length ≤ 100000) (hb : b.name.length ≤ 100000) (hb' : b.data.length ≤ 100000) :
    Calls Tryd.prog 25 #[rrV a, rrV b] w fun e w' => e = .returned (.bool (Rd.sameR a b)) ∧ Below w.heap.size w w' := by
  have hfa := fun W => folded_any a W ha ha'
  have hfb := fun W => folded_any b W hb hb'
  obtain ⟨s, hs⟩ : ∃ s, Rd.sameR a b = s := ⟨_, rfl⟩
  have heq := fun W => eql_rr W (Rd.foldR a) (Rd.foldR b)
  have hgd := fun W x y => guard_rr W x y (Rd.foldR a) (Rd.foldR b)
  have hsd : decide (Rd.foldR a = Rd.foldR b) = s := hs
  rw [hs]
  rw [hsd] at heq
  clear hsd hs
  generalize Rd.foldR a = A at *
  generalize Rd.foldR b = B at *
  obtain ⟨n, t, c, l, d⟩ := a
  obtain ⟨n2, t2, c2, l2, d2⟩ := b
  obtain ⟨A0, A1, A2, A3, A4⟩ := A
  obtain ⟨B0, B1, B2, B3, B4⟩ := B
  unfold rrV at hfa hfb heq hgd ⊢
  simp only at hfa hfb heq hgd ⊢
  have HFA := Lib.hid hfa
  have HFB := Lib.hid hfb
  clear hfa hfb ha ha' hb hb'
  refine (callsIn_wide (n := 9)).1 ?_
  refine callsIn_of_wp Tryd.func25 rfl trivial ?_ rfl
  simp only [Tryd.ntmps25, List.size_toArray, List.length_cons, List.length_nil, Nat.reduceAdd, Nat.reduceSub, Array.replicate_succ, Array.replicate_zero, List.push_toArray, List.append_toArray, List.nil_append, List.cons_append]
  have hk1 := (Block.new w #[.string ⟨n.toArray⟩, .int .i64 t, .int .i64 c, .int .i64 l, .string ⟨d.toArray⟩] 23).alloc (.cells #[.string ⟨n2.toArray⟩, .int .i64 t2, .int .i64 c2, .int .i64 l2, .string ⟨d2.toArray⟩] 23)
  have hk2 := Block.new (w.alloc (.cells #[.string ⟨n.toArray⟩, .int .i64 t, .int .i64 c, .int .i64 l, .string ⟨d.toArray⟩] 23)) #[.string ⟨n2.toArray⟩, .int .i64 t2, .int .i64 c2, .int .i64 l2, .string ⟨d2.toArray⟩] 23
  rw [World.size_alloc] at hk2
  have hbw : Below w.heap.size w ((w.alloc (.cells #[.string ⟨n.toArray⟩, .int .i64 t, .int .i64 c, .int .i64 l, .string ⟨d.toArray⟩] 23)).alloc (.cells #[.string ⟨n2.toArray⟩, .int .i64 t2, .int .i64 c2, .int .i64 l2, .string ⟨d2.toArray⟩] 23)) := ((Below.refl _ w).alloc (Nat.le_refl _) _).alloc (by simp) _
  have hF : Fence.wide.fn 49 := trivial
  gi_wp2
  generalize ((w.alloc (.cells #[.string ⟨n.toArray⟩, .int .i64 t, .int .i64 c, .int .i64 l, .string ⟨d.toArray⟩] 23)).alloc (.cells #[.string ⟨n2.toArray⟩, .int .i64 t2, .int .i64 c2, .int .i64 l2, .string ⟨d2.toArray⟩] 23)) = W0 at *
  have a0 := Grew.cell (hk1.cell (i := 0) rfl)
  have b0 := Grew.cell (hk2.cell (i := 0) rfl)
  have a1 := Grew.cell (hk1.cell (i := 1) rfl)
  have b1 := Grew.cell (hk2.cell (i := 1) rfl)
  have a2 := Grew.cell (hk1.cell (i := 2) rfl)
  have b2 := Grew.cell (hk2.cell (i := 2) rfl)
  have a3 := Grew.cell (hk1.cell (i := 3) rfl)
  have b3 := Grew.cell (hk2.cell (i := 3) rfl)
  have a4 := Grew.cell (hk1.cell (i := 4) rfl)
  have b4 := Grew.cell (hk2.cell (i := 4) rfl)
  refine wpIn_region_grew (by kernel_rfl) (by kernel_rfl) (by kernel_rfl) ?_
  repeat (gi_big_quiet_step ((first
    | (gi_at_call 49; (with_reducible exact Grew.calls _ _ (callsIn_wide.2 (HFA.out _))))
    | (gi_at_call 49; (with_reducible exact Grew.calls _ _ (callsIn_wide.2 (HFB.out _)))))))
  refine wpQuietIn_nil ?_
  rintro W1 ⟨iG, hi⟩
  have hdw : Below W0.heap.size W0 W1 := by rw [hi]; exact iG.below
  clear hi
  gi_wp2
  go_ret
  exact ⟨rfl, below_trans hbw hdw⟩
end Go.Proofs.YtnnoooecbbkggaaDoor
