/- 5 texts put together: Same, Keys, Sets, KeyK, SeqY. -/
import Derived.Laws.StructEq
import Derived.Maps.OwnSet
import Derived.Maps.RangeWalk
import Derived.Lib.SlMapEqual
import Derived.DeepKeys4
import Derived.Carry
import Derived.Test.YtdodamkndigjkaaJB3
import Derived.Test.YtdodamkndigjkaaJB8
import Derived.Test.YtdodamkndigjkaaJB11
/- Same: two records compared. -/
namespace Go.Proofs.Ytdodamkndigjkaa
open Go.RowKit Go.Shelf
attribute [local go_sem] Oper.semAt_some

theorem fieldsRR : Try.prog.fieldsOf 51 = #[{ name := "Name", type := 9, offset := 0, embedded := false, tag := "", pkgPath := "", byteOffset := 0 }, { name := "Type", type := 3, offset := 1, embedded := false, tag := "", pkgPath := "", byteOffset := 16 },
    { name := "Class", type := 3, offset := 2, embedded := false, tag := "", pkgPath := "", byteOffset := 24 }, { name := "TTL", type := 3, offset := 3, embedded := false, tag := "", pkgPath := "", byteOffset := 32 }, { name := "Data", type := 9, offset := 4, embedded := false, tag := "", pkgPath := "", byteOffset := 40 }] := by
  unfold Program.fieldsOf
  rw [Try.underlying51]
theorem heldRR : Try.prog.stoodInHeld 51 = false := by kernel_rfl
def eqRR (a b : Rd.RR) : Bool := a.name == b.name && (a.typ == b.typ && (a.cls == b.cls && (a.ttl == b.ttl && a.data == b.data)))
theorem eqRR_iff (a b : Rd.RR) : eqRR a b = decide (a = b) := by
  rw [Bool.eq_iff_iff, decide_eq_true_iff]
  unfold eqRR
  cases a; cases b
  simp only [Bool.and_eq_true, beq_iff_eq, Rd.RR.mk.injEq]
theorem toList_mk (l : List UInt8) : (⟨l.toArray⟩ : ByteArray).toList = l := by rw [ByteArray.toList_eq]
theorem eql_rr (W : World) (a b : Rd.RR) : (binOp .eql 51 (rrV a) (rrV b)).run Try.prog W = .ok (.bool (decide (a = b))) W := by
  rw [← eqRR_iff]
  obtain ⟨n, t, c, l, d⟩ := a
  obtain ⟨n', t', c', l', d'⟩ := b
  unfold rrV eqRR
  simp only
  rw [run_eql_struct, run_equalIn_struct W 9999 51 _ _ (by rw [fieldsRR]; exact Try.underlying51) heldRR, fieldsRR]
  cases h1 : n == n' <;> cases h2 : t == t' <;> cases h3 : c == c' <;> cases h4 : l == l' <;> cases h5 : d == d' <;> simp [Op.eqFields, go_sem, h1, h2, h3, h4, h5]
theorem guard_rr (W : World) (x y : Operand) (a b : Rd.RR) : (eqGuard .eql 51 x y (rrV a) (rrV b)).run Try.prog W = .ok () W := by
  unfold rrV
  exact run_eqGuard_agg W .eql 51 x y _ _ (by kernel_rfl)

set_option maxRecDepth 100000 in
set_option maxHeartbeats 4000000 in
theorem same_any (a b : Rd.RR) (w : World) (ha : a.name.length ≤ 100000) (ha' : a.data.length ≤ 100000) (hb : b.name.length ≤ 100000) (hb' : b.data.length ≤ 100000) :
    Calls Try.prog 85 #[rrV a, rrV b] w fun e w' => e = .returned (.bool (Rd.sameR a b)) ∧ Below w.heap.size w w' := by
  have hfa := fun W => folded_any a W ha ha'
  have hfb := fun W => folded_any b W hb hb'
  obtain ⟨s, hs⟩ : ∃ s, Rd.sameR a b = s := ⟨_, rfl⟩
  have heq := fun W => eql_rr W (Rd.foldR a) (Rd.foldR b)
  have hgd := fun W x y => guard_rr W x y (Rd.foldR a) (Rd.foldR b)
  have hsd : decide (Rd.foldR a = Rd.foldR b) = s := hs
  rw [hs]
  rw [hsd] at heq
  clear hsd hs
  generalize Rd.foldR a = A at *
  generalize Rd.foldR b = B at *
  obtain ⟨n, t, c, l, d⟩ := a
  obtain ⟨n2, t2, c2, l2, d2⟩ := b
  obtain ⟨A0, A1, A2, A3, A4⟩ := A
  obtain ⟨B0, B1, B2, B3, B4⟩ := B
  unfold rrV at hfa hfb heq hgd ⊢
  simp only at hfa hfb heq hgd ⊢
  have HFA := Lib.hid hfa
  have HFB := Lib.hid hfb
  clear hfa hfb ha ha' hb hb'
  refine (callsIn_wide (n := 9)).1 ?_
  refine callsIn_of_wp Try.func85 rfl trivial ?_ rfl
  simp only [Try.ntmps85, List.size_toArray, List.length_cons, List.length_nil, Nat.reduceAdd, Nat.reduceSub, Array.replicate_succ, Array.replicate_zero, List.push_toArray, List.append_toArray, List.nil_append, List.cons_append]
  have hk1 := (Block.new w #[.string ⟨n.toArray⟩, .int .i64 t, .int .i64 c, .int .i64 l, .string ⟨d.toArray⟩] 51).alloc (.cells #[.string ⟨n2.toArray⟩, .int .i64 t2, .int .i64 c2, .int .i64 l2, .string ⟨d2.toArray⟩] 51)
  have hk2 := Block.new (w.alloc (.cells #[.string ⟨n.toArray⟩, .int .i64 t, .int .i64 c, .int .i64 l, .string ⟨d.toArray⟩] 51)) #[.string ⟨n2.toArray⟩, .int .i64 t2, .int .i64 c2, .int .i64 l2, .string ⟨d2.toArray⟩] 51
  rw [World.size_alloc] at hk2
  have hbw : Below w.heap.size w ((w.alloc (.cells #[.string ⟨n.toArray⟩, .int .i64 t, .int .i64 c, .int .i64 l, .string ⟨d.toArray⟩] 51)).alloc (.cells #[.string ⟨n2.toArray⟩, .int .i64 t2, .int .i64 c2, .int .i64 l2, .string ⟨d2.toArray⟩] 51)) := ((Below.refl _ w).alloc (Nat.le_refl _) _).alloc (by simp) _
  have hF : Fence.wide.fn 94 := trivial
  gi_wp2
  generalize ((w.alloc (.cells #[.string ⟨n.toArray⟩, .int .i64 t, .int .i64 c, .int .i64 l, .string ⟨d.toArray⟩] 51)).alloc (.cells #[.string ⟨n2.toArray⟩, .int .i64 t2, .int .i64 c2, .int .i64 l2, .string ⟨d2.toArray⟩] 51)) = W0 at *
  have a0 := Grew.cell (hk1.cell (i := 0) rfl)
  have b0 := Grew.cell (hk2.cell (i := 0) rfl)
  have a1 := Grew.cell (hk1.cell (i := 1) rfl)
  have b1 := Grew.cell (hk2.cell (i := 1) rfl)
  have a2 := Grew.cell (hk1.cell (i := 2) rfl)
  have b2 := Grew.cell (hk2.cell (i := 2) rfl)
  have a3 := Grew.cell (hk1.cell (i := 3) rfl)
  have b3 := Grew.cell (hk2.cell (i := 3) rfl)
  have a4 := Grew.cell (hk1.cell (i := 4) rfl)
  have b4 := Grew.cell (hk2.cell (i := 4) rfl)
  refine wpIn_region_grew (by kernel_rfl) (by kernel_rfl) (by kernel_rfl) ?_
  repeat (gi_big_quiet_step ((first
    | (gi_at_call 94; (with_reducible exact Grew.calls _ _ (callsIn_wide.2 (HFA.out _))))
    | (gi_at_call 94; (with_reducible exact Grew.calls _ _ (callsIn_wide.2 (HFB.out _)))))))
  refine wpQuietIn_nil ?_
  rintro W1 ⟨iG, hi⟩
  have hdw : Below W0.heap.size W0 W1 := by rw [hi]; exact iG.below
  clear hi
  gi_wp2
  go_ret
  exact ⟨rfl, below_trans hbw hdw⟩
end Go.Proofs.Ytdodamkndigjkaa

/- Records as a map's keys; what two sets of them say. -/
set_option maxRecDepth 100000
namespace Go.Proofs.Ytdodamkndigjkaa
open Go.RowKit Go.Shelf Go.Maps

theorem laidOut : laidOutB Try.prog = true := by kernel_rfl
theorem rowRR : (51 : TypeId) < Try.prog.types.size := of_decide_eq_true (by kernel_rfl)
theorem wideRR : (match Try.prog.underlying 51 with | some (.array _ _) | some (.struct _) => true | _ => false) = true := by rw [Try.underlying51]
theorem keyedRR : Keyed Try.prog 51 := Keyed.of_law (deep_law_laid laidOut (m := 2) (by omega) rowRR (by kernel_rfl) wideRR)

/-- A record that fits a key. -/
structure Fine (r : Rd.RR) : Prop where
  name : r.name.length ≤ 100000
  data : r.data.length ≤ 100000
  typ : -9223372036854775808 ≤ r.typ ∧ r.typ ≤ 9223372036854775807
  cls : -9223372036854775808 ≤ r.cls ∧ r.cls ≤ 9223372036854775807
  ttl : -9223372036854775808 ≤ r.ttl ∧ r.ttl ≤ 9223372036854775807

theorem lit_wf {z : Int} (h : -9223372036854775808 ≤ z ∧ z ≤ 9223372036854775807) : (Lit.int .i64 z).wf = true := by
  have e1 : IntKind.i64.min = -9223372036854775808 := by decide
  have e2 : IntKind.i64.max = 9223372036854775807 := by decide
  simp only [Lit.wf, Bool.and_eq_true, decide_eq_true_iff, e1, e2]
  exact h
theorem size_mk (l : List UInt8) : (⟨l.toArray⟩ : ByteArray).size = l.length := by show l.toArray.size = _; simp
theorem key_some (r : Rd.RR) (h : Fine r) : ∃ s, keyOf Try.prog 51 (rrV r) = some (.string s) := by
  have h1 : Try.prog.keyType 51 = true := by kernel_rfl
  have h2 : Try.prog.cellsOf 51 = 5 := by kernel_rfl
  have h3 : Try.prog.cellsOf 9 = 1 := by kernel_rfl
  have h4 : Try.prog.cellsOf 3 = 1 := by kernel_rfl
  obtain ⟨m, hm⟩ : ∃ m, Try.prog.types.size = m + 1 := ⟨Try.prog.types.size - 1, by have := Nat.lt_of_le_of_lt (Nat.zero_le _) rowRR; omega⟩
  have w1 := lit_wf h.typ
  have w2 := lit_wf h.cls
  have w3 := lit_wf h.ttl
  have l1 : r.name.length ≤ maxLen := Nat.le_trans h.name (by unfold maxLen; decide)
  have l2 : r.data.length ≤ maxLen := Nat.le_trans h.data (by unfold maxLen; decide)
  obtain ⟨n, t, c, l, d⟩ := r
  simp only at *
  unfold keyOf rrV
  rw [Try.underlying51]
  simp only [h1, Value.formed, Try.underlying51, h2, hm]
  simp [Value.cells, Program.keyLits, Try.underlying51, Try.underlying9, Try.underlying3, h2, h3, h4, w1, w2, w3, size_mk, l1, l2]

/-- A record's key. -/
noncomputable def klOf (r : Rd.RR) : Lit := (keyOf Try.prog 51 (rrV r)).getD (.string [])
theorem key_of {r : Rd.RR} (h : Fine r) : keyOf Try.prog 51 (rrV r) = some (klOf r) := by
  obtain ⟨s, hs⟩ := key_some r h
  unfold klOf
  rw [hs]; rfl
theorem klOf_lit {r : Rd.RR} (h : Fine r) : WideAt.IsKeyLit (klOf r) := keyedRR.key (key_of h)
theorem rrV_inj {a b : Rd.RR} (h : rrV a = rrV b) : a = b := by
  obtain ⟨n, t, c, l, d⟩ := a
  obtain ⟨n', t', c', l', d'⟩ := b
  unfold rrV at h
  simp only [Value.agg.injEq, Array.mk.injEq, List.cons.injEq, Value.string.injEq, ByteArray.mk.injEq, Value.int.injEq, true_and, and_true] at h
  obtain ⟨h1, h2, h3, h4, h5⟩ := h
  subst h1 h2 h3 h4 h5
  rfl
theorem klOf_inj {a b : Rd.RR} (ha : Fine a) (hb : Fine b) (h : klOf a = klOf b) : a = b :=
  rrV_inj (keyedRR.inj (key_of ha) (by rw [h]; exact key_of hb))
theorem fine_fold {r : Rd.RR} (h : Fine r) : Fine (Rd.foldR r) := by
  refine ⟨?_, ?_, h.typ, h.cls, ⟨by show (-9223372036854775808 : Int) ≤ 0; omega, by show (0 : Int) ≤ 9223372036854775807; omega⟩⟩
  · show (Nm.fold r.name).length ≤ _
    rw [Rd.fold_len]; exact h.name
  · show (Rd.foldP _ _).length ≤ _
    rw [Rd.foldP_len _ _ Rd.partsD_bound]; exact h.data

abbrev unitD : DataW Unit := .agg []
noncomputable def setD (l : List Rd.RR) : DataW Unit := setOf unitD (l.map klOf)
theorem setD_nil : setD [] = .map [] := rfl
theorem setD_snoc (l : List Rd.RR) (r : Rd.RR) : setD (l ++ [r]) = (setD l).put (klOf r) unitD := by
  unfold setD
  rw [List.map_append]
  exact setOf_snoc unitD (l.map klOf) (klOf r)

theorem keys_lit {l : List Rd.RR} (h : ∀ r ∈ l, Fine r) : ∀ x ∈ l.map klOf, WideAt.IsKeyLit x := fun x hx => by
  obtain ⟨r, hr, rfl⟩ := List.mem_map.1 hx
  exact klOf_lit (h r hr)
theorem has_setD {l : List Rd.RR} (h : ∀ r ∈ l, Fine r) {r : Rd.RR} (hr : Fine r) : has (setD l) (klOf r) = decide (r ∈ l) := by
  unfold setD
  rw [has_setOf unitD (klOf r) (l.map klOf) (keys_lit h), Bool.eq_iff_iff, List.any_eq_true, decide_eq_true_iff]
  constructor
  · rintro ⟨x, hx, hs⟩
    obtain ⟨r', hr', rfl⟩ := List.mem_map.1 hx
    have := klOf_inj (h r' hr') hr (WideAt.sameKey_eq hs)
    rw [← this]; exact hr'
  · intro hm
    exact ⟨klOf r, List.mem_map.2 ⟨r, hm, rfl⟩, WideAt.sameKey_self (klOf_lit hr)⟩
end Go.Proofs.Ytdodamkndigjkaa

/- foldedSet: a set's records as keys. -/
namespace Go.Proofs.Ytdodamkndigjkaa
open Go.RowKit Go.Shelf Go.Maps
attribute [local go_sem] Oper.semAt_some

def SetOwn (W : World) (b n : Nat) (l : List Rd.RR) : Prop := W.ownsMap Try.prog 51 (unitElem (H := Unit)) b n (setD l)
/-- What foldedSet gives. -/
def SetRet (l : List Rd.RR) (w : World) (e : Ending) (w' : World) : Prop := ∃ b, e = .returned (.map (some b)) ∧ w.heap.size ≤ b ∧ SetOwn w' b l.length (l.map Rd.foldR) ∧ Below w.heap.size w w'
theorem setOwn_below {W W' : World} {b n : Nat} {l : List Rd.RR} (h : SetOwn W b n l) (hb : Below W.heap.size W W') : SetOwn W' b n l :=
  World.ownsMap.kept h (row := none) ⟨hb.os, hb.tape, hb.output, hb.size, fun k hk _ => hb.block k hk⟩ (by simp)

end Go.Proofs.Ytdodamkndigjkaa

/- Keys of names and types: a map from them to places. -/
set_option maxRecDepth 100000
namespace Go.Proofs.Ytdodamkndigjkaa
open Go.RowKit Go.Shelf Go.Maps

theorem rowKey : (53 : TypeId) < Try.prog.types.size := of_decide_eq_true (by kernel_rfl)
theorem wideKey : (match Try.prog.underlying 53 with | some (.array _ _) | some (.struct _) => true | _ => false) = true := by rw [Try.underlying53]
theorem keyedKey : Keyed Try.prog 53 := Keyed.of_law (deep_law_laid laidOut (m := 2) (by omega) rowKey (by kernel_rfl) wideKey)
structure FineK (n : List UInt8) (t : Int) : Prop where
  name : n.length ≤ 100000
  typ : -9223372036854775808 ≤ t ∧ t ≤ 9223372036854775807
def keyV (n : List UInt8) (t : Int) : Value := .agg #[.string ⟨n.toArray⟩, .int .i64 t]
theorem kkey_some (n : List UInt8) (t : Int) (h : FineK n t) : ∃ s, keyOf Try.prog 53 (keyV n t) = some (.string s) := by
  have h1 : Try.prog.keyType 53 = true := by kernel_rfl
  have h2 : Try.prog.cellsOf 53 = 2 := by kernel_rfl
  have h3 : Try.prog.cellsOf 9 = 1 := by kernel_rfl
  have h4 : Try.prog.cellsOf 3 = 1 := by kernel_rfl
  obtain ⟨m, hm⟩ : ∃ m, Try.prog.types.size = m + 1 := ⟨Try.prog.types.size - 1, by have := Nat.lt_of_le_of_lt (Nat.zero_le _) rowKey; omega⟩
  have w1 := lit_wf h.typ
  have l1 : n.length ≤ maxLen := Nat.le_trans h.name (by unfold maxLen; decide)
  unfold keyOf keyV
  rw [Try.underlying53]
  simp only [h1, Value.formed, Try.underlying53, h2, hm]
  simp [Value.cells, Program.keyLits, Try.underlying53, Try.underlying9, Try.underlying3, h2, h3, h4, w1, size_mk, l1]
noncomputable def kk (n : List UInt8) (t : Int) : Lit := (keyOf Try.prog 53 (keyV n t)).getD (.string [])
theorem kk_of {n : List UInt8} {t : Int} (h : FineK n t) : keyOf Try.prog 53 (keyV n t) = some (kk n t) := by
  obtain ⟨s, hs⟩ := kkey_some n t h
  unfold kk
  rw [hs]; rfl
theorem kk_lit {n : List UInt8} {t : Int} (h : FineK n t) : WideAt.IsKeyLit (kk n t) := keyedKey.key (kk_of h)
theorem kk_inj {n n' : List UInt8} {t t' : Int} (h : FineK n t) (h' : FineK n' t') (e : kk n t = kk n' t') : n = n' ∧ t = t' := by
  have := keyedKey.inj (kk_of h) (by rw [e]; exact kk_of h')
  unfold keyV at this
  simp only [Value.agg.injEq, Array.mk.injEq, List.cons.injEq, Value.string.injEq, ByteArray.mk.injEq, Value.int.injEq, true_and, and_true] at this
  exact this

/-- A map that says of each key where its group lies. -/
def PlOk (D : DataW Unit) (gs : List Mt.Gr) : Prop := ∀ n t, FineK n t → Maps.has D (kk n t) = Mt.hasK gs n t ∧ (Mt.hasK gs n t = true → ∀ z, D.atKey (kk n t) z = .lit (.int .i64 (Mt.atK gs n t : Int)))
theorem plOk_nil : PlOk (.map []) [] := fun n t h => ⟨rfl, fun h => by cases h⟩
theorem plOk_put {D : DataW Unit} {gs : List Mt.Gr} (hD : IsMap D) (h : PlOk D gs) {r : Rd.RR} (hf : FineK (Nm.fold r.name) r.typ) (hn : Mt.hasK gs (Nm.fold r.name) r.typ = false) :
    PlOk (D.put (kk (Nm.fold r.name) r.typ) (.lit (.int .i64 (gs.length : Int)))) (Mt.put gs r) := fun n t hk => by
  rw [Mt.hasK_put]
  by_cases e : Nm.fold r.name = n ∧ r.typ = t
  · obtain ⟨rfl, rfl⟩ := e
    refine ⟨by rw [has_put_same hD (kk_lit hf)]; simp, fun _ z => ?_⟩
    rw [atKey_put_same hD (kk_lit hf), Mt.atK_put_new hn]
  · have hne : kk n t ≠ kk (Nm.fold r.name) r.typ := fun e2 => e (by have := kk_inj hk hf e2; exact ⟨this.1.symm, this.2.symm⟩)
    rw [has_put_other hne, (h n t hk).1]
    refine ⟨by simp [e], fun hh z => ?_⟩
    have hh' : Mt.hasK gs n t = true := by simpa [e] using hh
    rw [atKey_put_other hne, (h n t hk).2 hh', Mt.atK_put hh']
theorem plOk_old {D : DataW Unit} {gs : List Mt.Gr} (h : PlOk D gs) {r : Rd.RR} (hh : Mt.hasK gs (Nm.fold r.name) r.typ = true) : PlOk D (Mt.put gs r) := fun n t hk => by
  have e : Mt.hasK (Mt.put gs r) n t = Mt.hasK gs n t := by
    rw [Mt.hasK_put]
    by_cases e : Nm.fold r.name = n ∧ r.typ = t
    · obtain ⟨rfl, rfl⟩ := e; simp [hh]
    · simp [e]
  rw [e, (h n t hk).1]
  exact ⟨rfl, fun h2 z => by rw [(h n t hk).2 h2, Mt.atK_put h2]⟩

/-- Who was met, as a set of folded records. -/
structure MetOk (ML : List Rd.RR) (gs : List Mt.Gr) : Prop where
  fine : ∀ x ∈ ML, Fine x
  met : ∀ r, decide (Rd.foldR r ∈ ML) = Mt.met gs r
theorem metOk_nil : MetOk [] [] := ⟨by simp, fun r => by simp [Mt.met]⟩
theorem metOk_put {ML : List Rd.RR} {gs : List Mt.Gr} (h : MetOk ML gs) {r : Rd.RR} (hr : Fine r) : MetOk (ML ++ [Rd.foldR r]) (Mt.put gs r) := by
  refine ⟨fun x hx => ?_, fun x => ?_⟩
  · rcases List.mem_append.1 hx with h1 | h1
    · exact h.fine x h1
    · rw [List.mem_singleton] at h1; subst h1; exact fine_fold hr
  · rw [Mt.met_put, ← h.met x]
    rw [Bool.eq_iff_iff, Bool.or_eq_true, decide_eq_true_iff, decide_eq_true_iff, Mt.sameR_iff, List.mem_append, List.mem_singleton]
    exact ⟨fun h => h.imp id Eq.symm, fun h => h.imp id Eq.symm⟩
theorem metOk_has {ML : List Rd.RR} {gs : List Mt.Gr} (h : MetOk ML gs) {r : Rd.RR} (hr : Fine r) : Maps.has (setD ML) (klOf (Rd.foldR r)) = Mt.met gs r := by
  rw [has_setD h.fine (fine_fold hr), h.met]

section
variable {H : Type} {P : Program} (w : World) {ops : Array Oper} {rest : List Oper} {o : Oper} {a : Act} {Q : Exit → Act → World → Prop}
/-- v, ok := set[k], with ok told. -/
theorem wpList_look_unit (hg : o.guard = none) (m x : Operand) (t : TypeId) (hop : o.op = Op.lookup t m x true)
    (k e : TypeId) (K : Keyed P k) (ht : P.underlying t = some (.map k e)) (hz : (zeroValue e).run P w = .ok (.agg #[]) w) (b n : Nat) (D : DataW H)
    (hm : a.eval m = .map (some b)) (hown : w.ownsMap P k unitElem b n D) (key : Value) (kl : Lit) (hx : a.eval x = key) (hkey : keyOf P k key = some kl) (q : Bool) (hq : Maps.has D kl = q)
    (hK : wpList P ops Q rest (a.put o.dst (.tuple #[.agg #[], .bool q])) w) :
    wpList P ops Q (o :: rest) a w :=
  wpList_lookup_own_unit w hg m x t hop k e K ht hz b n D hm hown key kl hx hkey (by rw [hq]; exact hK)
/-- v, ok := m[k], with both told. -/
theorem wpList_look_int (hg : o.guard = none) (m x : Operand) (t : TypeId) (hop : o.op = Op.lookup t m x true)
    (k e : TypeId) (K : Keyed P k) (ht : P.underlying t = some (.map k e)) (he : P.underlying e = some (.int .i64)) (hz : (zeroValue e).run P w = .ok (.int .i64 0) w) (b n : Nat) (D : DataW H)
    (hm : a.eval m = .map (some b)) (hown : w.ownsMap P k (plainElem P e) b n D) (key : Value) (kl : Lit) (hx : a.eval x = key) (hkey : keyOf P k key = some kl) (q : Bool) (hq : Maps.has D kl = q)
    (c : Int) (hc : D.atKey kl (.lit (.int .i64 0)) = .lit (.int .i64 c))
    (hK : wpList P ops Q rest (a.put o.dst (.tuple #[.int .i64 c, .bool q])) w) :
    wpList P ops Q (o :: rest) a w :=
  wpList_lookup_own_ok_int w hg m x t hop k e .i64 K ht he hz b n D hm hown key kl hx hkey (fun c' hc' _ => by
    rw [hc] at hc'
    injection hc' with h1
    injection h1 with _ h2
    subst h2
    rw [hq]; exact hK)
end
end Go.Proofs.Ytdodamkndigjkaa

/- A range over a function whose iterator tells more of each element than its values: what it owns in memory. -/
namespace Go.Proofs.Ytdodamkndigjkaa
open Go Go.RowKit
variable {F : Fence} {n : Nat} {P : Program}
/-- The contract of an iterator that tells of each element what lies in memory for it. -/
def SeqStopsY {α : Type} (F : Fence) (n : Nat) (P : Program) (g : Nat) (lb : Array Value) (encs : α → Array Value) (Kp : World → World → Prop) (S Sp : List α → Prop) (N : Nat) (Y : α → World → Prop) (w : World) : Prop :=
  ∀ (l : Nat) (J Jx : List α → World → Prop) (W : World), Below w.heap.size w W → OwnBk W.heap.size J → OwnBk W.heap.size Jx →
    (∀ pre x W1, J pre W1 → Y x W1 → pre.length < N → Sp (pre ++ [x]) → YieldAt F (n - 1) P l (encs x) W1 fun e W' =>
      (e = .returned (.bool true) ∧ J (pre ++ [x]) W' ∧ Kp W1 W' ∧ KeepsBk W.heap.size W1 W') ∨ (e = .returned (.bool false) ∧ Jx (pre ++ [x]) W' ∧ KeepsBk W.heap.size W1 W')) →
    J [] W →
    CallsIn F n P g (#[.func (.yield l) #[] #[]] ++ lb) W fun e W' => (∃ v, e = .returned v) ∧ ((∃ xs, S xs ∧ J xs W') ∨ (∃ pre, Sp pre ∧ Jx pre W'))

theorem wpIn_rangeFunc_ownY {α : Type} {g : Operand} {ps : Array Tmp} {assign body : Code} {Q : Exit → Act → World → Prop} {a : Act} {w : World}
    (hro : F.round = none) (h1 : 1 ≤ n) {gf : Nat} {lb : Array Value} (hg : a.eval g = .func (.func gf) #[] lb) (hFg : F.fn gf) (eg : ∀ args w, (callFunc gf args).run P w = .ok (.enter gf args) w)
    {encs : α → Array Value} {Kp : World → World → Prop} {S Sp : List α → Prop} {N : Nat} {w0 : World} {Y : α → World → Prop} (hYb : OwnBk w.heap.size Y) (hseq : SeqStopsY F (n - 1) P gf lb encs Kp S Sp N Y w0)
    (hKt : ∀ {A B C : World}, Kp A B → Kp B C → Kp A C) (hKb : ∀ (W : World) (l : Nat) (o o' : Obj), w.heap.size ≤ l → W.heap[l]? = some o → o.isCells = false → o.isWalk = false → Kp W (W.putObj l o')) (hb0 : Below w0.heap.size w0 w) (hps : ∀ x, (encs x).size = ps.size)
    (I : List α → World → Prop) (Ix : Code → List α → World → Prop) (hI : OwnBk w.heap.size I) (hIx : ∀ c, OwnBk w.heap.size (Ix c)) (h0 : I [] w) (a₁ : α → World → Act) (ob : α → Obj) (hKa : ∀ (W : World) (o : Obj), Kp W (W.alloc o))
    (hassign : ∀ (l : Nat) (x : α) (W : World) (K : Act → World → Prop), K (a₁ x W) (W.alloc (ob x)) →
      assign.wpIn (F.inRound l) (n - 1 - 1) P (Exit.then K (fun _ _ _ => False)) { tmps := (ps.zip (encs x)).foldl (fun t (p, v) => t.setIfInBounds p v) a.tmps, defers := [] } W)
    (hbody : ∀ (l : Nat) (pre : List α) (x : α) (W0 W : World), w.heap.size < W0.heap.size → W.heap[W0.heap.size]? = some (ob x) → I pre W → Y x W → pre.length < N → Sp (pre ++ [x]) → body.wpIn (F.inRound l) (n - 1 - 1) P (ownPostB w.heap.size Kp I Ix (pre ++ [x]) W) (a₁ x W0) W)
    (hdone : ∀ (D : Nat) (xs : List α) (W : World), w.heap.size ≤ D → S xs → I xs W → W.heap[D]? = some (.deferred (some [])) → Q .normal { a with defers := { target := .collected D, args := #[] } :: a.defers } W)
    (hstop : ∀ (D : Nat) (c : Code) (pre : List α) (W : World), w.heap.size ≤ D → Sp pre → Ix c pre W → W.heap[D]? = some (.deferred (some [])) → c.wpIn F n P Q { a with defers := { target := .collected D, args := #[] } :: a.defers } W) :
    (Code.rangeFunc g ps assign body).wpIn F n P Q a w := by
  refine wpIn_rangeFunc ?_
  intro fn hfn
  rw [hro]
  obtain ⟨rec, hrec⟩ : ∃ rec : LoopState → Option Code → Loop, rec = fun st pe => { state := st, pending := pe, fn, tmps := a.tmps, params := ps, assign, body, defers := w.heap.size } := ⟨_, rfl⟩
  obtain ⟨W1, hW1⟩ : ∃ W1, (w.alloc (.deferred (some []))).alloc (.loop (rec .ready none)) = W1 := ⟨_, rfl⟩
  have hsz1 : W1.heap.size = w.heap.size + 2 := by rw [← hW1]; simp
  have hL1 : W1.heap[w.heap.size + 1]? = some (.loop (rec .ready none)) := by
    rw [← hW1]; have := World.alloc_heap_new (w.alloc (.deferred (some []))) (.loop (rec .ready none)); rwa [World.size_alloc] at this
  have hK1 : W1.heap[w.heap.size]? = some (.deferred (some [])) := by
    rw [← hW1]; exact (Below.heap_alloc _ _ _ (by simp)).trans (World.alloc_heap_new w _)
  have hI1 : I [] W1 := by rw [← hW1]; exact hI.alloc _ (hI.alloc _ h0)
  have hb1 : Below w0.heap.size w0 W1 := by
    rw [← hW1]; exact hb0.trans ((((Below.refl _ w).alloc (Nat.le_refl _) _).alloc (by simp) _).mono hb0.size)
  refine ⟨w.heap.size + 1, [{ target := .collected w.heap.size, args := #[] }], W1, { target := .fn (.func gf) lb, args := #[.func (.yield (w.heap.size + 1)) #[] #[]] }, W1, gf,
    #[.func (.yield (w.heap.size + 1)) #[] #[]] ++ lb, W1, ?_, ?_, ?_, ?_, fun _ => h1, ?_⟩
  · rw [← hW1, hrec]; exact run_enterLoop_outer _ _ _ _ _
  · simp only [resolve, hg]
    simp [go_sem]
  · intro f' hf'; simp [Target.leads] at hf'; subst hf'; exact hFg
  · simp [invoke, go_sem, eg]
  · have hnw : ∀ {A : World} {row : Option Nat}, (∀ r, row = some r → W1.heap.size ≤ r ∧ ∃ o : Obj, A.heap[r]? = some o ∧ isBook o = true) → (∀ r, row = some r → w.heap.size ≤ r ∧ ∃ o : Obj, A.heap[r]? = some o ∧ isBook o = true) :=
      fun hr r e => ⟨by have := (hr r e).1; omega, (hr r e).2⟩
    have hkeep : ∀ {A B : World} {row : Option Nat} {k : Nat} {o : Obj}, A.grownBy B row → (∀ r, row = some r → W1.heap.size ≤ r ∧ ∃ o : Obj, A.heap[r]? = some o ∧ isBook o = true) → k < W1.heap.size → A.heap[k]? = some o → B.heap[k]? = some o :=
      fun {A B row k o} hg' hr hk h => (hg'.block k (Array.getElem?_eq_some_iff.1 h).1 (fun e => by have := (hr k e.symm).1; omega)).trans h
    refine (hseq (w.heap.size + 1)
      (fun pre W => I pre W ∧ W.heap[w.heap.size + 1]? = some (.loop (rec .ready none)) ∧ W.heap[w.heap.size]? = some (.deferred (some [])))
      (fun pre W => ∃ c, Ix c pre W ∧ W.heap[w.heap.size + 1]? = some (.loop (rec .done (some c))) ∧ W.heap[w.heap.size]? = some (.deferred (some [])))
      W1 hb1
      (fun s A B row hs hg' hr => ⟨hI s A B row hs.1 hg' (hnw hr), hkeep hg' hr (by omega) hs.2.1, hkeep hg' hr (by omega) hs.2.2⟩)
      (fun s A B row hs hg' hr => by
        obtain ⟨c, hc, hl, hk⟩ := hs
        exact ⟨c, hIx c s A B row hc hg' (hnw hr), hkeep hg' hr (by omega) hl, hkeep hg' hr (by omega) hk⟩)
      ?_ ⟨hI1, hL1, hK1⟩).mono ?_
    · rintro pre x W ⟨hi, hl, hk⟩ hy0 hlen hsp
      have hlt : w.heap.size + 1 < W.heap.size := (Array.getElem?_eq_some_iff.1 hl).1
      have hy := run_yield (P := P) (args := encs x) hl (by rw [hrec]; exact hps x)
      rw [hrec] at hy
      refine ⟨fn, _, assign, body, hy, roundIn_of_wpIn hfn (hassign _ x W _ ?_)⟩
      clear hy
      obtain ⟨Wa, hWa⟩ : ∃ Wa, W.alloc (ob x) = Wa := ⟨_, rfl⟩
      have hszW : w.heap.size < W.heap.size := by omega
      have hia : I pre Wa := by rw [← hWa]; exact hI.alloc _ hi
      have hya : Y x Wa := by rw [← hWa]; exact hYb.alloc _ hy0
      have hga : W.grownBy Wa none := by rw [← hWa]; exact World.grownBy_alloc W _ none
      have hla := (hga.block _ hlt (by simp)).trans hl
      have hka := (hga.block w.heap.size (by omega) (by simp)).trans hk
      have hbx : Wa.heap[W.heap.size]? = some (ob x) := by rw [← hWa]; exact World.alloc_heap_new W _
      have kpa : Kp W Wa := by rw [← hWa]; exact hKa W _
      have kba : KeepsBk W1.heap.size W Wa := KeepsBk.of_grownBy hga (fun j e => by cases e)
      have hlta : w.heap.size + 1 < Wa.heap.size := (Array.getElem?_eq_some_iff.1 hla).1
      rw [hWa]
      clear hWa hga
      refine ⟨_, run_beginRound hla (by rw [hrec]), ?_⟩
      have hl2 : (Wa.putObj (w.heap.size + 1) (.loop { rec .ready none with state := .busy })).heap[w.heap.size + 1]? = some (.loop { rec .ready none with state := .busy }) := World.putObj_heap_same hlta
      have hk2 : (Wa.putObj (w.heap.size + 1) (.loop { rec .ready none with state := .busy })).heap[w.heap.size]? = some (.deferred (some [])) := (World.putObj_heap_other (by omega)).trans hka
      have hw2 : Kp W (Wa.putObj (w.heap.size + 1) (.loop { rec .ready none with state := .busy })) := hKt kpa (hKb _ _ _ _ (by omega) hla rfl rfl)
      have hf2 : KeepsBk W1.heap.size W (Wa.putObj (w.heap.size + 1) (.loop { rec .ready none with state := .busy })) := kba.trans (keeps_put _ (by omega))
      refine wpIn_mono (hbody _ pre x W _ hszW (((World.putObj_heap_other (by omega))).trans hbx) (hI.putObj _ hia (by omega) hla rfl) (hYb.putObj _ hya (by omega) hla rfl) hlen hsp) ?_
      have fin : ∀ (jump : Option Code) (W3 : World), KeepsBk w.heap.size (Wa.putObj (w.heap.size + 1) (.loop { rec .ready none with state := .busy })) W3 →
          (Instr.endRound (w.heap.size + 1) jump).run P W3 = .ok (.bool jump.isNone) (W3.putObj (w.heap.size + 1) (.loop (rec (if jump.isNone then .ready else .done) jump))) ∧
          W3.heap[w.heap.size + 1]? = some (.loop { rec .ready none with state := .busy }) ∧
          (W3.putObj (w.heap.size + 1) (.loop (rec (if jump.isNone then .ready else .done) jump))).heap[w.heap.size + 1]? = some (.loop (rec (if jump.isNone then .ready else .done) jump)) ∧
          (W3.putObj (w.heap.size + 1) (.loop (rec (if jump.isNone then .ready else .done) jump))).heap[w.heap.size]? = some (.deferred (some [])) ∧
          KeepsBk W1.heap.size W (W3.putObj (w.heap.size + 1) (.loop (rec (if jump.isNone then .ready else .done) jump))) := fun jump W3 hk3 => by
        have hl3 := hk3.same _ _ (by omega) hl2 rfl
        have := run_endRound (P := P) jump hl3
        rw [hrec] at this ⊢
        refine ⟨this, by rw [hrec] at hl3; exact hl3, World.putObj_heap_same (Array.getElem?_eq_some_iff.1 hl3).1, (World.putObj_heap_other (by omega)).trans (hk3.same _ _ (Nat.le_refl _) hk2 rfl), ?_⟩
        refine hf2.trans (KeepsBk.trans ⟨hk3.size, fun k o hB hk ho => hk3.same k o (by omega) hk ho⟩ (keeps_put _ (by omega)))
      rintro e a3 W3 hp
      cases e with
      | normal =>
        obtain ⟨hk3, hkp3, hi3⟩ := hp
        obtain ⟨hr, hl3, hl4, hk4, hkf⟩ := fin none W3 hk3
        exact ⟨_, _, hr, .inl ⟨rfl, ⟨hI.putObj _ hi3 (by omega) hl3 rfl, hl4, hk4⟩, hKt (hKt hw2 hkp3) (hKb _ _ _ _ (by omega) hl3 rfl rfl), hkf⟩⟩
      | ret =>
        obtain ⟨hk3, hi3⟩ := hp
        obtain ⟨hr, hl3, hl4, hk4, hkf⟩ := fin (some .ret) W3 hk3
        exact ⟨_, _, hr, .inr ⟨rfl, ⟨.ret, (hIx _).putObj _ hi3 (by omega) hl3 rfl, hl4, hk4⟩, hkf⟩⟩
      | exit id =>
        obtain ⟨hk3, hi3⟩ := hp
        obtain ⟨hr, hl3, hl4, hk4, hkf⟩ := fin (some (.exit id)) W3 hk3
        exact ⟨_, _, hr, .inr ⟨rfl, ⟨.exit id, (hIx _).putObj _ hi3 (by omega) hl3 rfl, hl4, hk4⟩, hkf⟩⟩
      | goto t =>
        obtain ⟨hk3, hi3⟩ := hp
        obtain ⟨hr, hl3, hl4, hk4, hkf⟩ := fin (some (.goto t)) W3 hk3
        exact ⟨_, _, hr, .inr ⟨rfl, ⟨.goto t, (hIx _).putObj _ hi3 (by omega) hl3 rfl, hl4, hk4⟩, hkf⟩⟩
      | panic ch => exact hp.elim
      | outgrown => exact hp.elim
    · rintro e W2 ⟨⟨v, rfl⟩, (⟨xs, hS, hi, hl, hk⟩ | ⟨pre, hSp, c, hi, hl, hk⟩)⟩
      · exact ⟨none, _, by have := run_endLoop (P := P) hl (by rw [hrec]; simp); rw [hrec] at this; exact this, hdone _ xs _ (Nat.le_refl _) hS (hI.putObj _ hi (by omega) hl rfl) ((World.putObj_heap_other (by omega)).trans hk)⟩
      · exact ⟨some c, _, by have := run_endLoop (P := P) hl (by rw [hrec]; simp); rw [hrec] at this; exact this, hstop _ c pre _ (Nat.le_refl _) hSp ((hIx c).putObj _ hi (by omega) hl rfl) ((World.putObj_heap_other (by omega)).trans hk)⟩
theorem wpIn_rangeFunc_oneY {α : Type} {g : Operand} {ps : Array Tmp} {assign body : Code} {Q : Exit → Act → World → Prop} {a : Act} {w : World}
    (hro : F.round = none) (h1 : 1 ≤ n) {gf : Nat} {lb : Array Value} (hg : a.eval g = .func (.func gf) #[] lb) (hFg : F.fn gf) (eg : ∀ args w, (callFunc gf args).run P w = .ok (.enter gf args) w)
    {encs : α → Array Value} {Kp : World → World → Prop} {S Sp : List α → Prop} {N : Nat} {w0 : World} {Y : α → World → Prop} (hYb : OwnBk w.heap.size Y) (hseq : SeqStopsY F (n - 1) P gf lb encs Kp S Sp N Y w0)
    (hKt : ∀ {A B C : World}, Kp A B → Kp B C → Kp A C) (hKb : ∀ (W : World) (l : Nat) (o o' : Obj), w.heap.size ≤ l → W.heap[l]? = some o → o.isCells = false → o.isWalk = false → Kp W (W.putObj l o')) (hb0 : Below w0.heap.size w0 w) (hps : ∀ x, (encs x).size = ps.size)
    (I : List α → World → Prop) (Ix : Code → List α → World → Prop) (hI : OwnBk w.heap.size I) (hIx : ∀ c, OwnBk w.heap.size (Ix c)) (h0 : I [] w) (a₁ : α → World → Act) (ob : α → Obj) (hKa : ∀ (W : World) (o : Obj), Kp W (W.alloc o))
    (hassign : ∀ (l : Nat) (x : α) (W : World) (K : Act → World → Prop), K (a₁ x W) (W.alloc (ob x)) →
      assign.wpIn (F.inRound l) (n - 1 - 1) P (Exit.then K (fun _ _ _ => False)) { tmps := (ps.zip (encs x)).foldl (fun t (p, v) => t.setIfInBounds p v) a.tmps, defers := [] } W)
    (hbody : ∀ (l : Nat) (pre : List α) (x : α) (W0 W : World), w.heap.size < W0.heap.size → W.heap[W0.heap.size]? = some (ob x) → I pre W → Y x W → pre.length < N → Sp (pre ++ [x]) → body.wpIn (F.inRound l) (n - 1 - 1) P (ownPostB w.heap.size Kp I Ix (pre ++ [x]) W) (a₁ x W0) W)
    (hQ : ∀ a W, Q .normal a W → Q (.exit 0) a W) (Fin : World → Prop) (hdone : ∀ (xs : List α) (W : World), S xs → I xs W → Fin W) (hstop : ∀ (c : Code) (pre : List α) (W : World), Sp pre → Ix c pre W → c = .exit 0 ∧ Fin W)
    (hend : ∀ (D : Nat) (W : World), w.heap.size ≤ D → Fin W → W.heap[D]? = some (.deferred (some [])) → Q .normal { a with defers := { target := .collected D, args := #[] } :: a.defers } W) :
    (Code.rangeFunc g ps assign body).wpIn F n P Q a w :=
  wpIn_rangeFunc_ownY hro h1 hg hFg eg hYb hseq hKt hKb hb0 hps I Ix hI hIx h0 a₁ ob hKa hassign hbody
    (fun D xs W hD hS hi hk => hend D W hD (hdone xs W hS hi) hk)
    (fun D c pre W hD hSp hx hk => by
      obtain ⟨rfl, hF⟩ := hstop c pre W hSp hx
      exact wpIn_exit (hQ _ _ (hend D W hD hF hk)))
end Go.Proofs.Ytdodamkndigjkaa
