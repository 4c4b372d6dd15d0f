/- Records as a map's keys; what two sets of them say. -/
import Derived.Test.YtnnoooecbbkggaaDoorSame
import Derived.Maps.OwnSet
import Derived.Maps.RangeWalk
import Derived.Lib.SlMapEqual
import Derived.DeepKeys4
namespace Go.Proofs.YtnnoooecbbkggaaDoor
open Go.RowKit Go.Shelf Go.Maps

theorem laidOut : laidOutB Tryd.prog = true := by kernel_rfl
theorem rowRR : (23 : TypeId) < Tryd.prog.types.size := of_decide_eq_true (by kernel_rfl)
theorem wideRR : (match Tryd.prog.underlying 23 with | some (.array _ _) | some (.struct _) => true | _ => false) = true := by rw [Tryd.underlying23]
theorem keyedRR : Keyed Tryd.prog 23 := Keyed.of_law (deep_law_laid laidOut (m := 2) (by omega) rowRR (by kernel_rfl) wideRR)

/-- A record that fits a key. -/
structure Fine (r : Rd.RR) : Prop where
  name : r.name.length ≤ 100000
  data : r.data.length ≤ 100000
  typ : -9223372036854775808 ≤ r.typ ∧ r.typ ≤ 9223372036854775807
  cls : -9223372036854775808 ≤ r.cls ∧ r.cls ≤ 9223372036854775807
  ttl : -9223372036854775808 ≤ r.ttl ∧ r.ttl ≤ 9223372036854775807

theorem lit_wf {z : Int} (h : -9223372036854775808 ≤ z ∧ z ≤ 9223372036854775807) : (Lit.int .i64 z).wf = true := by
  have e1 : IntKind.i64.min = -9223372036854775808 := by decide
  have e2 : IntKind.i64.max = 9223372036854775807 := by decide
  simp only [Lit.wf, Bool.and_eq_true, decide_eq_true_iff, e1, e2]
  exact h
theorem size_mk (l : List UInt8) : (⟨l.toArray⟩ : ByteArray).size = l.length := by show l.toArray.size = _; simp
theorem key_some (r : Rd.RR) (h : Fine r) : ∃ s, keyOf Tryd.prog 23 (rrV r) = some (.string s) := by
  have h1 : Tryd.prog.keyType 23 = true := by kernel_rfl
  have h2 : Tryd.prog.cellsOf 23 = 5 := by kernel_rfl
  have h3 : Tryd.prog.cellsOf 9 = 1 := by kernel_rfl
  have h4 : Tryd.prog.cellsOf 3 = 1 := by kernel_rfl
  obtain ⟨m, hm⟩ : ∃ m, Tryd.prog.types.size = m + 1 := ⟨Tryd.prog.types.size - 1, by have := Nat.lt_of_le_of_lt (Nat.zero_le _) rowRR; omega⟩
  have w1 := lit_wf h.typ
  have w2 := lit_wf h.cls
  have w3 := lit_wf h.ttl
  have l1 : r.name.length ≤ maxLen := Nat.le_trans h.name (by unfold maxLen; decide)
  have l2 : r.data.length ≤ maxLen := Nat.le_trans h.data (by unfold maxLen; decide)
  obtain ⟨n, t, c, l, d⟩ := r
  simp only at *
  unfold keyOf rrV
  rw [Tryd.underlying23]
  simp only [h1, Value.formed, Tryd.underlying23, h2, hm]
  simp [Value.cells, Program.keyLits, Tryd.underlying23, Tryd.underlying9, Tryd.underlying3, h2, h3, h4, w1, w2, w3, size_mk, l1, l2]

/-- A record's key. -/
noncomputable def klOf (r : Rd.RR) : Lit := (keyOf Tryd.prog 23 (rrV r)).getD (.string [])
theorem key_of {r : Rd.RR} (h : Fine r) : keyOf Tryd.prog 23 (rrV r) = some (klOf r) := by
  obtain ⟨s, hs⟩ := key_some r h
  unfold klOf
  rw [hs]; rfl
theorem klOf_lit {r : Rd.RR} (h : Fine r) : WideAt.IsKeyLit (klOf r) := keyedRR.key (key_of h)
theorem rrV_inj {a b : Rd.RR} (h : rrV a = rrV b) : a = b := by
  obtain ⟨n, t, c, l, d⟩ := a
  obtain ⟨n', t', c', l', d'⟩ := b
  unfold rrV at h
  simp only [Value.agg.injEq, Array.mk.injEq, List.cons.injEq, Value.string.injEq, ByteArray.mk.injEq, Value.int.injEq, true_and, and_true] at h
  obtain ⟨h1, h2, h3, h4, h5⟩ := h
  subst h1 h2 h3 h4 h5
  rfl
theorem klOf_inj {a b : Rd.RR} (ha : Fine a) (hb : Fine b) (h : klOf a = klOf b) : a = b :=
  rrV_inj (keyedRR.inj (key_of ha) (by rw [h]; exact key_of hb))
theorem fine_fold {r : Rd.RR} (h : Fine r) : Fine (Rd.foldR r) := by
  refine ⟨?_, ?_, h.typ, h.cls, ⟨by show (-9223372036854775808 : Int) ≤ 0; omega, by show (0 : Int) ≤ 9223372036854775807; omega⟩⟩
  · show (Nm.fold r.name).length ≤ _
    rw [Rd.fold_len]; exact h.name
  · show (Rd.foldP _ _).length ≤ _
    rw [Rd.foldP_len _ _ Rd.partsD_bound]; exact h.data

abbrev unitD : DataW Unit := .agg []
noncomputable def setD (l : List Rd.RR) : DataW Unit := setOf unitD (l.map klOf)
theorem setD_nil : setD [] = .map [] := rfl
theorem setD_snoc (l : List Rd.RR) (r : Rd.RR) : setD (l ++ [r]) = (setD l).put (klOf r) unitD := by
  unfold setD
  rw [List.map_append]
  exact setOf_snoc unitD (l.map klOf) (klOf r)

theorem keys_lit {l : List Rd.RR} (h : ∀ r ∈ l, Fine r) : ∀ x ∈ l.map klOf, WideAt.IsKeyLit x := fun x hx => by
  obtain ⟨r, hr, rfl⟩ := List.mem_map.1 hx
  exact klOf_lit (h r hr)
theorem has_setD {l : List Rd.RR} (h : ∀ r ∈ l, Fine r) {r : Rd.RR} (hr : Fine r) : has (setD l) (klOf r) = decide (r ∈ l) := by
  unfold setD
  rw [has_setOf unitD (klOf r) (l.map klOf) (keys_lit h), Bool.eq_iff_iff, List.any_eq_true, decide_eq_true_iff]
  constructor
  · rintro ⟨x, hx, hs⟩
    obtain ⟨r', hr', rfl⟩ := List.mem_map.1 hx
    have := klOf_inj (h r' hr') hr (WideAt.sameKey_eq hs)
    rw [← this]; exact hr'
  · intro hm
    exact ⟨klOf r, List.mem_map.2 ⟨r, hm, rfl⟩, WideAt.sameKey_self (klOf_lit hr)⟩
end Go.Proofs.YtnnoooecbbkggaaDoor
