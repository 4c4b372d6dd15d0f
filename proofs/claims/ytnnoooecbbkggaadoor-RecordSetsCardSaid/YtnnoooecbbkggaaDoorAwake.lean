/- awake: what the document fixes of records. -/
import Derived.Test.YtnnoooecbbkggaaDoorSameSet
import Derived.Test.YtnnoooecbbkggaaDoorSame
import Derived.Test.YtnnoooecbbkggaaDoorMakeSOA
import Derived.Test.YtnnoooecbbkggaaDoorType
namespace Go.Proofs.YtnnoooecbbkggaaDoor
open Go.RowKit Go.Shelf
attribute [local go_sem] Oper.semAt_some

theorem readR_new (W : World) (l : List Rd.RR) (t : TypeId) (cap : Nat) : ReadR (.slice (some ⟨W.heap.size, 0, none⟩) l.length cap) l (W.alloc (.cells (l.flatMap encRR).toArray t)) := by
  refine ⟨some ⟨W.heap.size, 0, none⟩, cap, rfl, fun j hj => ?_⟩
  have key : ∀ i u, i < 5 → (encRR l[j])[i]? = some u → (W.alloc (.cells (l.flatMap encRR).toArray t)).cell? ⟨W.heap.size, 0 + j * 5 + i, none⟩ = some u := by
    intro i u hi hu
    have h := cells_new W (l.flatMap encRR) t (j * 5 + i) u (by rw [flat_get encRR 5 encRR_len l j i hj hi]; exact hu)
    have e : (⟨W.heap.size, 0, none⟩ : Addr).add (j * 5 + i) = ⟨W.heap.size, 0 + j * 5 + i, none⟩ := by unfold Addr.add; split <;> simp_all
    rw [e] at h
    exact h
  refine ⟨W.heap.size, 0, rfl, ?_, ?_, ?_, ?_, ?_⟩
  · exact key 0 _ (by omega) rfl
  · exact key 1 _ (by omega) rfl
  · exact key 2 _ (by omega) rfl
  · exact key 3 _ (by omega) rfl
  · exact key 4 _ (by omega) rfl

theorem fine_of {r : Rd.RR} (h1 : r.name.length ≤ 100000) (h2 : r.data.length ≤ 100000) (h3 : -9223372036854775808 ≤ r.typ ∧ r.typ ≤ 9223372036854775807) (h4 : -9223372036854775808 ≤ r.cls ∧ r.cls ≤ 9223372036854775807) (h5 : -9223372036854775808 ≤ r.ttl ∧ r.ttl ≤ 9223372036854775807) : Fine r := ⟨h1, h2, h3, h4, h5⟩

def awA : Rd.RR := ⟨[1, 97, 0], 1, 1, 60, [1, 2, 3, 4]⟩
def awC : Rd.RR := ⟨[1, 97, 0], 5, 1, 60, [1, 98, 0]⟩
def awS : Rd.RR := ⟨[1, 97, 0], 6, 1, 60, [1, 97, 0, 0, 0, 0, 0, 5, 0, 0, 0, 1, 0, 0, 0, 2, 0, 0, 0, 3, 0, 0, 0, 30]⟩
theorem fineA : Fine awA := fine_of (by simp [awA]) (by simp [awA]) (by simp [awA]) (by simp [awA]) (by simp [awA])
theorem fineC : Fine awC := fine_of (by simp [awC]) (by simp [awC]) (by simp [awC]) (by simp [awC]) (by simp [awC])
theorem aw1 : rrV (Rd.makeA [1, 97, 0] 60 16909060) = .agg #[.string ⟨#[1, 97, 0]⟩, .int .i64 1, .int .i64 1, .int .i64 60, .string ⟨#[1, 2, 3, 4]⟩] := by kernel_rfl
theorem aw2 : rrV (Rd.makeName [1, 97, 0] 5 60 [1, 98, 0]) = .agg #[.string ⟨#[1, 97, 0]⟩, .int .i64 5, .int .i64 1, .int .i64 60, .string ⟨#[1, 98, 0]⟩] := by kernel_rfl
theorem aw3 : rrV (Rd.makeSOA [1, 97, 0] 60 5 30) = .agg #[.string ⟨#[1, 97, 0]⟩, .int .i64 6, .int .i64 1, .int .i64 60, .string ⟨#[1, 97, 0, 0, 0, 0, 0, 5, 0, 0, 0, 1, 0, 0, 0, 2, 0, 0, 0, 3, 0, 0, 0, 30]⟩] := by kernel_rfl
theorem aw4 : intBool (Rd.lastFour 1 awA) = .tuple #[.int .i64 16909060, .bool true] := by kernel_rfl
theorem aw5 : strBool (Rd.target awC) = .tuple #[.string ⟨#[1, 98, 0]⟩, .bool true] := by kernel_rfl
theorem aw6 : intBool (Rd.lastFour 6 awS) = .tuple #[.int .i64 30, .bool true] := by kernel_rfl
theorem aw7 : Rd.check awA = true := by kernel_rfl
theorem aw8 : Rd.check Rd.RR.zero = false := by kernel_rfl
theorem aw9 : Rd.known 33 = true := by kernel_rfl
theorem aw10 : Rd.known 99 = false := by kernel_rfl
theorem aw11 : Rd.dataOk 99 [120] = true := by kernel_rfl
theorem aw12 : (⟨(Rd.tname 15).toArray⟩ : ByteArray) = ⟨#[77, 88]⟩ := by kernel_rfl
theorem aw13 : (⟨(Rd.tname 99).toArray⟩ : ByteArray) = ⟨#[84, 89, 80, 69, 57, 57]⟩ := by kernel_rfl
theorem aw14 : rrV (Rd.makeA [] 1 1) = .agg #[.string ⟨#[]⟩, .int .i64 0, .int .i64 0, .int .i64 0, .string ⟨#[]⟩] := by kernel_rfl
theorem aw15 : Rd.sameR awA awA = true := by kernel_rfl
theorem aw16 : Rd.sameSet [awA, awC] [awC, awA] = true := by kernel_rfl
theorem aw17 (W : World) : (binOp .eql 23 (.agg #[.string ⟨#[]⟩, .int .i64 0, .int .i64 0, .int .i64 0, .string ⟨#[]⟩]) (.agg #[.string ⟨#[]⟩, .int .i64 0, .int .i64 0, .int .i64 0, .string ⟨#[]⟩])).run Tryd.prog W = .ok (.bool true) W := by
  have h := eql_rr W Rd.RR.zero Rd.RR.zero
  rw [decide_eq_true rfl] at h
  exact h
theorem aw18 (W : World) (x y : Operand) : (eqGuard .eql 23 x y (.agg #[.string ⟨#[]⟩, .int .i64 0, .int .i64 0, .int .i64 0, .string ⟨#[]⟩]) (.agg #[.string ⟨#[]⟩, .int .i64 0, .int .i64 0, .int .i64 0, .string ⟨#[]⟩])).run Tryd.prog W = .ok () W :=
  guard_rr W x y Rd.RR.zero Rd.RR.zero

theorem fineAC : ∀ r ∈ [awA, awC], Fine r := by
  intro r hr; simp only [List.mem_cons, List.not_mem_nil, or_false] at hr; rcases hr with rfl | rfl; exact fineA; exact fineC
theorem fineCA : ∀ r ∈ [awC, awA], Fine r := by
  intro r hr; simp only [List.mem_cons, List.not_mem_nil, or_false] at hr; rcases hr with rfl | rfl; exact fineC; exact fineA
theorem lenAC : [awA, awC].length ≤ 100000 := by simp
theorem lenCA : [awC, awA].length ≤ 100000 := by simp
theorem flatAC : ([awA, awC].flatMap encRR).toArray = #[.string ⟨#[1, 97, 0]⟩, .int .i64 1, .int .i64 1, .int .i64 60, .string ⟨#[1, 2, 3, 4]⟩, .string ⟨#[1, 97, 0]⟩, .int .i64 5, .int .i64 1, .int .i64 60, .string ⟨#[1, 98, 0]⟩] := by simp [encRR, awA, awC]
theorem flatCA : ([awC, awA].flatMap encRR).toArray = #[.string ⟨#[1, 97, 0]⟩, .int .i64 5, .int .i64 1, .int .i64 60, .string ⟨#[1, 98, 0]⟩, .string ⟨#[1, 97, 0]⟩, .int .i64 1, .int .i64 1, .int .i64 60, .string ⟨#[1, 2, 3, 4]⟩] := by simp [encRR, awA, awC]
theorem readAC (W : World) (t : TypeId) : ReadR (.slice (some ⟨W.heap.size, 0, none⟩) 2 2) [awA, awC] (W.alloc (.cells #[.string ⟨#[1, 97, 0]⟩, .int .i64 1, .int .i64 1, .int .i64 60, .string ⟨#[1, 2, 3, 4]⟩, .string ⟨#[1, 97, 0]⟩, .int .i64 5, .int .i64 1, .int .i64 60, .string ⟨#[1, 98, 0]⟩] t)) := by
  have h := readR_new W [awA, awC] t 2
  rw [flatAC] at h
  exact h
theorem readCA (W : World) (t : TypeId) {B : Nat} (hB : W.heap.size = B) : ReadR (.slice (some ⟨B, 0, none⟩) 2 2) [awC, awA] (W.alloc (.cells #[.string ⟨#[1, 97, 0]⟩, .int .i64 5, .int .i64 1, .int .i64 60, .string ⟨#[1, 98, 0]⟩, .string ⟨#[1, 97, 0]⟩, .int .i64 1, .int .i64 1, .int .i64 60, .string ⟨#[1, 2, 3, 4]⟩] t)) := by
  subst hB
  have h := readR_new W [awC, awA] t 2
  rw [flatCA] at h
  exact h

set_option maxRecDepth 100000 in
set_option maxHeartbeats 4000000 in
theorem awake_any (w : World) (hv : VarsOk w) :
    Calls Tryd.prog 9 #[] w fun e w' => e = .returned (.bool true) ∧ Below w.heap.size w w' := by
  have heq := aw17
  have hgd := aw18
  go_enter Tryd.func9, Tryd.ntmps9
  go_wp2_with fail
  refine (makeA_any [1, 97, 0] 60 16909060 _ (by simp) (by omega) (by omega)).mono ?_
  rw [aw1]
  rintro e w1 ⟨rfl, b1⟩
  go_wp2_with fail
  refine (makeName_any [1, 97, 0] 5 60 [1, 98, 0] _ (by simp) (by simp)).mono ?_
  rw [aw2]
  rintro e w2 ⟨rfl, b2⟩
  have k1 := (Block.new w1 #[.string ⟨#[1, 97, 0]⟩, .int .i64 1, .int .i64 1, .int .i64 60, .string ⟨#[1, 2, 3, 4]⟩] 23).below b2
  replace b2 := (b1.alloc b1.size (.cells #[.string ⟨#[1, 97, 0]⟩, .int .i64 1, .int .i64 1, .int .i64 60, .string ⟨#[1, 2, 3, 4]⟩] 23)).trans (b2.mono (by have := b1.size; simp; omega))
  go_wp2_with fail
  refine (makeSOA_any [1, 97, 0] 60 5 30 _ (by simp) (by omega) (by omega) (by omega) (by omega)).mono ?_
  rw [aw3]
  rintro e w3 ⟨rfl, b3⟩
  replace k1 := (k1.alloc (.cells #[.string ⟨#[1, 97, 0]⟩, .int .i64 5, .int .i64 1, .int .i64 60, .string ⟨#[1, 98, 0]⟩] 23)).below b3
  have k2 := (Block.new w2 #[.string ⟨#[1, 97, 0]⟩, .int .i64 5, .int .i64 1, .int .i64 60, .string ⟨#[1, 98, 0]⟩] 23).below b3
  replace b3 := (b2.alloc b2.size (.cells #[.string ⟨#[1, 97, 0]⟩, .int .i64 5, .int .i64 1, .int .i64 60, .string ⟨#[1, 98, 0]⟩] 23)).trans (b3.mono (by have := b2.size; simp; omega))
  have lq := k1.lt
  have q0 := k1.cell (i := 0) rfl
  have q1 := k1.cell (i := 1) rfl
  have q2 := k1.cell (i := 2) rfl
  have q3 := k1.cell (i := 3) rfl
  have q4 := k1.cell (i := 4) rfl
  go_wp2_with fail
  refine (addr_any awA _ (by simp [awA])).mono ?_
  rw [aw4]
  rintro e w4 ⟨rfl, b4⟩
  clear lq q0 q1 q2 q3 q4
  replace k1 := (k1.alloc (.cells #[.string ⟨#[1, 97, 0]⟩, .int .i64 6, .int .i64 1, .int .i64 60, .string ⟨#[1, 97, 0, 0, 0, 0, 0, 5, 0, 0, 0, 1, 0, 0, 0, 2, 0, 0, 0, 3, 0, 0, 0, 30]⟩] 23)).below b4
  replace k2 := (k2.alloc (.cells #[.string ⟨#[1, 97, 0]⟩, .int .i64 6, .int .i64 1, .int .i64 60, .string ⟨#[1, 97, 0, 0, 0, 0, 0, 5, 0, 0, 0, 1, 0, 0, 0, 2, 0, 0, 0, 3, 0, 0, 0, 30]⟩] 23)).below b4
  have k3 := (Block.new w3 #[.string ⟨#[1, 97, 0]⟩, .int .i64 6, .int .i64 1, .int .i64 60, .string ⟨#[1, 97, 0, 0, 0, 0, 0, 5, 0, 0, 0, 1, 0, 0, 0, 2, 0, 0, 0, 3, 0, 0, 0, 30]⟩] 23).below b4
  replace b4 := (b3.alloc b3.size (.cells #[.string ⟨#[1, 97, 0]⟩, .int .i64 6, .int .i64 1, .int .i64 60, .string ⟨#[1, 97, 0, 0, 0, 0, 0, 5, 0, 0, 0, 1, 0, 0, 0, 2, 0, 0, 0, 3, 0, 0, 0, 30]⟩] 23)).trans (b4.mono (by have := b3.size; simp; omega))
  have lq := k2.lt
  have q0 := k2.cell (i := 0) rfl
  have q1 := k2.cell (i := 1) rfl
  have q2 := k2.cell (i := 2) rfl
  have q3 := k2.cell (i := 3) rfl
  have q4 := k2.cell (i := 4) rfl
  go_wp2_with fail
  refine (target_any awC _ (by simp [awC])).mono ?_
  rw [aw5]
  rintro e w5 ⟨rfl, b5⟩
  clear lq q0 q1 q2 q3 q4
  replace k1 := k1.below b5
  replace k2 := k2.below b5
  replace k3 := k3.below b5
  replace b5 := below_trans b4 b5
  have lq := k3.lt
  have q0 := k3.cell (i := 0) rfl
  have q1 := k3.cell (i := 1) rfl
  have q2 := k3.cell (i := 2) rfl
  have q3 := k3.cell (i := 3) rfl
  have q4 := k3.cell (i := 4) rfl
  go_wp2_with fail
  refine (minimum_any awS _ (by simp [awS])).mono ?_
  rw [aw6]
  rintro e w6 ⟨rfl, b6⟩
  clear lq q0 q1 q2 q3 q4
  replace k1 := k1.below b6
  replace k2 := k2.below b6
  replace b6 := below_trans b5 b6
  clear k3
  have lq := k1.lt
  have q0 := k1.cell (i := 0) rfl
  have q1 := k1.cell (i := 1) rfl
  have q2 := k1.cell (i := 2) rfl
  have q3 := k1.cell (i := 3) rfl
  have q4 := k1.cell (i := 4) rfl
  go_wp2_with fail
  refine (check_any awA _ (by simp [awA]) (by simp [awA])).mono ?_
  rw [aw7]
  rintro e w7 ⟨rfl, b7⟩
  clear lq q0 q1 q2 q3 q4
  replace k1 := k1.below b7
  replace k2 := k2.below b7
  replace b7 := below_trans b6 b7
  go_wp2_with fail
  refine (check_any Rd.RR.zero _ (by simp [Rd.RR.zero]) (by simp [Rd.RR.zero])).mono ?_
  rw [aw8]
  rintro e w8 ⟨rfl, b8⟩
  replace k1 := k1.below b8
  replace k2 := k2.below b8
  replace b8 := below_trans b7 b8
  go_wp2_with fail
  refine (known_any 33 _).mono ?_
  rw [aw9]
  rintro e w9 ⟨rfl, rfl⟩
  go_wp2_with fail
  refine (known_any 99 _).mono ?_
  rw [aw10]
  rintro e w9 ⟨rfl, rfl⟩
  go_wp2_with fail
  refine (data_any 99 [120] _ (by simp)).mono ?_
  rw [aw11]
  rintro e w9 ⟨rfl, b9⟩
  replace k1 := k1.below b9
  replace k2 := k2.below b9
  replace b9 := below_trans b8 b9
  go_wp2_with fail
  refine (type_any 15 _ (by omega) (by omega) (hv.below b9)).mono ?_
  rw [aw12]
  rintro e w10 ⟨rfl, b10⟩
  replace k1 := k1.below b10
  replace k2 := k2.below b10
  replace b10 := below_trans b9 b10
  go_wp2_with fail
  refine (type_any 99 _ (by omega) (by omega) (hv.below b10)).mono ?_
  rw [aw13]
  rintro e w11 ⟨rfl, b11⟩
  replace k1 := k1.below b11
  replace k2 := k2.below b11
  replace b11 := below_trans b10 b11
  go_wp2_with fail
  refine (makeA_any [] 1 1 _ (by simp) (by omega) (by omega)).mono ?_
  rw [aw14]
  rintro e w12 ⟨rfl, b12⟩
  replace k1 := k1.below b12
  replace k2 := k2.below b12
  replace b12 := below_trans b11 b12
  have lq := k1.lt
  have q0 := k1.cell (i := 0) rfl
  have q1 := k1.cell (i := 1) rfl
  have q2 := k1.cell (i := 2) rfl
  have q3 := k1.cell (i := 3) rfl
  have q4 := k1.cell (i := 4) rfl
  go_wp2_with fail
  refine (same_any awA awA _ (by simp [awA]) (by simp [awA]) (by simp [awA]) (by simp [awA])).mono ?_
  rw [aw15]
  rintro e w13 ⟨rfl, b13⟩
  clear lq q0 q1 q2 q3 q4
  replace k1 := k1.below b13
  replace k2 := k2.below b13
  replace b13 := below_trans b12 b13
  have lq := k1.lt
  have q0 := k1.cell (i := 0) rfl
  have q1 := k1.cell (i := 1) rfl
  have q2 := k1.cell (i := 2) rfl
  have q3 := k1.cell (i := 3) rfl
  have q4 := k1.cell (i := 4) rfl
  have lr := k2.lt
  have r0 := k2.cell (i := 0) rfl
  have r1 := k2.cell (i := 1) rfl
  have r2 := k2.cell (i := 2) rfl
  have r3 := k2.cell (i := 3) rfl
  have r4 := k2.cell (i := 4) rfl
  go_wp2_with fail
  refine (sameSet_any [awA, awC] [awC, awA] _ _ _ (readR_below (readAC w13 23) ((Below.refl _ _).alloc (Nat.le_refl _) _)) (readCA _ 23 (World.size_alloc _ _)) fineAC fineCA lenAC lenCA).mono ?_
  rw [aw16]
  rintro e w14 ⟨rfl, b14⟩
  replace b14 := ((b13.alloc b13.size _).alloc (by have := b13.size; simp; omega) _).trans (b14.mono (by have := b13.size; simp; omega))
  go_wp2
  go_ret
  exact ⟨rfl, b14⟩
end Go.Proofs.YtnnoooecbbkggaaDoor
