/- The document's own records that are made. -/
import Derived.Test.YtnnoooecbbkggaaDoorMake
import Derived.Test.YtnnoooecbbkggaaDoorMakeSOA
namespace Go.Proofs.YtnnoooecbbkggaaDoor
open Go.RowKit Go.Shelf
attribute [local go_sem] Oper.semAt_some

namespace Rd
def madeR (r : RR) (more : Bool) : RR := if more then checkedR r else RR.zero
end Rd

set_option maxRecDepth 100000 in
set_option maxHeartbeats 2000000 in
theorem rmadeR_any (r : Rd.RR) (more : Bool) (w : World) (hn : r.name.length ≤ 100000) (hd : r.data.length ≤ 100000) :
    Calls Tryd.prog 57 #[rrV r, .bool more] w fun e w' => e = .returned (rrV (Rd.madeR r more)) ∧ Below w.heap.size w w' := by
  have hc := fun W => rcheck_any r W hn hd
  obtain ⟨x, hx⟩ : ∃ x, Rd.check r = x := ⟨_, rfl⟩
  rw [hx] at hc
  have HC := Lib.hid hc
  have hcase : (more = false ∨ (more = true ∧ x = false)) ∧ Hid (rrV (Rd.madeR r more) = .agg #[.string ⟨#[]⟩, .int .i64 0, .int .i64 0, .int .i64 0, .string ⟨#[]⟩]) ∨ more = true ∧ x = true ∧ Hid (rrV (Rd.madeR r more) = rrV r) := by
    cases more
    · exact .inl ⟨.inl rfl, Lib.hid rfl⟩
    · cases x
      · exact .inl ⟨.inr ⟨rfl, rfl⟩, Lib.hid (by unfold Rd.madeR; rw [if_pos rfl, Rd.checkedR_no hx]; rfl)⟩
      · exact .inr ⟨rfl, rfl, Lib.hid (by unfold Rd.madeR; rw [if_pos rfl, Rd.checkedR_yes hx])⟩
  clear hc hx
  obtain ⟨n, t, c, l, d⟩ := r
  unfold rrV at HC
  have hee : rrV ⟨n, t, c, l, d⟩ = .agg #[.string ⟨n.toArray⟩, .int .i64 t, .int .i64 c, .int .i64 l, .string ⟨d.toArray⟩] := rfl
  rw [hee]
  clear hee
  rcases hcase with ⟨rfl | ⟨rfl, rfl⟩, H⟩ | ⟨rfl, rfl, H⟩
  · go_enter Tryd.func57, Tryd.ntmps57
    go_wp2_with fail
    exact bodyPost_ret (v := .agg #[.string ⟨#[]⟩, .int .i64 0, .int .i64 0, .int .i64 0, .string ⟨#[]⟩]) (by simp [results, Tryd.results57, go_sem]) rfl ⟨by rw [H.out], ((Below.refl _ w).alloc (Nat.le_refl _) _).alloc (by simp) _⟩
  · go_enter Tryd.func57, Tryd.ntmps57
    go_wp2_with (go_at_call 14; refine (HC.out _).mono ?_; rintro e w1 ⟨rfl, b1⟩; obtain ⟨hc, hf⟩ := bcell b1; have hz : w.heap.size + 1 < w1.heap.size := Nat.lt_of_lt_of_le (by simp) b1.size; replace b1 := (((Below.refl _ w).alloc (Nat.le_refl _) _).alloc (by simp) _).trans (b1.mono (by simp; omega)))
    exact bodyPost_ret (v := .agg #[.string ⟨#[]⟩, .int .i64 0, .int .i64 0, .int .i64 0, .string ⟨#[]⟩]) (by simp [results, Tryd.results57, go_sem, hc, hf, hz]) rfl ⟨by rw [H.out], below5 b1 (by omega) _ _ _ _ _⟩
  · go_enter Tryd.func57, Tryd.ntmps57
    go_wp2_with (go_at_call 14; refine (HC.out _).mono ?_; rintro e w1 ⟨rfl, b1⟩; obtain ⟨hc, hf⟩ := bcell b1; have hz : w.heap.size + 1 < w1.heap.size := Nat.lt_of_lt_of_le (by simp) b1.size; replace b1 := (((Below.refl _ w).alloc (Nat.le_refl _) _).alloc (by simp) _).trans (b1.mono (by simp; omega)))
    exact bodyPost_ret (v := .agg #[.string ⟨n.toArray⟩, .int .i64 t, .int .i64 c, .int .i64 l, .string ⟨d.toArray⟩]) (by simp [results, Tryd.results57, go_sem, hc, hf, hz]) rfl ⟨by rw [H.out]; rfl, below5 b1 (by omega) _ _ _ _ _⟩

set_option maxRecDepth 100000 in
set_option maxHeartbeats 2000000 in
theorem rmakeA_any (n : List UInt8) (l x : Int) (w : World) (hn : n.length ≤ 100000) (hx0 : -9223372036854775808 ≤ x) (hx1 : x ≤ 9223372036854775807) :
    Calls Tryd.prog 30 #[.string ⟨n.toArray⟩, .int .i64 l, .int .i64 x] w fun e w' => e = .returned (rrV (Rd.makeA n l x)) ∧ Below w.heap.size w w' := by
  obtain ⟨f, hf⟩ : ∃ f, Rd.isFour x = f := ⟨_, rfl⟩
  obtain ⟨r, hr⟩ : ∃ r, Rd.madeR ⟨n, 1, 1, l, Rd.four x⟩ f = r := ⟨_, rfl⟩
  have hc := fun W => rmadeR_any ⟨n, 1, 1, l, Rd.four x⟩ f W hn (by show 4 ≤ 100000; omega)
  rw [hr] at hc
  have H : Hid (rrV (Rd.makeA n l x) = rrV r) := Lib.hid (by rw [← hr, ← hf]; rfl)
  have HF := Lib.hid hf
  have h4 := fun W => four_any x W hx0 hx1
  obtain ⟨q, hq⟩ : ∃ q, Rd.four x = q := ⟨_, rfl⟩
  rw [hq] at hc h4
  have HC := Lib.hid hc
  have H4 := Lib.hid h4
  clear hf hc hr h4 hq
  obtain ⟨n', t', c', l', d'⟩ := r
  unfold rrV at HC
  go_enter Tryd.func30, Tryd.ntmps30
  go_wp2_with (first
    | (go_at_call 58; refine (H4.out _).mono ?_; rintro e w1 ⟨rfl, b1⟩; replace b1 : Below (w.heap.size + 1) _ w1 := b1.mono (by simp); have hz : w.heap.size < w1.heap.size := Nat.lt_of_lt_of_le (by simp) b1.size)
    | (go_at_call 59; refine (word_any x _).mono ?_; rw [HF.out]; rintro e w2 ⟨rfl, rfl⟩)
    | (go_at_call 57; refine (HC.out _).mono ?_; rintro e w2 ⟨rfl, b2⟩; replace b1 := b1.trans (b2.mono hz); obtain ⟨hc2, hf2⟩ := bcell1 b1))
  exact bodyPost_ret (v := .agg #[.string ⟨n'.toArray⟩, .int .i64 t', .int .i64 c', .int .i64 l', .string ⟨d'.toArray⟩]) (by simp [results, Tryd.results30, go_sem, hc2, hf2]) rfl ⟨by rw [H.out]; rfl, below5' b1 _ _ _ _ _⟩

set_option maxRecDepth 100000 in
set_option maxHeartbeats 2000000 in
theorem rmakeName_any (n : List UInt8) (t l : Int) (to : List UInt8) (w : World) (hn : n.length ≤ 100000) (hto : to.length ≤ 100000) :
    Calls Tryd.prog 32 #[.string ⟨n.toArray⟩, .int .i64 t, .int .i64 l, .string ⟨to.toArray⟩] w fun e w' => e = .returned (rrV (Rd.makeName n t l to)) ∧ Below w.heap.size w w' := by
  have hcase : ∃ m : Bool, (t = 2 ∧ m = true ∨ t = 5 ∧ m = true ∨ t = 12 ∧ m = true ∨ (((t : Int) == 2) = false ∧ ((t : Int) == 5) = false ∧ ((t : Int) == 12) = false) ∧ m = false) ∧ Rd.makeName n t l to = Rd.madeR ⟨n, t, 1, l, to⟩ m := by
    by_cases ht : t = 2 ∨ t = 5 ∨ t = 12
    · refine ⟨true, by rcases ht with h | h | h <;> simp [h], ?_⟩
      unfold Rd.makeName Rd.madeR
      rw [if_pos ht, if_pos rfl]
    · refine ⟨false, ?_, ?_⟩
      · refine .inr (.inr (.inr ⟨⟨beq_eq_false_iff_ne.2 ?_, beq_eq_false_iff_ne.2 ?_, beq_eq_false_iff_ne.2 ?_⟩, rfl⟩)) <;> omega
      · unfold Rd.makeName Rd.madeR
        rw [if_neg ht]; rfl
  obtain ⟨m, hm, he⟩ := hcase
  obtain ⟨r, hr⟩ : ∃ r, Rd.madeR ⟨n, t, 1, l, to⟩ m = r := ⟨_, rfl⟩
  have hc := fun W => rmadeR_any ⟨n, t, 1, l, to⟩ m W hn hto
  rw [hr] at hc he
  have H : Hid (rrV (Rd.makeName n t l to) = rrV r) := Lib.hid (by rw [he])
  have HC := Lib.hid hc
  clear hc hr he
  obtain ⟨n', t', c', l', d'⟩ := r
  unfold rrV at HC
  rcases hm with ⟨rfl, rfl⟩ | ⟨rfl, rfl⟩ | ⟨rfl, rfl⟩ | ⟨⟨h1, h2, h3⟩, rfl⟩
  all_goals
    go_enter Tryd.func32, Tryd.ntmps32
    go_wp2_with (go_at_call 57; refine (HC.out _).mono ?_; rintro e w2 ⟨rfl, b2⟩; have b1 : Below (w.heap.size + 1) _ w2 := b2.mono (by simp); obtain ⟨hc2, hf2⟩ := bcell1 b1)
    exact bodyPost_ret (v := .agg #[.string ⟨n'.toArray⟩, .int .i64 t', .int .i64 c', .int .i64 l', .string ⟨d'.toArray⟩]) (by simp [results, Tryd.results32, go_sem, hc2, hf2]) rfl ⟨by rw [H.out]; rfl, below5' b1 _ _ _ _ _⟩
end Go.Proofs.YtnnoooecbbkggaaDoor
