/- Whom a record leads to, its address, its least time: Target, Addr, Minimum, and the document's own. -/
import Derived.Test.YtnnoooecbbkggaaDoorNumber
namespace Go.Proofs.YtnnoooecbbkggaaDoor
open Go.RowKit Go.Shelf
attribute [local go_sem] Oper.semAt_some

namespace Rd
theorem lay16 : lay 16 = none := rfl
theorem lay_one {t : Int} {a b : Nat} (h : lay t = some (a, 1, b)) : b = 0 := by
  unfold lay at h
  repeat (split at h; · first | (simp at h; done) | (simp at h; omega))
  cases h
theorem lay_ne16 {t : Int} {a n b : Nat} (h : lay t = some (a, n, b)) : t ≠ 16 := fun e => by rw [e, lay16] at h; cases h
theorem parts_len {t : Int} {d : List UInt8} {a n b : Nat} {ps : List (Nat × Nat)} (h : lay t = some (a, n, b)) (hp : parts t d = some ps) : ∃ e, run d n a = some (ps, e) ∧ e + b = d.length ∧ d.length ≤ 1000 := by
  have hl : ¬ 1000 < d.length := fun hl => by rw [parts_long hl] at hp; cases hp
  rw [parts_lay h (lay_ne16 h) hl] at hp
  cases hr : run d n a with
  | none => rw [hr] at hp; cases hp
  | some x =>
    obtain ⟨ps', e⟩ := x
    rw [hr] at hp
    simp only [ofRun] at hp
    split at hp
    · rename_i he
      cases hp
      exact ⟨e, rfl, he, by omega⟩
    · cases hp
theorem target_one {r : RR} {a b : Nat} (h : lay r.typ = some (a, 1, b)) : target r = if dataOk r.typ r.data then some (r.data.drop a) else none := by
  unfold target dataOk
  cases hp : parts r.typ r.data with
  | none => rfl
  | some ps =>
    obtain ⟨e, hr, he, _⟩ := parts_len h hp
    have hb := lay_one h
    have h0 : nsz (r.data.drop a) ≠ 0 := fun h0 => by rw [run_zero h0] at hr; cases hr
    rw [run_succ rfl h0] at hr
    simp only [run, Option.map_some, Option.some.injEq, Prod.mk.injEq] at hr
    obtain ⟨rfl, he2⟩ := hr
    simp only [Option.isSome_some, if_true]
    rw [List.take_of_length_le (by rw [List.length_drop]; omega)]
theorem lay_cases (t : Int) : lay t = none ∨ (∃ a n b, lay t = some (a, n, b) ∧ n ≠ 1) ∨ ∃ a, lay t = some (a, 1, 0) := by
  cases h : lay t with
  | none => exact .inl rfl
  | some x =>
    obtain ⟨a, n, b⟩ := x
    by_cases e : n = 1
    · subst e
      have := lay_one h
      subst this
      exact .inr (.inr ⟨a, rfl⟩)
    · exact .inr (.inl ⟨a, n, b, rfl, e⟩)
theorem parts_other16 {t : Int} {d : List UInt8} {ps : List (Nat × Nat)} (h : lay t = none) (hp : parts t d = some ps) : ps = [] := by
  unfold parts at hp
  rw [h] at hp
  split at hp
  · cases hp
  · split at hp
    · split at hp
      · cases hp; rfl
      · cases hp
    · cases hp; rfl
theorem target_other {r : RR} (h : lay r.typ = none ∨ ∃ a n b, lay r.typ = some (a, n, b) ∧ n ≠ 1) : target r = none := by
  unfold target
  cases hp : parts r.typ r.data with
  | none => rfl
  | some ps =>
    rcases h with h | ⟨a, n, b, h, hn⟩
    · rw [parts_other16 h hp]
    · obtain ⟨e, hr, he, _⟩ := parts_len h hp
      have := (run_bound _ _ _ hr).2.2.2.1
      match ps, this with
      | [], _ => rfl
      | [x], h => exact absurd h.symm hn
      | _ :: _ :: _, _ => rfl
theorem target_len {r : RR} {l : List UInt8} (h : target r = some l) : l.length ≤ r.data.length := by
  unfold target at h
  split at h
  · cases h; rw [List.length_take, List.length_drop]; omega
  · cases h
end Rd

def strBool : Option (List UInt8) → Value
  | some l => .tuple #[.string ⟨l.toArray⟩, .bool true]
  | none => .tuple #[.string ⟨#[]⟩, .bool false]
def intBool : Option Nat → Value
  | some n => .tuple #[.int .i64 (n : Int), .bool true]
  | none => .tuple #[.int .i64 0, .bool false]

set_option maxRecDepth 100000 in
set_option maxHeartbeats 4000000 in
theorem target_any (r : Rd.RR) (w : World) (hd : r.data.length ≤ 100000) :
    Calls Tryd.prog 19 #[rrV r] w fun e w' => e = .returned (strBool (Rd.target r)) ∧ Below w.heap.size w w' := by
  have hT1 := fun a => Rd.target_one (r := r) (a := a) (b := 0)
  have hT2 := Rd.target_other (r := r)
  obtain ⟨n, t, c, l, d⟩ := r
  simp only at *
  obtain ⟨T, hT⟩ : ∃ T, Rd.target ⟨n, t, c, l, d⟩ = T := ⟨_, rfl⟩
  rw [hT] at hT1 hT2 ⊢
  clear hT
  unfold rrV
  rcases Rd.lay_cases t with h | ⟨a, k, b, h, hk⟩ | ⟨a, h⟩
  · have H := Lib.hid (hT2 (.inl h))
    have HY := Lib.hid h
    clear h hT1 hT2
    go_enter Tryd.func19, Tryd.ntmps19
    go_wp2_with fail
    refine (layoutOf_any t _).mono ?_
    rintro e w1 ⟨rfl, b1⟩
    rw [HY.out]
    simp only [layV, layL, Option.isSome_none]
    go_wp2
    go_ret2
    exact ⟨by rw [H.out]; rfl, ((Below.refl _ w).alloc (Nat.le_refl _) _).trans ((b1.alloc b1.size _).mono (by simp))⟩
  · have H := Lib.hid (hT2 (.inr ⟨a, k, b, h, hk⟩))
    have HY := Lib.hid h
    have hk1 : ((k : Int) != 1) = true := by rw [bne_iff_ne]; omega
    clear h hT1 hT2 hk
    go_enter Tryd.func19, Tryd.ntmps19
    go_wp2_with fail
    refine (layoutOf_any t _).mono ?_
    rintro e w1 ⟨rfl, b1⟩
    rw [HY.out]
    simp only [layV, layL, Option.isSome_some]
    go_wp2
    go_ret2
    exact ⟨by rw [H.out]; rfl, ((Below.refl _ w).alloc (Nat.le_refl _) _).trans ((b1.alloc b1.size _).mono (by simp))⟩
  · have H := Lib.hid (hT1 a h)
    have HY := Lib.hid h
    have ha := (Rd.lay_bounds h).1
    obtain ⟨y, hy⟩ : ∃ y, Rd.dataOk t d = y := ⟨_, rfl⟩
    have hal : y = true → a ≤ d.length := fun e => by
      rw [e] at hy
      obtain ⟨ps, hp⟩ : ∃ ps, Rd.parts t d = some ps := Option.isSome_iff_exists.1 hy
      obtain ⟨e, hr, he, _⟩ := Rd.parts_len h hp
      have := (Rd.run_bound _ _ _ hr).1
      omega
    have HD := Lib.hid hy
    clear h hT1 hT2 hy
    cases y
    · clear hal
      go_enter Tryd.func19, Tryd.ntmps19
      go_wp2_with fail
      refine (layoutOf_any t _).mono ?_
      rintro e w1 ⟨rfl, b1⟩
      rw [HY.out]
      simp only [layV, layL, Option.isSome_some]
      obtain ⟨hc, hf⟩ := bcell b1
      have hz : w.heap.size < w1.heap.size := Nat.lt_of_lt_of_le (by simp) b1.size
      go_wp2_with (go_at_call 12; refine (data_any _ d _ hd).mono ?_; rw [HD.out]; rintro e w2 ⟨rfl, b2⟩)
      go_ret2
      exact ⟨by rw [H.out, HD.out]; rfl, ((Below.refl _ w).alloc (Nat.le_refl _) _).trans (((b1.alloc b1.size _).mono (by simp)).trans (b2.mono (by simp; omega)))⟩
    · have hal := hal rfl
      obtain ⟨s, hs⟩ : ∃ s, d.drop a = s := ⟨_, rfl⟩
      have hsl := fun W => run_from (P := Tryd.prog) Tryd.underlying9 (l := d) (l' := s) (lo := (a : Int)) (by omega) (by omega) (by rw [← hs]; rfl) W
      have hs1 : s.length ≤ 100000 := by rw [← hs, List.length_drop]; omega
      have HS := Lib.hid hs
      clear hs
      go_enter Tryd.func19, Tryd.ntmps19
      go_wp2_with fail
      refine (layoutOf_any t _).mono ?_
      rintro e w1 ⟨rfl, b1⟩
      rw [HY.out]
      simp only [layV, layL, Option.isSome_some]
      obtain ⟨hc, hf⟩ := bcell b1
      have hz : w.heap.size < w1.heap.size := Nat.lt_of_lt_of_le (by simp) b1.size
      go_wp2_with (first
        | (go_at_call 12; refine (data_any _ d _ hd).mono ?_; rw [HD.out]; rintro e w2 ⟨rfl, b2⟩; obtain ⟨hc2, hf2⟩ := bcell b2)
        | (go_at_call 46; refine (clone_any s _ (by omega)).mono ?_; rintro e w3 ⟨rfl, b3⟩))
      go_ret2
      exact ⟨by rw [H.out, HD.out, HS.out]; rfl, below_trans (((Below.refl _ w).alloc (Nat.le_refl _) _).trans (((b1.alloc b1.size _).mono (by simp)).trans (b2.mono (by simp; omega)))) b3⟩
end Go.Proofs.YtnnoooecbbkggaaDoor
