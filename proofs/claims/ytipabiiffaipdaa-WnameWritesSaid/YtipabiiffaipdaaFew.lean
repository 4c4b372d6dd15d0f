/- few: what it tells of acts. -/
import Derived.Test.YtipabiiffaipdaaActs
namespace Go.Proofs.Ytipabiiffaipdaa
open Go.RowKit Go.Shelf
attribute [local go_sem] Oper.semAt_some

def small (l : List ActD) : Prop := l.length ≤ 40 ∧ ∀ a ∈ l, a.b.length ≤ 300 ∧ a.s.length ≤ 300
def FewRet (l : List ActD) (w : World) (e : Ending) (w' : World) : Prop := ∃ r, e = .returned (.bool r) ∧ (r = true → small l) ∧ Below w.heap.size w w'
theorem small_mk {l : List ActD} {k : Nat} (h1 : l.length ≤ 40) (hk : l.length ≤ k) (h2 : ∀ j (h : j < l.length), j < k → l[j].b.length ≤ 300 ∧ l[j].s.length ≤ 300) : small l :=
  ⟨h1, fun a ha => by
    obtain ⟨j, hj, rfl⟩ := List.getElem_of_mem ha
    exact h2 j hj (by omega)⟩

set_option maxRecDepth 100000 in
set_option maxHeartbeats 4000000 in
theorem few_any (l : List ActD) (v : Value) (w : World) (hr : ReadA v l w) (hl : l.length ≤ 9223372036854775807) :
    Calls Try.prog 12 #[v] w (FewRet l w) := by
  obtain ⟨ao, cap, rfl, hc⟩ := hr.form
  have HC := Lib.hid hc
  clear hc hr
  go_enter Try.func12, Try.ntmps12
  go_wp2
  go_loopw [3, 4] (fun n i wr => ∃ k m : Nat, n = .int .i64 (m : Int) ∧ i = .int .i64 (k : Int) ∧ k ≤ l.length ∧ k ≤ 50 ∧ m ≤ 600 * k ∧ Hid (∀ j (h : j < l.length), j < k → l[j].b.length ≤ 300 ∧ l[j].s.length ≤ 300) ∧ Below w.heap.size w wr) (fun _ i _ => 50 - (intOf i).toNat)
  case atStart => exact ⟨0, 0, rfl, rfl, Nat.zero_le _, Nat.zero_le _, Nat.zero_le _, Lib.hid (fun j h hj => by omega), Below.refl _ _⟩
  case round =>
    obtain ⟨k, m, rfl, rfl, hk1, hk2, hm, hJ, hb⟩ := hrel
    by_cases hlt : k < l.length ∧ k < 50
    · obtain ⟨hl1, hl2⟩ := hlt
      obtain ⟨g, off, rfl, _, cb, _, cs, hrb, hb1, hs1⟩ := HC.out k hl1
      obtain ⟨x, hx⟩ : ∃ x, x = l[k] := ⟨_, rfl⟩
      rw [← hx] at cb cs hrb hb1 hs1
      obtain ⟨aob, cpb, hbv, _⟩ := hrb.form
      rw [hbv] at cb
      replace cb := (hb.cell (cell_lt cb)).trans cb
      replace cs := (hb.cell (cell_lt cs)).trans cs
      obtain ⟨p, hp⟩ : ∃ p, p = x.b.length := ⟨_, rfl⟩
      obtain ⟨q, hq⟩ : ∃ q, q = x.s.length := ⟨_, rfl⟩
      obtain ⟨s, hs⟩ : ∃ s, s = x.s := ⟨_, rfl⟩
      rw [← hp] at cb hb1
      rw [← hs] at cs hs1 hq
      unfold maxLen at hb1 hs1
      have HX := Lib.hid hx
      have HP := Lib.hid hp
      have HS := Lib.hid hs
      have HQ := Lib.hid hq
      have HBV := Lib.hid hbv
      clear hx hp hs hq hbv hrb
      have hcase : 300 < p ∨ (p ≤ 300 ∧ 300 < s.length) ∨ (p ≤ 300 ∧ s.length ≤ 300) := by omega
      rcases hcase with h1 | ⟨h1, h2⟩ | ⟨h1, h2⟩
      · go_wp2
        go_ret
        exact ⟨false, rfl, fun h => (by cases h), hb⟩
      · go_wp2
        go_ret
        exact ⟨false, rfl, fun h => (by cases h), hb⟩
      · have hw1 : IntKind.i64.wrap ((m : Int) + (p : Int)) = (m : Int) + (p : Int) := IntWalk.i64_in _ (by omega)
        have hw2 : IntKind.i64.wrap ((m : Int) + (p : Int) + (s.length : Int)) = (m : Int) + (p : Int) + (s.length : Int) := IntWalk.i64_in _ (by omega)
        go_wp2
        go_quiet (fail)
        go_wp2
        exact ⟨⟨k + 1, m + p + s.length, by simp, by simp, by omega, by omega, by omega, Lib.hid (fun j h hj => by
          by_cases hjk : j = k
          · subst hjk
            rw [← HX.out, ← HP.out, ← HS.out]
            exact ⟨h1, h2⟩
          · exact hJ.out j h (by omega)), below_drewN hb _⟩, by simp [intOf]; omega⟩
    · have hcase : (l.length ≤ k ∧ l.length ≤ 40) ∨ (k < l.length ∧ 50 ≤ k) ∨ (l.length ≤ k ∧ 40 < l.length) := by omega
      rcases hcase with ⟨h1, h2⟩ | ⟨h1, h2⟩ | ⟨h1, h2⟩
      · have HSM := Lib.hid (small_mk h2 h1 hJ.out)
        go_wp2
        all_goals
          go_ret
          exact ⟨_, rfl, fun _ => HSM.out, hb⟩
      · go_wp2
        go_ret
        exact ⟨false, rfl, fun h => (by cases h), hb⟩
      · go_wp2
        go_ret
        exact ⟨false, rfl, fun h => (by cases h), hb⟩
end Go.Proofs.Ytipabiiffaipdaa
