/- 2 texts put together: Round, OrdM. -/
import Derived.Test.YtdodamkndigjkaaJB3
import Derived.Test.YtdodamkndigjkaaJB4
/- Round. -/
namespace Go.Proofs.Ytdodamkndigjkaa
open Go.RowKit Go.Shelf

def roundI (k n : Int) : Int := (k.tmod n + n).tmod n
theorem roundI_bounds (k n : Int) (h : 0 < n) : 0 ≤ roundI k n ∧ roundI k n < n := by
  unfold roundI
  have h1 : -n < k.tmod n := Int.lt_tmod_of_pos k h
  have h2 : 0 ≤ k.tmod n + n := by omega
  exact ⟨Int.tmod_nonneg _ h2, Int.tmod_lt_of_pos _ h⟩

set_option maxHeartbeats 400000 in
theorem round_any (k n : Int) (w : World) (h1 : 1 ≤ n) (h2 : n ≤ 1000000) (_hk1 : -9223372036854775808 ≤ k) (_hk2 : k ≤ 9223372036854775807) :
    Calls Try.prog 24 #[.int .i64 k, .int .i64 n] w fun e w' => e = .returned (.int .i64 (roundI k n)) ∧ w = w' := by
  have hn0 : (n == 0) = false := by rw [beq_eq_false_iff_ne]; omega
  go_enter Try.func24, Try.ntmps24
  go_wp2
  go_ret
  have hlo := Int.lt_tmod_of_pos k (show 0 < n by omega)
  have hhi := Int.tmod_lt_of_pos k (show 0 < n by omega)
  refine ⟨ret_int ?_, rfl⟩
  unfold roundI
  generalize k.tmod n = m at *
  rw [show wrap64 (m + n) = m + n by unfold wrap64; omega]
end Go.Proofs.Ytdodamkndigjkaa

/- What MatchOrder says, as mathematics: records dealt out by turns. -/
namespace Go.Proofs.Ytdodamkndigjkaa
namespace Mt
open Rd
/-- The record of the i-th turn. -/
def dealt (a b : Int) (i : Nat) : RR := ⟨[1, UInt8.ofNat (97 + (roundI a 4).toNat), 0], 99 + roundI b 2, 1, 0, [UInt8.ofNat i]⟩
theorem sub_put {l : List RR} {gs : List Gr} (h : ∀ g ∈ gs, g.rrs.Sublist l) (r : RR) : ∀ g ∈ put gs r, g.rrs.Sublist (l ++ [r]) := by
  have ho : ∀ g ∈ openK gs (Nm.fold r.name) r.typ, g.rrs.Sublist l := by
    intro g h1
    unfold openK at h1
    split at h1
    · exact h g h1
    · rcases List.mem_append.1 h1 with h2 | h2
      · exact h g h2
      · rw [List.mem_singleton] at h2; subst h2; exact List.nil_sublist _
  intro g hg
  unfold put at hg
  rcases mem_modify hg with h1 | ⟨hi, rfl⟩
  · exact (ho g h1).trans (List.sublist_append_left l [r])
  · exact (ho _ (List.getElem_mem hi)).append (List.Sublist.refl [r])
theorem sub_sets (l : List RR) : ∀ g ∈ sets l, g.rrs.Sublist l := by
  have key : ∀ (l pre : List RR) (gs : List Gr), (∀ g ∈ gs, g.rrs.Sublist pre) → ∀ g ∈ l.foldl step gs, g.rrs.Sublist (pre ++ l) := by
    intro l
    induction l with
    | nil => intro pre gs h; simpa using h
    | cons r l ih =>
      intro pre gs h
      rw [List.foldl_cons]
      have := ih (pre ++ [r]) (step gs r) (by
        unfold step
        split
        · exact sub_put h r
        · exact fun g hg => (h g hg).trans (List.sublist_append_left _ _))
      simpa [List.append_assoc] using this
  simpa [sets] using key l [] [] (by simp)
/-- Keys and counts. -/
def keysOf (gs : List Gr) : List (List UInt8 × Int) := gs.map fun g => (g.name, g.typ)
def countsOf (gs : List Gr) : List Nat := gs.map fun g => g.rrs.length
theorem keysOf_put (gs : List Gr) (r : RR) : keysOf (put gs r) = if hasK gs (Nm.fold r.name) r.typ then keysOf gs else keysOf gs ++ [(Nm.fold r.name, r.typ)] := by
  have hm : ∀ (G : List Gr) (i : Nat), (G.modify i (add r)).map (fun g => (g.name, g.typ)) = G.map (fun g => (g.name, g.typ)) := by
    intro G
    induction G with
    | nil => intro i; cases i <;> rfl
    | cons g G ih => intro i; cases i with
      | zero => rfl
      | succ i => simp only [List.modify_succ_cons, List.map_cons, ih]
  unfold put keysOf
  rw [hm]
  unfold openK
  split
  · rfl
  · simp
theorem countsOf_put (gs : List Gr) (r : RR) : countsOf (put gs r) = ((if hasK gs (Nm.fold r.name) r.typ then countsOf gs else countsOf gs ++ [0]).modify (atK gs (Nm.fold r.name) r.typ) (· + 1)) := by
  have hm : ∀ (G : List Gr) (i : Nat), (G.modify i (add r)).map (fun g => g.rrs.length) = (G.map (fun g => g.rrs.length)).modify i (· + 1) := by
    intro G
    induction G with
    | nil => intro i; cases i <;> rfl
    | cons g G ih => intro i; cases i with
      | zero => simp [List.modify_zero_cons, add]
      | succ i => simp only [List.modify_succ_cons, List.map_cons, ih]
  unfold put countsOf
  rw [hm]
  congr 1
  unfold openK
  split
  · rfl
  · simp
end Mt
end Go.Proofs.Ytdodamkndigjkaa
