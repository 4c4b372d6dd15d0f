/- ArenaHandles of package freshetlaw6 (a handle is the least number that is no block's; given back, it is given again) returns true at every number and list of numbers, and they read as they did: the given card.
   Conditions: those of the row and of its card, none beside. -/
import Derived.Test.YtdbaocphglijbaaDoorJB15
import Derived.Test.YtdbaocphglijbaaDoorJB18
import Derived.Test.YtdbaocphglijbaaDoorJB26
/- Handles in use: the mathematics of ArenaHandles. -/
set_option maxRecDepth 100000
namespace Go.Proofs.YtdbaocphglijbaaDoor
open Go.RowKit Go.Shelf
structure Hs (l : List Bool) (L : List Bl) (n : Nat) : Prop where
  len : l.length = 33
  iff : ∀ h, h < 33 → (l[h]? = some true ↔ ∃ b ∈ L, b.1 = h)
  le : ∀ b ∈ L, b.1 ≤ n ∧ b.2.length ≤ 8
theorem Hs.nil (n : Nat) : Hs (List.replicate 33 false) [] n := by
  refine ⟨by simp, fun h hh => ?_, fun b hb => by cases hb⟩
  rw [List.getElem?_replicate, if_pos hh]
  simp
theorem sum16 : ∀ (L : List Bl), (∀ b ∈ L, b.2.length ≤ 8) → sumC L = 16 * L.length
  | [], _ => rfl
  | b :: L, h => by
    rw [sumC_cons, sum16 L (fun x hx => h x (List.mem_cons_of_mem _ hx)), List.length_cons]
    have : Ar.cost b.2.length = 16 := by unfold Ar.cost; rw [if_pos (h b (by simp))]
    omega
theorem fst_nodup {L : List Bl} (h : L.Pairwise (fun x y => x.1 < y.1)) : (L.map Prod.fst).Nodup := by
  unfold List.Nodup
  rw [List.pairwise_map]
  exact h.imp fun h => Nat.ne_of_lt h
theorem Hs.count {l : List Bool} {L : List Bl} {n : Nat} (h : Hs l L n) (hs : L.Pairwise (fun x y => x.1 < y.1)) (hp : ∀ b ∈ L, 1 ≤ b.1) : L.length ≤ n ∧ sumC L = 16 * L.length := by
  refine ⟨?_, sum16 L fun b hb => (h.le b hb).2⟩
  have key := Ar.nodup_le (l := L.map Prod.fst) (m := List.range' 1 n) (fst_nodup hs) (fun x hx => by
    obtain ⟨b, hb, rfl⟩ := List.mem_map.1 hx
    rw [List.mem_range'_1]
    have := hp b hb
    have := (h.le b hb).1
    omega)
  simpa using key
theorem Least.notin {L1 L2 : List Bl} (h : Least L1 L2) : ∀ b ∈ L1 ++ L2, b.1 ≠ L1.length + 1 := fun b hb e => by
  rcases List.mem_append.1 hb with hb | hb
  · obtain ⟨i, hi, rfl⟩ := List.mem_iff_getElem.1 hb
    have := h.1 i hi
    omega
  · have := h.2 b hb
    omega
theorem Least.below {L1 L2 : List Bl} (h : Least L1 L2) : ∀ j, 1 ≤ j → j < L1.length + 1 → ∃ b ∈ L1 ++ L2, b.1 = j := fun j j1 j2 =>
  ⟨L1[j - 1], List.mem_append_left _ (List.getElem_mem _), by rw [h.1 (j - 1) (by omega)]; omega⟩
/-- Which one is taken. -/
theorem Hs.least {l : List Bool} {L1 L2 : List Bl} {n k : Nat} (h : Hs l (L1 ++ L2) n) (hl : Least L1 L2) (hk : k < 33) (_hn : n ≤ 32) (h1 : 1 ≤ k) (h2 : l[k]? ≠ some true) (h3 : ∀ j, 1 ≤ j → j < k → l[j]? = some true) : L1.length + 1 = k := by
  rcases Nat.lt_trichotomy (L1.length + 1) k with hlt | heq | hgt
  · obtain ⟨b, hb, e⟩ := (h.iff _ (by omega)).1 (h3 (L1.length + 1) (by omega) hlt)
    exact absurd e (hl.notin b hb)
  · exact heq
  · exact absurd ((h.iff k hk).2 (hl.below k h1 hgt)) h2
theorem Hs.take {l : List Bool} {L1 L2 : List Bl} {n k : Nat} {z : List UInt8} (h : Hs l (L1 ++ L2) n) (hk : k < 33) (hkn : k ≤ n) (hz : z.length ≤ 8) : Hs (l.set k true) (L1 ++ (k, z) :: L2) n := by
  refine ⟨by rw [List.length_set]; exact h.len, fun j hj => ?_, fun b hb => ?_⟩
  · rw [List.getElem?_set]
    by_cases e : k = j
    · subst e
      rw [if_pos rfl, if_pos (by rw [h.len]; exact hk)]
      exact ⟨fun _ => ⟨(k, z), by simp, rfl⟩, fun _ => rfl⟩
    · rw [if_neg e, h.iff j hj]
      constructor
      · rintro ⟨b, hb, rfl⟩
        exact ⟨b, by rcases List.mem_append.1 hb with hb | hb <;> simp [hb], rfl⟩
      · rintro ⟨b, hb, rfl⟩
        rcases List.mem_append.1 hb with hb | hb
        · exact ⟨b, by simp [hb], rfl⟩
        · rcases List.mem_cons.1 hb with rfl | hb
          · exact absurd rfl e
          · exact ⟨b, by simp [hb], rfl⟩
  · rcases List.mem_append.1 hb with hb | hb
    · exact h.le b (by simp [hb])
    · rcases List.mem_cons.1 hb with rfl | hb
      · exact ⟨hkn, hz⟩
      · exact h.le b (by simp [hb])
theorem Hs.noIn {l : List Bool} {L : List Bl} {n k : Nat} (h : Hs l L n) (hk : k < 33) (h1 : ∀ b ∈ L, (b.1 : Int) ≠ (k : Int)) : l[k]? = some false := by
  have h2 : ¬ l[k]? = some true := fun e => by
    obtain ⟨b, hb, e⟩ := (h.iff k hk).1 e
    exact h1 b hb (by omega)
  have hlt : k < l.length := by rw [h.len]; exact hk
  rw [List.getElem?_eq_getElem hlt] at h2 ⊢
  cases hx : l[k] with
  | false => rfl
  | true => rw [hx] at h2; exact absurd rfl h2
theorem Hs.isIn {l : List Bool} {L : List Bl} {n k : Nat} {b : Bl} (h : Hs l L n) (hk : k < 33) (hb : b ∈ L) (h1 : (b.1 : Int) = (k : Int)) : l[k]? = some true := (h.iff k hk).2 ⟨b, hb, by omega⟩
theorem Hs.same {l : List Bool} {L : List Bl} {n k : Nat} (h : Hs l L n) (h1 : l[k]? = some false) : Hs (l.set k false) L n := by
  rw [set_same h1]; exact h
theorem Hs.drop {l : List Bool} {L1 L2 : List Bl} {b : Bl} {n k : Nat} (h : Hs l (L1 ++ b :: L2) n) (hs : (L1 ++ b :: L2).Pairwise (fun x y => x.1 < y.1)) (hk : k < 33) (hb : (b.1 : Int) = (k : Int)) : Hs (l.set k false) (L1 ++ L2) n := by
  have hb : b.1 = k := by omega
  subst hb
  refine ⟨by rw [List.length_set]; exact h.len, fun j hj => ?_, fun x hx => h.le x (by rcases List.mem_append.1 hx with hx | hx <;> simp [hx])⟩
  have hnd : ∀ x ∈ L1 ++ L2, x.1 ≠ b.1 := fun x hx e => by
    rw [List.pairwise_append, List.pairwise_cons] at hs
    rcases List.mem_append.1 hx with hx | hx
    · have := hs.2.2 x hx b (by simp); omega
    · have := hs.2.1.1 x hx; omega
  rw [List.getElem?_set]
  by_cases e : b.1 = j
  · subst e
    rw [if_pos rfl, if_pos (by rw [h.len]; exact hk)]
    constructor
    · intro e; cases e
    · rintro ⟨x, hx, e⟩
      exact absurd e (hnd x hx)
  · rw [if_neg e, h.iff j hj]
    constructor
    · rintro ⟨x, hx, rfl⟩
      refine ⟨x, ?_, rfl⟩
      rcases List.mem_append.1 hx with hx | hx
      · simp [hx]
      · rcases List.mem_cons.1 hx with rfl | hx
        · exact absurd rfl e
        · simp [hx]
    · rintro ⟨x, hx, rfl⟩
      exact ⟨x, by rcases List.mem_append.1 hx with hx | hx <;> simp [hx], rfl⟩
/-- How many of the first ones are in use. -/
def cntB (l : List Bool) (k : Nat) : Nat := ((List.range k).filter fun j => l[j]? == some true).length
theorem cntB_succ (l : List Bool) (k : Nat) : cntB l (k + 1) = cntB l k + if l[k]? = some true then 1 else 0 := by
  unfold cntB
  rw [List.range_succ, List.filter_append, List.length_append]
  congr 1
  by_cases h : l[k]? = some true <;> simp [h]
theorem cntB_le (l : List Bool) (k : Nat) : cntB l k ≤ k := by
  unfold cntB
  have := List.length_filter_le (fun j => l[j]? == some true) (List.range k)
  simpa using this
theorem Hs.cnt {l : List Bool} {L : List Bl} {n : Nat} (h : Hs l L n) (hs : L.Pairwise (fun x y => x.1 < y.1)) (hn : n ≤ 32) : cntB l 33 = L.length := by
  have h1 := Ar.nodup_le (l := (List.range 33).filter fun j => l[j]? == some true) (m := L.map Prod.fst) (List.nodup_range.sublist List.filter_sublist) (fun j hj => by
    rw [List.mem_filter, List.mem_range] at hj
    obtain ⟨b, hb, e⟩ := (h.iff j hj.1).1 (by simpa using hj.2)
    exact List.mem_map.2 ⟨b, hb, e⟩)
  have h2 := Ar.nodup_le (l := L.map Prod.fst) (m := (List.range 33).filter fun j => l[j]? == some true) (fst_nodup hs) (fun j hj => by
    obtain ⟨b, hb, rfl⟩ := List.mem_map.1 hj
    have := (h.le b hb).1
    rw [List.mem_filter, List.mem_range]
    exact ⟨by omega, by simpa using (h.iff b.1 (by omega)).2 ⟨b, hb, rfl⟩⟩)
  rw [List.length_map] at h1 h2
  unfold cntB
  omega
theorem Hs.at0 {l : List Bool} {L : List Bl} {n : Nat} (h : Hs l L n) (hp : ∀ b ∈ L, 1 ≤ b.1) : cntB l 1 = 0 := by
  rw [cntB_succ]
  have : ¬ l[0]? = some true := fun e => by
    obtain ⟨b, hb, e⟩ := (h.iff 0 (by omega)).1 e
    have := hp b hb
    omega
  rw [if_neg this]
  rfl
/-- One is free, among the first 33. -/
theorem Hs.ahead {l : List Bool} {L : List Bl} {n : Nat} (h : Hs l L n) (hn : n ≤ 31) : l[n + 1]? ≠ some true := fun e => by
  obtain ⟨b, hb, e⟩ := (h.iff (n + 1) (by omega)).1 e
  have := (h.le b hb).1
  omega
end Go.Proofs.YtdbaocphglijbaaDoor

/- ArenaHandles. -/
set_option maxRecDepth 100000
namespace Go.Proofs.YtdbaocphglijbaaDoor
open Go.RowKit Go.Shelf
attribute [local go_sem] Oper.semAt_some
theorem infoBool : (Tryd.prog.info? 4).map (fun i => (i.zero, i.size, i.bytes)) = some (some (.bool false), 1, 1) := by kernel_rfl
/-- The state between steps: the block of the law's own has lm. -/
structure HdAt (A I : Nat) (lm l : List Bool) (L : List Bl) (n : Nat) (w0 w : World) : Prop where
  hx : HX (fun k => k = I) A 1024 L w0.heap.size w
  blk : Blk w I (lm.map .bool) 4
  hs : Hs l L n
  len : lm.length = 33
  bel : Below w0.heap.size w0 w
theorem HdAt.to {A I : Nat} {lm l l' : List Bool} {L L' : List Bl} {n : Nat} {w0 w w' : World} (h : HdAt A I lm l L n w0 w) (k : LX (fun k => k = I) A 1024 L' w0.heap.size w w') (hs : Hs l' L' n) : HdAt A I lm l' L' n w0 w' :=
  ⟨k.at_, k.blk rfl h.blk, hs, h.len, h.bel.trans k.below⟩
theorem HdAt.put {A I : Nat} {lm l : List Bool} {L : List Bl} {n : Nat} {w0 w : World} (h : HdAt A I lm l L n w0 w) (i : Nat) (b : Bool) : HdAt A I (lm.set i b) l L n w0 (w.setCell ⟨I, i, none⟩ (.bool b)) :=
  ⟨h.hx.put rfl i _, by rw [List.map_set]; exact h.blk.set i _, h.hs, by rw [List.length_set]; exact h.len, h.bel.setCell (h.hx.xlow I rfl) _⟩
theorem HdAt.drw {A I : Nat} {lm l : List Bool} {L : List Bl} {n : Nat} {w0 w : World} (h : HdAt A I lm l L n w0 w) : HdAt A I lm l L n w0 w.drew :=
  h.to (h.hx.lx (Below.refl _ w).drew) h.hs
theorem alloc_le (A I : Nat) (lm l : List Bool) (L : List Bl) (n k : Nat) (z : Int) (m : Nat) (w0 w : World) (hz : z = (m : Int)) (h : HdAt A I lm l L n w0 w) (hm : m ≤ 8) (hn : n ≤ 30) (hk1 : 1 ≤ k) (hkn : k ≤ n) (h2 : l[k]? ≠ some true) (h3 : ∀ j, 1 ≤ j → j < k → l[j]? = some true) :
    Calls Tryd.prog 17 #[.pointer (some ⟨A, 0, none⟩), .int .i64 z] w fun e w' => e = .returned (.tuple #[.int .i64 (k : Int), .int .i64 0]) ∧ ∃ L', HdAt A I lm (l.set k true) L' n w0 w' := by
  subst hz
  obtain ⟨hsrt, hpos⟩ := h.hx.each
  obtain ⟨hc, hs⟩ := h.hs.count hsrt (fun b hb => (hpos b hb).1)
  have hci : Ar.costI (m : Int) = 16 := by rw [Ar.costI_nat (by omega)]; unfold Ar.cost; rw [if_pos hm]
  refine (alloc_x _ A 1024 L _ (m : Int) w h.hx).mono fun e w' hk => ?_
  rcases hk with ⟨k1, _⟩ | ⟨_, k1, _⟩ | ⟨_, _, i, L1, L2, hi, _, rfl, hl, he, hL⟩
  · omega
  · omega
  · have hkk := h.hs.least hl (by omega) (by omega) hk1 h2 h3
    obtain rfl : m = i := by omega
    rw [hkk] at hL he
    exact ⟨he, _, h.to hL (h.hs.take (by omega) hkn (by simp [Ar.zeros]; omega))⟩
theorem free_le (A I : Nat) (lm l : List Bool) (L : List Bl) (n k : Nat) (z : Int) (w0 w : World) (hz : z = (k : Int)) (h : HdAt A I lm l L n w0 w) (hk : k < 33) :
    Calls Tryd.prog 19 #[.pointer (some ⟨A, 0, none⟩), .int .i64 z] w fun e w' => ∃ L', HdAt A I lm (l.set k false) L' n w0 w' ∧ ((l[k]? = some true ∧ e = .returned (.int .i64 0)) ∨ (l[k]? = some false ∧ e = .returned (.int .i64 5))) := by
  subst hz
  refine (free_x _ A 1024 L _ (k : Int) w h.hx).mono fun e w' hk' => ?_
  rcases hk' with ⟨h1, he, hL⟩ | ⟨L1, b, L2, rfl, ho, he, hL⟩
  · have := h.hs.noIn hk h1
    exact ⟨_, h.to hL (h.hs.same this), .inr ⟨this, he⟩⟩
  · exact ⟨_, h.to hL (h.hs.drop h.hx.each.1 hk ho), .inl ⟨h.hs.isIn hk (by simp) ho, he⟩⟩
theorem free_no (A I : Nat) (lm l : List Bool) (L : List Bl) (n k : Nat) (z : Int) (w0 w : World) (hz : z = (k : Int)) (hb : l[k]? = some false) (h : HdAt A I lm l L n w0 w) (hk : k < 33) :
    Calls Tryd.prog 19 #[.pointer (some ⟨A, 0, none⟩), .int .i64 z] w fun e w' => e = .returned (.int .i64 5) ∧ ∃ L', HdAt A I lm (l.set k false) L' n w0 w' :=
  (free_le A I lm l L n k z w0 w hz h hk).mono fun e w' ⟨L', h1, h2⟩ => by
    rcases h2 with ⟨h3, _⟩ | ⟨_, h3⟩
    · rw [hb] at h3; cases h3
    · exact ⟨h3, L', h1⟩
theorem free_yes (A I : Nat) (lm l : List Bool) (L : List Bl) (n k : Nat) (z : Int) (w0 w : World) (hz : z = (k : Int)) (hb : l[k]? = some true) (h : HdAt A I lm l L n w0 w) (hk : k < 33) :
    Calls Tryd.prog 19 #[.pointer (some ⟨A, 0, none⟩), .int .i64 z] w fun e w' => e = .returned (.int .i64 0) ∧ ∃ L', HdAt A I lm (l.set k false) L' n w0 w' :=
  (free_le A I lm l L n k z w0 w hz h hk).mono fun e w' ⟨L', h1, h2⟩ => by
    rcases h2 with ⟨_, h3⟩ | ⟨h3, _⟩
    · exact ⟨h3, L', h1⟩
    · rw [hb] at h3; cases h3
theorem size_le (A I : Nat) (lm l : List Bool) (L : List Bl) (n k : Nat) (w0 w : World) (h : HdAt A I lm l L n w0 w) (hk : k < 33) :
    Calls Tryd.prog 32 #[.pointer (some ⟨A, 0, none⟩), .int .i64 (k : Int)] w fun e w' => HdAt A I lm l L n w0 w' ∧ ∃ (z : Int) (b : Bool), l[k]? = some b ∧ e = .returned (.tuple #[.int .i64 z, .bool b]) := by
  refine (size_x _ A 1024 L _ (k : Int) w h.hx).mono fun e w' hk' => ?_
  rcases hk' with ⟨hL, _, ⟨h1, he⟩ | ⟨b, hb, ho, he⟩⟩
  · exact ⟨h.to hL h.hs, 0, false, h.hs.noIn hk h1, he⟩
  · exact ⟨h.to hL h.hs, _, true, h.hs.isIn hk hb ho, he⟩
theorem used_le (A I : Nat) (lm l : List Bool) (L : List Bl) (n : Nat) (w0 w : World) (h : HdAt A I lm l L n w0 w) (hn : n ≤ 30) :
    Calls Tryd.prog 31 #[.pointer (some ⟨A, 0, none⟩)] w fun e w' => e = .returned (.int .i64 (16 * (cntB l 33 : Int))) ∧ w = w' := by
  obtain ⟨hsrt, hpos⟩ := h.hx.each
  obtain ⟨hc, hs⟩ := h.hs.count hsrt (fun b hb => (hpos b hb).1)
  refine (used_x _ A 1024 L _ w h.hx).mono fun e w' ⟨he, hw⟩ => ⟨?_, hw⟩
  rw [he, hs, h.hs.cnt hsrt (by omega)]
  congr 2
theorem hd_new (w : World) (hT : TabOk w) : Calls Tryd.prog 15 #[.int .i64 1024] w fun e w' => ∃ A, e = .returned (.tuple #[.pointer (some ⟨A, 0, none⟩), .int .i64 0]) ∧ HX (fun _ => False) A 1024 [] w.heap.size w' ∧ Below w.heap.size w w' :=
  new_x 1024 w (by decide) (by decide) hT
theorem hd_start {A n : Nat} {w0 w : World} (h : HX (fun _ => False) A 1024 [] w0.heap.size w) (hb : Below w0.heap.size w0 w) : HdAt A w.heap.size (List.replicate 33 false) (List.replicate 33 false) [] n w0 (w.alloc (.cells (List.replicate 33 (.bool false)).toArray 4)) :=
  ⟨(h.mine _).less (fun k e => .inr e), by rw [List.map_replicate]; exact Blk.new w _ _, Hs.nil n, by simp, hb.trans ((Below.refl _ w).alloc h.low _)⟩
theorem HdAt.cell {A I : Nat} {lm l : List Bool} {L : List Bl} {n : Nat} {w0 w : World} (h : HdAt A I lm l L n w0 w) {i : Nat} {b : Bool} (hb : lm[i]? = some b) : w.cell? ⟨I, i, none⟩ = some (.bool b) :=
  h.blk.cell (by rw [List.getElem?_map, hb]; rfl)
set_option maxHeartbeats 8000000 in
theorem handles_out (n : Int) (gone : List Int) (gv : Value) (w : World) (hT : TabOk w) (hg : ReadI gv gone w) (hl : (gone.length : Int) ≤ 9223372036854775807) (hn : n < 1 ∨ 30 < n ∨ 20 < gone.length) : Calls Tryd.prog 6 #[.int .i64 n, gv] w fun e w' => e = .returned (.bool true) ∧ Below w.heap.size w w' := by
  have HT := Lib.hid hT
  clear hT
  obtain ⟨ao, cap, rfl, _⟩ := hg.form
  clear hg
  go_enter Tryd.func6, Tryd.ntmps6
  by_cases h1 : n < 1
  · go_wp2_with (go_at_call 14; with_reducible refine (awake_any _ HT.out).mono ?_; rintro e w' ⟨rfl, hb⟩)
    go_ret
    exact ⟨rfl, hb⟩
  by_cases h2 : 30 < n
  · go_wp2_with (go_at_call 14; with_reducible refine (awake_any _ HT.out).mono ?_; rintro e w' ⟨rfl, hb⟩)
    go_ret
    exact ⟨rfl, hb⟩
  have h3 : 20 < gone.length := by omega
  go_wp2_with (go_at_call 14; with_reducible refine (awake_any _ HT.out).mono ?_; rintro e w' ⟨rfl, hb⟩)
  go_ret
  exact ⟨rfl, hb⟩
end Go.Proofs.YtdbaocphglijbaaDoor

/- ArenaHandles: the walk. -/
set_option maxRecDepth 100000
namespace Go.Proofs.YtdbaocphglijbaaDoor
open Go.RowKit Go.Shelf
attribute [local go_sem] Oper.semAt_some
theorem size_at (A I : Nat) (lm l : List Bool) (L : List Bl) (n k : Nat) (b : Bool) (w0 w : World) (hb : l[k]? = some b) (h : HdAt A I lm l L n w0 w) (hk : k < 33) :
    Calls Tryd.prog 32 #[.pointer (some ⟨A, 0, none⟩), .int .i64 (k : Int)] w fun e w' => HdAt A I lm l L n w0 w' ∧ ∃ z : Int, e = .returned (.tuple #[.int .i64 z, .bool b]) :=
  (size_le A I lm l L n k w0 w h hk).mono fun e w' ⟨h1, z, b', h2, h3⟩ => by
    rw [hb] at h2
    cases h2
    exact ⟨h1, z, h3⟩
theorem set_at {l : List Bool} {k : Nat} {v : Bool} (hk : k < l.length) : (l.set k v)[k]? = some v := by simp [hk]
theorem set_below {l : List Bool} {k : Nat} (h : ∀ j, 1 ≤ j → j < k → l[j]? = some true) {hk : k < l.length} : ∀ j, 1 ≤ j → j < k + 1 → (l.set k true)[j]? = some true := fun j h1 h2 => by
  rw [List.getElem?_set]
  by_cases e : k = j
  · rw [if_pos e, if_pos hk]
  · rw [if_neg e]; exact h j h1 (by omega)
theorem set_above {l : List Bool} {k : Nat} (h : ∀ j, k ≤ j → l[j]? ≠ some true) : ∀ j, k + 1 ≤ j → (l.set k true)[j]? ≠ some true := fun j h1 => by
  rw [List.getElem?_set_ne (by omega)]
  exact h j (by omega)
set_option maxHeartbeats 16000000 in
theorem handles_in (n : Nat) (gone : List Int) (gv : Value) (w : World) (hT : TabOk w) (hg : ReadI gv gone w) (hz : ∀ z ∈ gone, -9223372036854775808 ≤ z ∧ z ≤ 9223372036854775807) (hn1 : 1 ≤ n) (hn2 : n ≤ 30) (hl : gone.length ≤ 20) : Calls Tryd.prog 6 #[.int .i64 (n : Int), gv] w fun e w' => e = .returned (.bool true) ∧ Below w.heap.size w w' := by
  have HT := Lib.hid hT
  have HG := Lib.hid hg
  have HZ := Lib.hid hz
  obtain ⟨ao, cap, rfl, _⟩ := hg.form
  clear hT hg hz
  have n1 : ¬ (n : Int) < 1 := by omega
  have n2 : ¬ (30 : Int) < n := by omega
  have n3 : ¬ 20 < gone.length := by omega
  have hmk := fun W => make_one (e := 4) Tryd.underlying55 infoBool (by decide) rfl 33 33 rfl (by decide) W
  go_enter Tryd.func6, Tryd.ntmps6
  go_wp2_with (go_at_call 15; with_reducible refine (hd_new _ HT.out).mono ?_; rintro e w1 ⟨A, rfl, hA1, hb1⟩; have H0 := Lib.hid (hd_start (n := n) hA1 hb1); clear hA1 hb1)
  clear hmk
  generalize hW0 : World.alloc w1 _ = W0
  replace H0 : Hid (HdAt A w1.heap.size (List.replicate 33 false) (List.replicate 33 false) [] n w W0) := by rw [← hW0]; exact H0
  clear hW0
  generalize w1.heap.size = I at H0 ⊢
  go_loopw [8] (fun i wr => ∃ (k : Nat) (l : List Bool) (L : List Bl), i = .int .i64 (k : Int) ∧ 1 ≤ k ∧ k ≤ n + 1 ∧ Hid (HdAt A I l l L n w wr) ∧ Hid (∀ j, 1 ≤ j → j < k → l[j]? = some true) ∧ Hid (∀ j, k ≤ j → l[j]? ≠ some true)) (fun i _ => n + 1 - (intOf i).toNat)
  case atStart => exact ⟨1, List.replicate 33 false, [], rfl, Nat.le_refl _, by omega, H0, Lib.hid (fun j h1 h2 => absurd h2 (by omega)), Lib.hid (fun j _ e => by rw [List.getElem?_replicate] at e; split at e <;> simp at e)⟩
  case round =>
    obtain ⟨k, l, L, rfl, hk1, hkn, HH, HB, HA⟩ := hrel
    clear H0
    by_cases hlt : k ≤ n
    · have hlen := HH.out.len
      have hlb : k < l.length := by omega
      go_wp2_with (go_at_call 17; with_reducible refine (alloc_le A I l l L n k 1 1 w _ rfl HH.out (by decide) hn2 hk1 hlt (HA.out k (Nat.le_refl _)) HB.out).mono ?_; rintro e w2 ⟨rfl, L', h2⟩; have H2 := Lib.hid h2; have hcell := h2.cell (List.getElem?_eq_getElem hlb); have hfr := h2.blk.frozen k; clear h2)
      go_roundw
      case rel => exact ⟨k + 1, l.set k true, L', by go_num, by omega, by omega, Lib.hid (H2.out.put k true), Lib.hid (set_below HB.out (hk := hlb)), Lib.hid (set_above HA.out)⟩
      case measure => simp [intOf]; omega
    · clear HA HB
      go_wp2
      go_loopw [11] (fun i wr => ∃ (k : Nat) (l : List Bool) (L : List Bl), i = .int .i64 (k : Int) ∧ k ≤ gone.length ∧ Hid (HdAt A I l l L n w wr)) (fun i _ => gone.length + 1 - (intOf i).toNat)
      case atStart => exact ⟨0, l, L, rfl, Nat.zero_le _, HH⟩
      case round =>
        obtain ⟨k, l2, L2, rfl, hk, HH2⟩ := hrel
        clear HH
        by_cases hlt2 : k < gone.length
        · obtain ⟨b, off, hao, hgc⟩ := (readI_below HG.out HH2.out.bel).form_at hlt2
          subst hao
          have hzk := HZ.out _ (List.getElem_mem hlt2)
          have hrb := roundI_bounds gone[k] n (by omega)
          obtain ⟨m, hm⟩ : ∃ m : Nat, roundI gone[k] n = (m : Int) := ⟨(roundI gone[k] n).toNat, by omega⟩
          have HR := Lib.hid (fun W => by have h := round_any gone[k] n W (by omega) (by omega) hzk.1 hzk.2; rw [hm] at h; exact h)
          have hmn : m < n := by omega
          clear hrb hm hzk
          have hlen := HH2.out.len
          have hlb : m + 1 < l2.length := by omega
          go_wp2_with (go_at_call 28; with_reducible refine (HR.out _).mono ?_; rintro e w' ⟨rfl, rfl⟩)
          have hz1 : (1 : Int) + (m : Int) = ((m + 1 : Nat) : Int) := by omega
          rw [hz1]
          clear hz1
          go_cut [84] from 76 to 84 (fun b wx => b = .bool false ∧ ∃ L3, Hid (HdAt A I l2 (l2.set (m + 1) false) L3 n w wx))
          case first =>
            rcases Bool.eq_false_or_eq_true l2[m + 1] with hb | hb
            · have HB := Lib.hid (show l2[m + 1]? = some true by rw [List.getElem?_eq_getElem hlb, hb])
              clear hb
              have hcell := HH2.out.cell HB.out
              go_region_with (go_at_call 19; with_reducible refine (free_yes A I l2 l2 L2 n (m + 1) ((m : Int) + 1) w _ (by omega) HB.out HH2.out.drw (by omega)).mono ?_; rintro e w2 ⟨rfl, L3, h3⟩; have H3 := Lib.hid h3; have hc3 := h3.cell HB.out; clear h3)
              all_goals
                go_wp2
                go_meet
                case rel => exact ⟨rfl, L3, H3⟩
            · have HB := Lib.hid (show l2[m + 1]? = some false by rw [List.getElem?_eq_getElem hlb, hb])
              clear hb
              have hcell := HH2.out.cell HB.out
              go_region_with (go_at_call 19; with_reducible refine (free_no A I l2 l2 L2 n (m + 1) ((m : Int) + 1) w _ (by omega) HB.out HH2.out.drw (by omega)).mono ?_; rintro e w2 ⟨rfl, L3, h3⟩; have H3 := Lib.hid h3; have hc3 := h3.cell HB.out; clear h3)
              all_goals
                go_wp2
                go_meet
                case rel => exact ⟨rfl, L3, H3⟩
          case rest =>
            obtain ⟨rfl, L3, H3⟩ := hcut
            clear HH2
            have hcell := H3.out.cell (List.getElem?_eq_getElem hlb)
            have hfr := H3.out.blk.frozen (m + 1)
            go_wp2
            · go_roundw
              case rel => exact ⟨k + 1, l2.set (m + 1) false, L3, by go_num, by omega, Lib.hid (H3.out.put (m + 1) false)⟩
              case measure => simp [intOf]; omega
            · have H4 := Lib.hid (H3.out.put (m + 1) false)
              have HF := Lib.hid (set_at (v := false) hlb)
              clear hcell hfr H3
              generalize l2.set (m + 1) false = l3 at H4 HF
              generalize hW4 : World.setCell _ _ _ = W4 at H4 ⊢
              clear hW4
              go_loopw [13] (fun i wr => ∃ (t : Nat), i = .int .i64 (t : Int) ∧ 1 ≤ t ∧ t ≤ m + 1 ∧ Hid (HdAt A I l3 l3 L3 n w wr) ∧ Hid (∀ j, 1 ≤ j → j < t → l3[j]? = some true)) (fun i _ => m + 2 - (intOf i).toNat)
              case atStart => exact ⟨1, rfl, Nat.le_refl _, by omega, H4, Lib.hid (fun j h1 h2 => absurd h2 (by omega))⟩
              case round =>
                obtain ⟨t, rfl, ht1, ht2, H5, HB5⟩ := hrel
                clear H4
                have hl3 := H5.out.len
                have htl : t < l3.length := by omega
                rcases Bool.eq_false_or_eq_true l3[t] with hb | hb
                · have hne : t ≠ m + 1 := fun e => by
                    subst e
                    have := HF.out
                    rw [List.getElem?_eq_getElem htl, hb] at this
                    cases this
                  have HB6 := Lib.hid (show l3[t]? = some true by rw [List.getElem?_eq_getElem htl, hb])
                  have hcell := H5.out.cell HB6.out
                  clear hb
                  go_wp2
                  go_roundw
                  case rel => exact ⟨t + 1, by go_num, by omega, by omega, H5, Lib.hid (fun j h1 h2 => by
                    by_cases e : j = t
                    · rw [e]; exact HB6.out
                    · exact HB5.out j h1 (by omega))⟩
                  case measure => simp [intOf]; omega
                · have HB6 := Lib.hid (show l3[t]? = some false by rw [List.getElem?_eq_getElem htl, hb])
                  have hcell := H5.out.cell HB6.out
                  clear hb
                  go_wp2_with (go_at_call 17; with_reducible refine (alloc_le A I l3 l3 L3 n t 5 5 w _ rfl H5.out (by decide) hn2 ht1 (by omega) (by rw [HB6.out]; simp) HB5.out).mono ?_; rintro e w6 ⟨rfl, L6, h6⟩; have H6 := Lib.hid h6; have hcell6 := h6.cell HB6.out; have hfr6 := h6.blk.frozen t; clear h6)
                  go_roundw
                  case rel => exact ⟨k + 1, l3.set t true, L6, by go_num, by omega, Lib.hid (H6.out.put t true)⟩
                  case measure => simp [intOf]; omega
        · clear HG
          go_wp2
          have hc0 := HH2.out.hs.at0 (fun b hb => (HH2.out.hx.each.2 b hb).1)
          have HC0 := Lib.hid hc0
          clear hc0
          go_loopw [16, 17] (fun c i wr => ∃ (t q : Nat), i = .int .i64 (t : Int) ∧ 1 ≤ t ∧ t ≤ 33 ∧ c = .int .i64 (q : Int) ∧ q ≤ t ∧ Hid (cntB l2 t = q) ∧ Hid (HdAt A I l2 l2 L2 n w wr)) (fun _ i _ => 34 - (intOf i).toNat)
          case atStart => exact ⟨1, 0, rfl, Nat.le_refl _, by omega, rfl, by omega, HC0, HH2⟩
          case round =>
            obtain ⟨t, q, rfl, ht1, ht2, rfl, hq, HQ, H3⟩ := hrel
            clear HH2 HC0
            have hlen := H3.out.len
            have hsucc := Lib.hid (cntB_succ l2 t)
            by_cases hlt3 : t < 33
            · have htl : t < l2.length := by omega
              rcases Bool.eq_false_or_eq_true l2[t] with hb | hb
              · have HB6 := Lib.hid (show l2[t]? = some true by rw [List.getElem?_eq_getElem htl, hb])
                clear hb
                go_wp2_with (go_at_call 32; with_reducible refine (size_at A I l2 l2 L2 n t true w _ HB6.out H3.out hlt3).mono ?_; rintro e w6 ⟨h6, z6, rfl⟩; have H6 := Lib.hid h6; have hcell6 := h6.cell HB6.out; clear h6)
                go_roundw
                case rel => exact ⟨t + 1, q + 1, by go_num, by omega, by omega, by go_num, by omega, Lib.hid (by rw [hsucc.out, HB6.out, HQ.out, if_pos rfl]), H6⟩
                case measure => simp [intOf]; omega
              · have HB6 := Lib.hid (show l2[t]? = some false by rw [List.getElem?_eq_getElem htl, hb])
                clear hb
                go_wp2_with (go_at_call 32; with_reducible refine (size_at A I l2 l2 L2 n t false w _ HB6.out H3.out hlt3).mono ?_; rintro e w6 ⟨h6, z6, rfl⟩; have H6 := Lib.hid h6; have hcell6 := h6.cell HB6.out; clear h6)
                go_roundw
                case rel => exact ⟨t + 1, q, by go_num, by omega, by omega, rfl, by omega, Lib.hid (by rw [hsucc.out, HB6.out, HQ.out, if_neg (by simp)]; omega), H6⟩
                case measure => simp [intOf]; omega
            · have HU := Lib.hid (show ∀ W, HdAt A I l2 l2 L2 n w W → Calls Tryd.prog 31 #[.pointer (some ⟨A, 0, none⟩)] W fun e w' => e = .returned (.int .i64 (16 * (q : Int))) ∧ W = w' from fun W h => by
                have k := used_le A I l2 l2 L2 n w W h hn2
                rw [← HQ.out, show t = 33 by omega]
                exact k)
              have hawk := Lib.hid (show ∀ W, HdAt A I l2 l2 L2 n w W → Calls Tryd.prog 14 #[] W fun e w' => e = .returned (.bool true) ∧ Below w.heap.size w w' from fun W h =>
                (awake_any W h.hx.tab).mono fun e w' ⟨he, hb⟩ => ⟨he, h.bel.trans (hb.mono h.bel.size)⟩)
              clear HQ hsucc
              go_wp2_with (first
                | (go_at_call 31; with_reducible refine (HU.out _ H3.out).mono ?_; rintro e w' ⟨rfl, rfl⟩)
                | (go_at_call 14; with_reducible refine (hawk.out _ H3.out).mono ?_; rintro e w' ⟨rfl, hb⟩))
              go_ret
              exact ⟨rfl, hb⟩
theorem hands_any (z : Int) (gone : List Int) (gv : Value) (w : World) (hT : TabOk w) (hg : ReadI gv gone w) (hz : ∀ z ∈ gone, -9223372036854775808 ≤ z ∧ z ≤ 9223372036854775807) (hl : gone.length ≤ 9223372036854775807) : Calls Tryd.prog 6 #[.int .i64 z, gv] w fun e w' => e = .returned (.bool true) ∧ Below w.heap.size w w' := by
  by_cases h : z < 1 ∨ 30 < z ∨ 20 < gone.length
  · exact handles_out z gone gv w hT hg (by omega) h
  · obtain ⟨n, rfl⟩ : ∃ n : Nat, z = (n : Int) := ⟨z.toNat, by omega⟩
    exact handles_in n gone gv w hT hg hz (by omega) (by omega) (by omega)
end Go.Proofs.YtdbaocphglijbaaDoor

/- ArenaHandles of package freshetlaw6 (a handle is the least number that is no block's; given back, it is given again) returns true at every number and list of numbers, and they read as they did: the given card.
   Conditions: those of the row and of its card, none beside. -/
set_option maxRecDepth 100000
namespace Go.Proofs.YtdbaocphglijbaaDoor.arenaHandles
open Go.ChangeShapes Go.WideShapes Go.ChangeAt Go.RowKit

theorem contract (H : Type) (enc : TypeId × Value → H) (W : World) (base : Nat) (args : Array Value) (ds gs : List (DataW H)) (before : List MemPlace)
    (hval : ∀ (j : Nat) t v, Tryd.f6.params[j]? = some t → args[j]? = some v → Value.okWide Tryd.prog W .any base t v)
    (hW : DataW.Whole enc Tryd.prog Tryd.f6.params.toList Rows.arenaHandlesSpec.vars false W args.toList ds gs before) (hL : laidMetH Tryd.prog laidList W) :
    Calls Tryd.prog 6 args W fun e W' => ∃ v, e = .returned v ∧ Rows.arenaHandlesSpec.post enc Tryd.prog Tryd.f6 false true false false W args v W' := by
  have hW' := hW
  obtain ⟨p, q, hA0, hV, rfl, _, _⟩ := hW
  have hA : DataW.TrodAll enc Tryd.prog W 0 (fun _ => true) true Tryd.f6.params.toList args.toList ds p := hA0
  clear hA0
  rw [Tryd.params6] at hA hval
  obtain ⟨v0, vs0, d0, ds0, p0, q0, hargs0, rfl, rfl, h0, r0⟩ := trodAll_cons hA
  obtain ⟨v1, vs1, d1, ds1, p1, q1, hargs1, rfl, rfl, h1, r1⟩ := trodAll_cons r0
  subst hargs1
  obtain ⟨rfl, rfl, rfl⟩ := trodAll_nil r1
  obtain rfl : args = #[v0, v1] := by cases args; simp_all
  obtain ⟨rfl, rfl⟩ := trodVars_none hV
  obtain ⟨z0, rfl, hz0⟩ := arg_int (hval 0 _ _ rfl rfl) h0
  obtain ⟨z1, hr1, hb1, hl1⟩ := arg_ints (hval 1 _ v1 rfl rfl) h1
  have hL' := tabOk hL
  refine (hands_any z0 z1 v1 W hL' hr1 hb1 (by rw [maxLen_eq] at hl1; exact hl1)).mono fun e W' ⟨he, hbl⟩ => ?_
  exact ⟨_, he, law_post hW' rfl hbl rfl rfl (fun t ht => readT7 t (by rw [Tryd.params6] at ht; exact (show ∀ t ∈ (#[3, 54] : Array TypeId).toList, t ∈ [3, 54, 9, 55, 82] by decide) t ht))⟩

theorem reads (os : Os) {H : Type} (enc : TypeId × Value → H) : ∃ places, DataW.whole enc Tryd.prog ((laidWorld os).forCall (fun _ _ => 0) ⟨#[], #[.int .i64 0, .slice none 0 0], []⟩).memory Tryd.f6.params.toList Rows.arenaHandlesSpec.vars false (#[.int .i64 0, .slice none 0 0] : Array Value).toList 8 = some ([.lit (.int .i64 0), .nil], [], places) :=
  ⟨[], by kernel_rfl⟩

theorem lifted (os : Os) (started : os.Started) (H : Type) (enc : TypeId × Value → H) (F : Stop.Interp) :
    ReturnsInHanded {} Tryd.checked os 6 .any ((OpenSpec.ofChange Rows.arenaHandlesSpec).preRow enc Tryd.prog Tryd.f6 Rows.arenaHandlesRow.domain false Rows.arenaHandlesRow.laid) (((OpenSpec.ofChange Rows.arenaHandlesSpec).at F).post enc Tryd.prog Tryd.f6 false true false false) := by
  obtain ⟨places, hx⟩ := reads os enc
  refine returnsInHanded_of_row (C := Tryd.checked) (s := OpenSpec.ofChange Rows.arenaHandlesSpec) own started (by kernel_rfl) Tryd.func6
    (witness_row_atRef (enc := enc) (C := Tryd.checked) false (laidWorld os) #[.int .i64 0, .slice none 0 0] rfl (by kernel_rfl) (by kernel_rfl) (by kernel_rfl)
      (OpenSpec.preRow_of_cond 8 hx (by kernel_rfl) (fun k hk => by cases hk) (by kernel_rfl) (laid_met os _))) ?_
  intro W base args ds gs before hval hW _ _ _ hL _ _
  exact contract H enc W base args ds gs before hval hW hL

theorem said : Rows.ArenaHandlesSaid :=
  OpenClaim.holds_of_cond 6 Tryd.f6 rfl rfl rfl rfl rfl rfl rfl ⟨rfl, rfl, rfl, rfl, rfl⟩ rfl rfl rfl rfl rfl (by kernel_rfl) Tryd.func6 (by kernel_rfl)
    (of_decide_eq_true (by kernel_rfl)) (by unfold Func.isWrapper; first | (rw [if_pos (by decide +kernel)]; kernel_rfl) | (rw [if_neg (by decide +kernel)]; exact ⟨rfl, rfl⟩))
    (fun os started H enc _ F => by rw [OpenClaim.pre_eq_preRow]; exact lifted os started H enc F)

/-- No parameter wants a stand-in; the looks are as the card has them. -/
theorem plain (f : FuncId) (fn : Func) (hf : Tryd.pinned.checked.prog.funcNamed "freshet/freshetlaw6.ArenaHandles" = some f) (hfn : Tryd.pinned.checked.prog.funcs[f]? = some fn) :
    false = Tryd.pinned.checked.prog.looks [] ∧ ∀ (j : Nat) t, fn.params[j]? = some t → Tryd.pinned.checked.prog.wantsStandIn t = false := by
  obtain rfl : f = 6 := Option.some.inj ((show Tryd.prog.funcNamed "freshet/freshetlaw6.ArenaHandles" = some 6 by kernel_rfl).symm.trans hf) |>.symm
  obtain rfl : fn = Tryd.f6 := (Option.some.inj (Tryd.func6.symm.trans hfn)).symm
  refine ⟨by kernel_rfl, fun j t ht => ?_⟩
  rw [Tryd.params6] at ht
  exact standT7 t ((show ∀ t ∈ (#[3, 54] : Array TypeId).toList, t ∈ [3, 54, 9, 55, 82] by decide) t (Array.mem_toList_iff.2 (Array.mem_of_getElem? ht)))

theorem card : Rows.ArenaHandlesCardSaid :=
  Claim7.holds_tied_plain_at .later [] _ _ _ _ said (fun _ h => by cases h) (by kernel_rfl) (fun _ h => by cases h) arenaHandles_row_tie rfl ⟨rfl, rfl⟩ (by kernel_rfl) rfl plain (by kernel_rfl)
end Go.Proofs.YtdbaocphglijbaaDoor.arenaHandles
