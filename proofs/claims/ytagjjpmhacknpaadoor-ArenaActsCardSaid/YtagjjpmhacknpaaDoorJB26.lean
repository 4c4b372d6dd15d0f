/- 5 texts put together: Aar, Aaf, Aaw, Aax, Cards. -/
import Derived.Deep.RegionHeld3
import Derived.Test.YtagjjpmhacknpaaDoorRows
import GoSem.ClaimSeven
import Derived.Test.YtagjjpmhacknpaaDoorJB16
import Derived.Test.YtagjjpmhacknpaaDoorJB25
/- ArenaActs: Read, Write, Compact by both. -/
set_option maxRecDepth 100000
namespace Go.Proofs.YtagjjpmhacknpaaDoor
open Go Go.RowKit Go.Shelf
attribute [local go_sem] Oper.semAt_some
theorem rk_rdB {x : Nat → Prop} {v : Value} {l : List UInt8} {W : World} (h : RK encC x v l W) : RdB v l W := by
  obtain ⟨ao, cap, rfl, hc, hf⟩ := h.form
  refine ⟨ao, cap, rfl, fun j hj => ?_⟩
  obtain ⟨b, off, e, _, c⟩ := hf j (encB l[j]) (by rw [flatC]; simp [hj])
  exact ⟨b, off, e, c⟩
/-- What Read tells, of both. -/
inductive RdAct (L : List Bl) (z a n : Int) : List UInt8 → Nat → Prop
  | none : (∀ b ∈ L, (b.1 : Int) ≠ z) → RdAct L z a n [] 5
  | bad (b : Bl) : b ∈ L → (b.1 : Int) = z → ¬ Within b.2.length a n → RdAct L z a n [] 1
  | ok (b : Bl) : b ∈ L → (b.1 : Int) = z → Within b.2.length a n → RdAct L z a n ((b.2.drop a.toNat).take n.toNat) 0
theorem aa_read1 (K : Nat → Prop) (A m B n0 : Nat) (L L' : List Bl) (z a n : Int) (w W : World) (h : AaM K A m B n0 L L' w W)
    (hI1 : -9223372036854775808 ≤ a) (hI2 : a ≤ 9223372036854775807) (hI3 : -9223372036854775808 ≤ n) (hI4 : n ≤ 9223372036854775807) :
    Calls Tryd.prog 12 #[.pointer (some ⟨A, 0, none⟩), .int .i64 z, .int .i64 a, .int .i64 n] W fun e w' => ∃ (v : Value) (l : List UInt8) (er : Nat), e = .returned (.tuple #[v, .int .i64 (er : Int)]) ∧ RdAct L z a n l er ∧ RK encC (fun _ => True) v l w' ∧ Below W.heap.size W w' := by
  obtain ⟨⟨x, y, P, h1, h2, h3, h4, h5⟩, hbel⟩ := h
  refine (read_x x A B L n0 z a n W h1 hI1 hI2 hI3 hI4).mono fun e w' ⟨_, hb, hk⟩ => ?_
  rcases hk with ⟨k1, he⟩ | ⟨b, hbm, hz, ⟨k1, he⟩ | ⟨k1, v, l, rfl, he, hr⟩⟩
  · exact ⟨_, [], 5, he, .none k1, RK.nil _ _ _, hb⟩
  · exact ⟨_, [], 1, he, .bad b hbm hz k1, RK.nil _ _ _, hb⟩
  · have ho : OwnK encC 1 5 W.heap.size v ((b.2.drop a.toNat).take n.toNat) w' := by unfold OwnK; rw [flatC]; exact hr
    exact ⟨v, _, 0, he, .ok b hbm hz k1, RK.own ho fun _ _ => trivial, hb⟩
theorem aa_read2 (K : Nat → Prop) (A m B n0 : Nat) (L L' : List Bl) (z a n : Int) (l : List UInt8) (er : Nat) (w W : World) (hl : L.length ≤ 65536) (he4 : ∀ b ∈ L, b.2.length ≤ 4096) (hsrt : L.Pairwise (fun x y => x.1 < y.1)) (h : AaM K A m B n0 L' L w W) (ha : RdAct L z a n l er)
    (hI1 : -9223372036854775808 ≤ a) (hI2 : a ≤ 9223372036854775807) (hI3 : -9223372036854775808 ≤ n) (hI4 : n ≤ 9223372036854775807) :
    Calls Tryd.prog 13 #[.pointer (some ⟨m, 0, none⟩), .int .i64 z, .int .i64 a, .int .i64 n] W fun e w' => ∃ (v : Value), e = .returned (.tuple #[v, .int .i64 (er : Int)]) ∧ RK encC (fun _ => True) v l w' ∧ Below W.heap.size W w' := by
  obtain ⟨⟨x, y, P, h1, h2, rfl, h4, h5⟩, hbel⟩ := h
  have hmem : ∀ (i : Nat) (hi : i < P.length), P[i].2 ∈ lsP P := fun i hi => List.mem_map.2 ⟨P[i], List.getElem_mem hi, rfl⟩
  refine (mread_any y m B P z a n W h2 (by rw [lsP_len] at hl; omega) (fun p hp => he4 p.2 (List.mem_map.2 ⟨p, hp, rfl⟩)) hI1 hI2 hI3 hI4).mono fun e w' ⟨hb, hk⟩ => ?_
  rcases hk with ⟨k1, he⟩ | ⟨i, hi, hz, hk⟩
  · have hno : ∀ b ∈ lsP P, (b.1 : Int) ≠ z := fun b hb => by obtain ⟨p, hp, rfl⟩ := List.mem_map.1 hb; exact k1 p hp
    cases ha with
    | none _ => exact ⟨_, he, RK.nil _ _ _, hb⟩
    | bad b hbm c _ => exact absurd c (hno b hbm)
    | ok b hbm c _ => exact absurd c (hno b hbm)
  · rcases hk with ⟨k1, he⟩ | ⟨k1, v, l', rfl, he, ho⟩
    · cases ha with
      | none c => exact absurd hz (c _ (hmem i hi))
      | bad b hbm c _ => exact ⟨_, he, RK.nil _ _ _, hb⟩
      | ok b hbm c c2 =>
        have e := srt_mem hsrt hbm (hmem i hi) (by omega)
        subst e
        exact absurd c2 k1
    · cases ha with
      | none c => exact absurd hz (c _ (hmem i hi))
      | bad b hbm c c2 =>
        have e := srt_mem hsrt hbm (hmem i hi) (by omega)
        subst e
        exact absurd k1 c2
      | ok b hbm c c2 =>
        have e := srt_mem hsrt hbm (hmem i hi) (by omega)
        subst e
        exact ⟨v, he, RK.own ho fun _ _ => trivial, hb⟩
/-- What Write does, of both. -/
inductive WrAct (L : List Bl) (z a : Int) (l : List UInt8) : List Bl → Nat → Prop
  | none : (∀ b ∈ L, (b.1 : Int) ≠ z) → WrAct L z a l L 5
  | bad (b : Bl) : b ∈ L → (b.1 : Int) = z → ¬ Within b.2.length a l.length → WrAct L z a l L 1
  | ok (L1 : List Bl) (b : Bl) (L2 : List Bl) : L = L1 ++ b :: L2 → (b.1 : Int) = z → Within b.2.length a l.length → WrAct L z a l (L1 ++ (b.1, Ar.put b.2 a.toNat l) :: L2) 0
theorem aa_write1 (K : Nat → Prop) (A m B n0 : Nat) (L L' : List Bl) (z a : Int) (v : Value) (l : List UInt8) (w W : World) (hn : w.heap.size ≤ n0) (h : AaM K A m B n0 L L' w W) (hv : RK encC (fun _ => True) v l W) (hl : l.length ≤ 1000)
    (hI1 : -9223372036854775808 ≤ a) (hI2 : a ≤ 9223372036854775807) :
    Calls Tryd.prog 14 #[.pointer (some ⟨A, 0, none⟩), .int .i64 z, .int .i64 a, v] W fun e w' => ∃ (L2 : List Bl) (er : Nat), e = .returned (.int .i64 (er : Int)) ∧ WrAct L z a l L2 er ∧ AaM K A m B n0 L2 L' w w' ∧ ∀ b, K b → w'.heap[b]? = W.heap[b]? := by
  obtain ⟨⟨x, y, P, h1, h2, h3, h4, h5⟩, hbel⟩ := h
  refine (write_x x A B L n0 z a v l W h1 (rk_rdB hv) (by omega) hI1 hI2).mono fun e w' hk => ?_
  rcases hk with ⟨k1, he, hx⟩ | ⟨L1, b, L2, hL, hz, ⟨k1, he, hx⟩ | ⟨k1, he, hx⟩⟩
  · exact ⟨L, 5, he, .none k1, AaM.code hn h2 h3 h4 h5 hbel hx⟩
  · exact ⟨L, 1, he, .bad b (by rw [hL]; simp) hz k1, AaM.code hn h2 h3 h4 h5 hbel hx⟩
  · exact ⟨_, 0, he, .ok L1 b L2 hL hz k1, AaM.code hn h2 h3 h4 h5 hbel hx⟩
theorem aa_write2 (K : Nat → Prop) (A m B n0 : Nat) (L L2 : List Bl) (z a : Int) (v : Value) (l : List UInt8) (er : Nat) (w W : World) (hn : w.heap.size ≤ n0) (hll : L.length ≤ 65536) (he4 : ∀ b ∈ L, b.2.length ≤ 4096) (hsrt : L.Pairwise (fun x y => x.1 < y.1)) (h : AaM K A m B n0 L2 L w W) (hv : RK encC (fun _ => True) v l W) (hl : l.length ≤ 1000) (ha : WrAct L z a l L2 er)
    (hI1 : -9223372036854775808 ≤ a) (hI2 : a ≤ 9223372036854775807) :
    Calls Tryd.prog 15 #[.pointer (some ⟨m, 0, none⟩), .int .i64 z, .int .i64 a, v] W fun e w' => e = .returned (.int .i64 (er : Int)) ∧ AaM K A m B n0 L2 L2 w w' ∧ ∀ b, K b → w'.heap[b]? = W.heap[b]? := by
  have hsafe := h
  obtain ⟨⟨x, y, P, h1, h2, rfl, h4, h5⟩, hbel⟩ := h
  have hmem : ∀ (i : Nat) (hi : i < P.length), P[i].2 ∈ lsP P := fun i hi => List.mem_map.2 ⟨P[i], List.getElem_mem hi, rfl⟩
  refine (mwrite_any y m B P z a v l W h2 hv (by rw [lsP_len] at hll; omega) (by omega) (fun p hp => he4 p.2 (List.mem_map.2 ⟨p, hp, rfl⟩)) hI1 hI2).mono fun e w' hk => ?_
  rcases hk with ⟨k1, he, hw⟩ | ⟨i, hi, hz, hk⟩
  · have hno : ∀ b ∈ lsP P, (b.1 : Int) ≠ z := fun b hb => by obtain ⟨p, hp, rfl⟩ := List.mem_map.1 hb; exact k1 p hp
    cases ha with
    | none _ => exact ⟨he, hw ▸ hsafe, fun b _ => by rw [hw]⟩
    | bad b hbm c _ => exact absurd c (hno b hbm)
    | ok L1 b L3 e c _ => exact absurd c (hno b (by rw [e]; simp))
  · rcases hk with ⟨k1, he, hw⟩ | ⟨k1, he, r, hR⟩
    · cases ha with
      | none c => exact absurd hz (c _ (hmem i hi))
      | bad b hbm c _ => exact ⟨he, hw ▸ hsafe, fun b _ => by rw [hw]⟩
      | ok L1 b L3 e c c2 =>
        have e9 := srt_mem hsrt (show b ∈ lsP P by rw [e]; simp) (hmem i hi) (by omega)
        subst e9
        exact absurd c2 k1
    · cases ha with
      | none c => exact absurd hz (c _ (hmem i hi))
      | bad b hbm c c2 =>
        have e := srt_mem hsrt hbm (hmem i hi) (by omega)
        subst e
        exact absurd k1 c2
      | ok L1 b L3 e c c2 =>
        have e9 := srt_mem hsrt (show b ∈ lsP P by rw [e]; simp) (hmem i hi) (by omega)
        subst e9
        have e2 : lsP P = (lsP P).take i ++ P[i].2 :: (lsP P).drop (i + 1) := by
          have hi2 : i < (lsP P).length := by rw [lsP_len]; exact hi
          rw [← lsP_at hi, ← List.drop_eq_getElem_cons hi2, List.take_append_drop]
        have hs : ((lsP P).take i ++ P[i].2 :: (lsP P).drop (i + 1)).Pairwise (fun x y => x.1 < y.1) := by rw [← e2]; exact hsrt
        obtain ⟨q1, _, q2⟩ := srt_uniq hs (e2.symm.trans e) rfl
        have hm := AaM.model hn h1 h2 h4 h5 hbel hR
        have hls : lsP (P.set i (r, (P[i].2.1, Ar.put P[i].2.2 a.toNat l))) = L1 ++ (P[i].2.1, Ar.put P[i].2.2 a.toNat l) :: L3 := by
          have hi2 : i < (lsP P).length := by rw [lsP_len]; exact hi
          unfold lsP at q1 q2 hi2 ⊢
          rw [List.map_set, List.set_eq_take_append_cons_drop, if_pos hi2, q1, q2]
        rw [hls] at hm
        exact ⟨he, hm⟩
theorem aa_left1 (K : Nat → Prop) (A m B n0 : Nat) (L L' : List Bl) (w W : World) (hn : w.heap.size ≤ n0) (h : AaM K A m B n0 L L' w W) :
    Calls Tryd.prog 16 #[.pointer (some ⟨A, 0, none⟩)] W fun e w' => e = .returned (.int .i64 ((B - sumC L : Nat) : Int)) ∧ AaM K A m B n0 L L' w w' ∧ ∀ b, K b → w'.heap[b]? = W.heap[b]? := by
  obtain ⟨⟨x, y, P, h1, h2, h3, h4, h5⟩, hbel⟩ := h
  exact (compact_x x A B L n0 W h1).mono fun e w' ⟨he, hx⟩ => ⟨he, AaM.code hn h2 h3 h4 h5 hbel hx⟩
theorem aa_left2 (K : Nat → Prop) (A m B n0 : Nat) (L L' : List Bl) (w W : World) (hs : sumC L ≤ B) (hB : B ≤ 1048576) (hl : L.length ≤ 65536) (he4 : ∀ b ∈ L, b.2.length ≤ 4096) (h : AaM K A m B n0 L' L w W) :
    Calls Tryd.prog 17 #[.pointer (some ⟨m, 0, none⟩)] W fun e w' => e = .returned (.int .i64 ((B - sumC L : Nat) : Int)) ∧ Below W.heap.size W w' := by
  obtain ⟨⟨x, y, P, h1, h2, rfl, h4, h5⟩, hbel⟩ := h
  exact (mleft_any y m B P W h2 hB hs (by rw [lsP_len] at hl; omega) he4).mono fun e w' ⟨he, q, hw⟩ => ⟨he, by rw [hw]; exact below_drewN _ _ q⟩
theorem aa_shows (K : Nat → Prop) (A m B n0 : Nat) (L : List Bl) (w W : World) (hl : L.length ≤ 65536) (h : AaM K A m B n0 L L w W) :
    Calls Tryd.prog 18 #[.pointer (some ⟨A, 0, none⟩), .pointer (some ⟨m, 0, none⟩)] W fun e w' => e = .returned (.bool true) ∧ Below W.heap.size W w' := by
  obtain ⟨⟨x, y, P, h1, h2, h3, h4, h5⟩, hbel⟩ := h
  subst h3
  exact shows6_any x y A m B P n0 W h1 h2 (by rw [lsP_len] at hl; omega)
end Go.Proofs.YtagjjpmhacknpaaDoor

/- ArenaActs: few. -/
set_option maxRecDepth 100000
namespace Go.Proofs.YtagjjpmhacknpaaDoor
open Go Go.RowKit Go.Shelf
attribute [local go_sem] Oper.semAt_some
structure Axc where
  kind : Int
  h : Int
  at_ : Int
  n : Int
  ao : Option Addr
  c : Nat
  b : List UInt8
def encAx (a : Axc) : List Value := [.int .i64 a.kind, .int .i64 a.h, .int .i64 a.at_, .int .i64 a.n, .slice a.ao a.b.length a.c]
theorem encAx_len (a : Axc) : (encAx a).length = 5 := rfl
def fewB6 (l : List Axc) : Bool := decide (l.length ≤ 60 ∧ ∀ a ∈ l, a.b.length ≤ 200)
def FewRet6 (l : List Axc) (w : World) (e : Ending) (w' : World) : Prop := e = .returned (.bool (fewB6 l)) ∧ w = w'
set_option maxHeartbeats 4000000 in
theorem few6_any (l : List Axc) (v : Value) (w : World) (h : RK encAx (fun _ => True) v l w) (hl : l.length ≤ 9223372036854775807) (hs : ∀ a ∈ l, a.b.length ≤ 9223372036854775807) :
    Calls Tryd.prog 4 #[v] w (FewRet6 l w) := by
  obtain ⟨ao, cap, rfl, hcap, hf⟩ := h.form
  have HS := Lib.hid hs
  have HAT := Lib.hid (fun (i : Nat) (hi : i < l.length) => h.at_ encAx_len (i := i) (f := 4) hi (by omega))
  clear h hf hs
  go_enter Tryd.func4, Tryd.ntmps4
  go_wp2
  go_loop [3] (fun i => ∃ k : Nat, i = .int .i64 (k : Int) ∧ k ≤ l.length ∧ k ≤ 70 ∧ Hid (∀ i (h : i < l.length), i < k → l[i].b.length ≤ 200)) (fun i => l.length + 1 - (intOf i).toNat)
  case atStart => exact ⟨0, rfl, Nat.zero_le _, by omega, Lib.hid fun i h h2 => by omega⟩
  case round =>
    obtain ⟨k, rfl, hk, hk70, HN⟩ := hrel
    by_cases hgo : k < l.length ∧ k < 70
    · obtain ⟨hlt, h70⟩ := hgo
      obtain ⟨b, off, rfl, _, d1⟩ := HAT.out k hlt
      have hsl := HS.out _ (List.getElem_mem hlt)
      obtain ⟨q, hq⟩ : ∃ q, l[k].b = q := ⟨_, rfl⟩
      simp only [encAx, List.getElem?_cons_succ, List.getElem?_cons_zero, hq] at d1
      rw [← Nat.add_assoc] at d1
      rw [hq] at hsl
      by_cases hlong : 200 < q.length
      · have hfb : fewB6 l = false := decide_eq_false fun h => by have := h.2 _ (List.getElem_mem hlt); rw [hq] at this; omega
        clear hq HN
        go_wp2
        go_ret
        exact ⟨(show Ending.returned (.bool false) = Ending.returned (.bool (fewB6 l)) by rw [hfb]), rfl⟩
      · have HQ : Hid (∀ i (h : i < l.length), i < k + 1 → l[i].b.length ≤ 200) := Lib.hid fun i h h2 => by
          by_cases e : i = k
          · subst e; rw [hq]; omega
          · exact HN.out i h (by omega)
        clear hq HN
        go_wp2
        go_round
        case rel => exact ⟨k + 1, by go_num, by omega, by omega, HQ⟩
        case measure => simp [intOf]; omega
    · have HFIN : Hid (l.length ≤ 60 → ∀ a ∈ l, a.b.length ≤ 200) := Lib.hid fun h60 a ha => by
        obtain ⟨i, hi, rfl⟩ := List.mem_iff_getElem.1 ha
        exact HN.out i hi (by omega)
      by_cases hlt : k < l.length
      · have h70 : k = 70 := by omega
        subst h70
        have h60 : ¬ ((l.length : Int) ≤ 60) := by omega
        have hfb : fewB6 l = false := decide_eq_false fun h => by omega
        clear HN
        go_wp2
        go_ret
        exact ⟨(show Ending.returned (.bool false) = Ending.returned (.bool (fewB6 l)) by rw [hfb]), rfl⟩
      · have hfb : decide ((l.length : Int) ≤ 60) = fewB6 l := by
          by_cases h : l.length ≤ 60
          · rw [decide_eq_true (show (l.length : Int) ≤ 60 by omega)]
            exact (decide_eq_true ⟨h, HFIN.out h⟩).symm
          · rw [decide_eq_false (show ¬ (l.length : Int) ≤ 60 by omega)]
            exact (decide_eq_false fun h2 => h h2.1).symm
        clear HN HFIN
        go_wp2
        go_ret
        exact ⟨rfl, rfl⟩
end Go.Proofs.YtagjjpmhacknpaaDoor

/- ArenaActs: its walk. -/
set_option maxRecDepth 100000
namespace Go.Proofs.YtagjjpmhacknpaaDoor
open Go Go.RowKit Go.Shelf
attribute [local go_sem] Oper.semAt_some
/-- The start: the document's own arena, just made. -/
theorem aa_start (A B n0 : Nat) (w w3 : World) (hT : HX (fun _ => False) A B [] n0 w3) (hb : Below w.heap.size w w3) :
    AaM (fun _ => False) A w3.heap.size B n0 [] [] w (w3.alloc (.cells #[.int .i64 (B : Int), .slice none 0 0] 33)) := by
  have hB2 : Below w3.heap.size w3 (w3.alloc (.cells #[.int .i64 (B : Int), .slice none 0 0] 33)) := (Below.refl _ _).alloc (Nat.le_refl _) _
  exact ⟨⟨_, fun k => k = w3.heap.size, [], hT.mine _, ⟨⟨_, Blk.new w3 _ _, RK.nil _ _ _⟩, rfl, fun p hp => by cases hp⟩, rfl, fun b hb => .inr hb, fun b hb => hb.elim⟩, hb.trans (hB2.mono hb.size)⟩
/-- The rows of the document's own arena. -/
theorem aa_row {K : Nat → Prop} {A m B n0 : Nat} {L L' : List Bl} {w W : World} (h : AaM K A m B n0 L' L w W) : ∃ ao cap, W.cell? ⟨m, 1, none⟩ = some (.slice ao L.length cap) ∧ L.length ≤ cap ∧ ∀ i (hi : i < L.length), ∃ b off va c, ao = some ⟨b, off, none⟩ ∧ W.cell? ⟨b, off + i * 2, none⟩ = some (.int .i64 (L[i].1 : Int)) ∧ W.cell? ⟨b, off + i * 2 + 1, none⟩ = some (.slice va L[i].2.length c) ∧ RK encC (fun _ => True) (.slice va L[i].2.length c) L[i].2 W := by
  obtain ⟨⟨x, y, P, h1, h2, rfl, h4, h5⟩, hbel⟩ := h
  obtain ⟨ao, cap, _, c1, hcap, _, hrow⟩ := h2.box
  refine ⟨ao, cap, by rw [lsP_len]; exact c1, by rw [lsP_len]; exact hcap, fun i hi => ?_⟩
  have hi2 : i < P.length := by rw [lsP_len] at hi; exact hi
  obtain ⟨b, off, e, _, d0, d1⟩ := hrow i hi2
  have hr := (h2.each P[i] (List.getElem_mem hi2)).2
  obtain ⟨va, c, hv⟩ := Rp.form hr
  rw [hv] at d1 hr
  refine ⟨b, off, va, c, e, ?_, ?_, ?_⟩
  · rw [lsP_at hi2]; exact d0
  · rw [lsP_at hi2]; exact d1
  · rw [lsP_at hi2]; exact hr.mono fun _ _ => trivial
theorem aa_read_full (K : Nat → Prop) (A m B n0 : Nat) (L L' : List Bl) (i : Nat) (hi : i < L.length) (hh nn : Nat) (bb : List UInt8) (w W : World) (h : AaM K A m B n0 L L' w W) (h1 : L[i].1 = hh) (h2 : L[i].2 = bb) (h3 : bb.length = nn) :
    Calls Tryd.prog 12 #[.pointer (some ⟨A, 0, none⟩), .int .i64 (hh : Int), .int .i64 0, .int .i64 (nn : Int)] W fun e w' => ∃ (v : Value), e = .returned (.tuple #[v, .int .i64 0]) ∧ RK encC (fun _ => True) v bb w' ∧ Below W.heap.size W w' := by
  have hf := h.facts
  have hle := hf.2.2.1 _ (List.getElem_mem hi)
  subst h1 h2 h3
  refine (aa_read1 K A m B n0 L L' _ 0 _ w W h (by omega) (by omega) (by omega) (by omega)).mono fun e w' ⟨v, l, er, he, ha, hr, hb⟩ => ?_
  cases ha with
  | none c => exact absurd rfl (c _ (List.getElem_mem hi))
  | bad b hbm c c2 =>
    have e := srt_mem hf.2.2.2.2 hbm (List.getElem_mem hi) (by omega)
    subst e
    exact absurd ⟨by omega, by omega, by omega, by omega⟩ c2
  | ok b hbm c c2 =>
    have e := srt_mem hf.2.2.2.2 hbm (List.getElem_mem hi) (by omega)
    subst e
    have e2 : (L[i].2.drop (0 : Int).toNat).take ((L[i].2.length : Int)).toNat = L[i].2 := by simp
    rw [e2] at hr
    exact ⟨v, he, hr, hb⟩
set_option maxHeartbeats 64000000 in
theorem aacts_in (B : Nat) (l : List Axc) (lv : Value) (w : World) (hT : TabOk w) (h1 : 1024 ≤ B) (h2 : B ≤ 65536) (hr : RK encAx (fun _ => True) lv l w) (hfew : Calls Tryd.prog 4 #[lv] w fun e w' => e = .returned (.bool true) ∧ w = w') (hl : l.length ≤ 60)
    (hb : ∀ a ∈ l, a.b.length ≤ 200 ∧ RK encC (fun _ => True) (.slice a.ao a.b.length a.c) a.b w) (hn : ∀ a ∈ l, (-9223372036854775808 ≤ a.at_ ∧ a.at_ ≤ 9223372036854775807) ∧ -9223372036854775808 ≤ a.n ∧ a.n ≤ 9223372036854775807) :
    Calls Tryd.prog 3 #[.int .i64 (B : Int), lv] w fun e w' => e = .returned (.bool true) ∧ Below w.heap.size w w' := by
  have hg : 0 < w.heap.size := cell_lt (hT 0 (by decide))
  obtain ⟨ao, cap, rfl, hcap, _⟩ := hr.form
  have HFEW := Lib.hid hfew
  have HAT := Lib.hid (fun (i f : Nat) (hi : i < l.length) (hf : f < 5) => hr.at_ encAx_len (i := i) (f := f) hi hf)
  have HBB := Lib.hid hb
  have HNN := Lib.hid hn
  have HT := Lib.hid hT
  have HG := Lib.hid hg
  have HMAY := Lib.hid (fun W => (by have k := mayArena_any (B : Int) W; rw [decide_eq_true (show (1024 : Int) ≤ (B : Int) by omega), decide_eq_true (show (B : Int) ≤ 1048576 by omega)] at k; exact k : Calls Tryd.prog 7 #[.int .i64 (B : Int)] W fun e w' => e = .returned (.bool true) ∧ W = w'))
  clear hT hg hfew hr hb hn
  go_enter Tryd.func3, Tryd.ntmps3
  go_wp2_with fail
  refine HFEW.out.mono ?_
  rintro e w' ⟨rfl, rfl⟩
  clear HFEW
  go_wp2_with fail
  refine (new_x B w (by omega) (by omega) HT.out).mono ?_
  rintro e w2 ⟨A, rfl, hx, b2⟩
  obtain ⟨n0, HN, HS0⟩ : ∃ n0, Hid (w.heap.size ≤ n0) ∧ Hid (AaM (fun _ => False) A w2.heap.size B n0 [] [] w (w2.alloc (.cells #[.int .i64 (B : Int), .slice none 0 0] 33))) := ⟨_, Lib.hid (Nat.le_refl _), Lib.hid (aa_start A B _ w w2 hx b2)⟩
  clear hx b2
  go_wp2_with fail
  refine (HMAY.out w2).mono ?_
  rintro e w' ⟨rfl, rfl⟩
  go_wp2
  generalize (w2.alloc (.cells #[.int .i64 (B : Int), .slice none 0 0] 33)) = W4 at HS0 ⊢
  generalize w2.heap.size = m at HS0 ⊢
  go_loopw [8] (fun i wr => ∃ (k : Nat) (L : List Bl), i = .int .i64 (k : Int) ∧ k ≤ l.length ∧ Hid (AaM (fun _ => False) A m B n0 L L w wr)) (fun i _ => l.length + 1 - (intOf i).toNat)
  case atStart => exact ⟨0, [], rfl, Nat.zero_le _, HS0⟩
  case round =>
    obtain ⟨k, L, rfl, hk, HF⟩ := hrel
    clear HS0
    by_cases hlt : k < l.length
    · obtain ⟨b, off, rfl, _, d0⟩ := HAT.out k 0 hlt (by omega)
      obtain ⟨b1, off1, e1, _, d1⟩ := HAT.out k 1 hlt (by omega)
      obtain ⟨b2, off2, e2, _, d2⟩ := HAT.out k 2 hlt (by omega)
      obtain ⟨b3, off3, e3, _, d3⟩ := HAT.out k 3 hlt (by omega)
      obtain ⟨b4, off4, e4, _, d4⟩ := HAT.out k 4 hlt (by omega)
      cases e1
      cases e2
      cases e3
      cases e4
      have hbl := HBB.out _ (List.getElem_mem hlt)
      have hnl := HNN.out _ (List.getElem_mem hlt)
      obtain ⟨kd, hkd⟩ : ∃ q, l[k].kind = q := ⟨_, rfl⟩
      obtain ⟨hh, hhe⟩ : ∃ q, l[k].h = q := ⟨_, rfl⟩
      obtain ⟨at_, hat⟩ : ∃ q, l[k].at_ = q := ⟨_, rfl⟩
      obtain ⟨nz, hnz⟩ : ∃ q, l[k].n = q := ⟨_, rfl⟩
      obtain ⟨bb, hbb⟩ : ∃ q, l[k].b = q := ⟨_, rfl⟩
      obtain ⟨ba, hba⟩ : ∃ q, l[k].ao = q := ⟨_, rfl⟩
      obtain ⟨bc, hbc⟩ : ∃ q, l[k].c = q := ⟨_, rfl⟩
      simp only [encAx, List.getElem?_cons_succ, List.getElem?_cons_zero, hkd, hhe, hat, hnz, hbb, hba, hbc] at d0 d1 d2 d3 d4
      rw [hbb, hba, hbc] at hbl
      rw [hat, hnz] at hnl
      obtain ⟨bn, hbn⟩ : ∃ q, bb.length = q := ⟨_, rfl⟩
      rw [hbn] at d4
      rw [Nat.add_zero] at d0
      rw [← Nat.add_assoc] at d1 d2 d3 d4
      have g0 := (HF.out.bel.cell (cell_lt d0)).trans d0
      have g1 := (HF.out.bel.cell (cell_lt d1)).trans d1
      have g2 := (HF.out.bel.cell (cell_lt d2)).trans d2
      have g3 := (HF.out.bel.cell (cell_lt d3)).trans d3
      have g4 := (HF.out.bel.cell (cell_lt d4)).trans d4
      have HBX := Lib.hid (HF.out.box (.cells #[.int .i64 kd, .int .i64 hh, .int .i64 at_, .int .i64 nz, .slice ba bn bc] 36))
      have HBK : Hid (Blk (wr.alloc (.cells #[.int .i64 kd, .int .i64 hh, .int .i64 at_, .int .i64 nz, .slice ba bn bc] 36)) wr.heap.size [.int .i64 kd, .int .i64 hh, .int .i64 at_, .int .i64 nz, .slice ba bn bc] 36) := Lib.hid (Blk.new wr _ _)
      obtain ⟨f1, f2, f3, f4, f5⟩ := HF.out.facts
      have HFC := Lib.hid (And.intro f1 (And.intro f2 (And.intro f3 (And.intro f4 f5))))
      have hbn200 : bn ≤ 200 := by rw [← hbn]; exact hbl.1
      have HBL := Lib.hid (hbn ▸ hbl.2)
      have HBN := Lib.hid hbn
      have HNL := Lib.hid hnl
      clear d0 d1 d2 d3 d4 hkd hhe hat hnz hbb hba hbc hbn hbl hnl f1 f2 f3 f4 f5
      by_cases hk1 : kd = 1
      · subst hk1
        have x3 := HBK.out.cell (i := 3) rfl
        go_wp2_with fail
        refine (aa_alloc1 (fun b => b = wr.heap.size) A m B n0 L nz w _ HN.out HBX.out).mono ?_
        rintro e w5 ⟨L2, r, er, rfl, hact, h5, hkeep5⟩
        have H5 := Lib.hid h5
        have HBK5 := Lib.hid (HBK.out.kept (hkeep5 _ rfl))
        have HACT := Lib.hid hact
        have x3 := HBK5.out.cell (i := 3) rfl
        clear h5 hkeep5 hact
        go_wp2_with fail
        refine (aa_alloc2 (fun b => b = wr.heap.size) A m B n0 L L2 nz r er w _ HN.out HNL.out.2 HFC.out.1 HFC.out.2.1 HFC.out.2.2.1 HFC.out.2.2.2.1 H5.out HACT.out).mono ?_
        rintro e w6 ⟨rfl, h6, _⟩
        have H6 := Lib.hid h6
        clear h6
        go_wp2_with (go_at_call 18; refine (aa_shows _ A m B n0 L2 w _ H6.out.facts.2.2.2.1 H6.out).mono ?_; rintro e w8 ⟨rfl, b8⟩; have H8 := Lib.hid (H6.out.after b8).bare; clear b8)
        go_roundw
        case rel => exact ⟨k + 1, L2, by go_num, by omega, H8⟩
        case measure => simp [intOf]; omega
      · have hkk1 : (kd == 1) = false := by rw [beq_eq_false_iff_ne]; exact hk1
        by_cases hk2 : kd = 2
        · subst hk2
          clear hk1 hkk1
          have x0 := HBK.out.cell (i := 0) rfl
          have x1 := HBK.out.cell (i := 1) rfl
          go_wp2
          go_region_held3 (fun w' => w'.cell? ⟨wr.heap.size, 1, none⟩ = some (.int .i64 hh)) ((first | assumption | go_keep)) (first
            | (go_at_call 10; refine (aa_free1 (fun b => b = wr.heap.size) A m B n0 L hh w _ HN.out (by first | exact HBX.out | exact HBX.out.after ((Below.refl _ _).drew))).mono ?_; rintro e w5 ⟨L2, er, rfl, hact, h5, hkeep5⟩; have H5 := Lib.hid h5; have HACT := Lib.hid hact; have x1 := (HBK.out.kept (hkeep5 _ rfl)).cell (i := 1) rfl; clear h5 hkeep5 hact)
            | (go_at_call 11; refine (aa_free2 (fun b => b = wr.heap.size) A m B n0 L _ hh _ w _ HN.out HFC.out.2.2.2.1 HFC.out.2.2.2.2 H5.out HACT.out).mono ?_; rintro e w6 ⟨rfl, h6, hkeep6⟩; have H6 := Lib.hid h6; have x1 := (cell_same (hkeep6 wr.heap.size rfl) 1).trans x1; clear h6 hkeep6))
          all_goals
            go_wp2_with (go_at_call 18; refine (aa_shows _ A m B n0 L2 w _ H6.out.facts.2.2.2.1 H6.out).mono ?_; rintro e w8 ⟨rfl, b8⟩; have H8 := Lib.hid (H6.out.after b8).bare; clear b8)
            go_roundw
            case rel => exact ⟨k + 1, L2, by go_num, by omega, H8⟩
            case measure => simp [intOf]; omega
        · have hkk2 : (kd == 2) = false := by rw [beq_eq_false_iff_ne]; exact hk2
          by_cases hk3 : kd = 3
          · subst hk3
            clear hk1 hkk1 hk2 hkk2
            have x0 := HBK.out.cell (i := 0) rfl
            have x1 := HBK.out.cell (i := 1) rfl
            have x2 := HBK.out.cell (i := 2) rfl
            have x3 := HBK.out.cell (i := 3) rfl
            go_wp2_with fail
            refine (aa_read1 (fun b => b = wr.heap.size) A m B n0 L L hh at_ nz w _ HBX.out HNL.out.1.1 HNL.out.1.2 HNL.out.2.1 HNL.out.2.2).mono ?_
            rintro e w5 ⟨v5, s5, er, rfl, hact, hr5, hb5⟩
            have H5 := Lib.hid (HBX.out.after hb5)
            have HACT := Lib.hid hact
            have HR5 := Lib.hid hr5
            have hk5 := HBK.out.kept (hb5.block _ HBK.out.lt)
            have x1 := hk5.cell (i := 1) rfl
            have x2 := hk5.cell (i := 2) rfl
            have x3 := hk5.cell (i := 3) rfl
            clear hact hr5 hb5 hk5
            go_wp2_with fail
            refine (aa_read2 (fun b => b = wr.heap.size) A m B n0 L L hh at_ nz s5 er w _ HFC.out.2.2.2.1 HFC.out.2.2.1 HFC.out.2.2.2.2 H5.out HACT.out HNL.out.1.1 HNL.out.1.2 HNL.out.2.1 HNL.out.2.2).mono ?_
            rintro e w6 ⟨v6, rfl, hr6, hb6⟩
            have H6 := Lib.hid (H5.out.after hb6)
            have cv5 := run_rd_any (rk_rdB (HR5.out.below hb6))
            have cv6 := run_rd_any (rk_rdB hr6)
            clear hr6 hb6 HR5 x1 x2 x3
            go_wp2_with (go_at_call 18; refine (aa_shows _ A m B n0 L w _ HFC.out.2.2.2.1 H6.out).mono ?_; rintro e w8 ⟨rfl, b8⟩; have H8 := Lib.hid (H6.out.after b8).bare; clear b8)
            go_roundw
            case rel => exact ⟨k + 1, L, by go_num, by omega, H8⟩
            case measure => simp [intOf]; omega
          · have hkk3 : (kd == 3) = false := by rw [beq_eq_false_iff_ne]; exact hk3
            by_cases hk4 : kd = 4
            · subst hk4
              clear hk1 hkk1 hk2 hkk2 hk3 hkk3
              have x0 := HBK.out.cell (i := 0) rfl
              have x1 := HBK.out.cell (i := 1) rfl
              have x2 := HBK.out.cell (i := 2) rfl
              have x4 := HBK.out.cell (i := 4) rfl
              have hbn1 : bb.length ≤ 1000 := by rw [HBN.out]; omega
              have HBN1 := Lib.hid hbn1
              have HRB := Lib.hid (fun W (hb : Below w.heap.size w W) => HBL.out.below hb)
              clear hbn1
              go_wp2
              go_region_held3 (fun w' => w'.cell? ⟨wr.heap.size, 1, none⟩ = some (.int .i64 hh) ∧ w'.cell? ⟨wr.heap.size, 2, none⟩ = some (.int .i64 at_) ∧ w'.cell? ⟨wr.heap.size, 4, none⟩ = some (.slice ba bn bc)) ((go_split_ands; refine ⟨?_, ?_, ?_⟩ <;> first | assumption | go_keep)) (first
                | (go_at_call 14; refine (aa_write1 (fun b => b = wr.heap.size) A m B n0 L L hh at_ _ bb w _ HN.out (by first | exact HBX.out | exact HBX.out.after ((Below.refl _ _).drew)) (by first | exact HRB.out _ HBX.out.bel | exact HRB.out _ (HBX.out.after ((Below.refl _ _).drew)).bel) HBN1.out HNL.out.1.1 HNL.out.1.2).mono ?_; rintro e w5 ⟨L2, er, rfl, hact, h5, hkeep5⟩; have H5 := Lib.hid h5; have HACT := Lib.hid hact; have hk5 := HBK.out.kept (hkeep5 _ rfl); have x1 := hk5.cell (i := 1) rfl; have x2 := hk5.cell (i := 2) rfl; have x4 := hk5.cell (i := 4) rfl; clear h5 hkeep5 hact hk5)
                | (go_at_call 15; refine (aa_write2 (fun b => b = wr.heap.size) A m B n0 L _ hh at_ _ bb _ w _ HN.out HFC.out.2.2.2.1 HFC.out.2.2.1 HFC.out.2.2.2.2 H5.out (HRB.out _ H5.out.bel) HBN1.out HACT.out HNL.out.1.1 HNL.out.1.2).mono ?_; rintro e w6 ⟨rfl, h6, hkeep6⟩; have H6 := Lib.hid h6; have x1 := (cell_same (hkeep6 wr.heap.size rfl) 1).trans x1; have x2 := (cell_same (hkeep6 wr.heap.size rfl) 2).trans x2; have x4 := (cell_same (hkeep6 wr.heap.size rfl) 4).trans x4; clear h6 hkeep6))
              all_goals
                go_wp2_with (go_at_call 18; refine (aa_shows _ A m B n0 L2 w _ H6.out.facts.2.2.2.1 H6.out).mono ?_; rintro e w8 ⟨rfl, b8⟩; have H8 := Lib.hid (H6.out.after b8).bare; clear b8)
                go_roundw
                case rel => exact ⟨k + 1, L2, by go_num, by omega, H8⟩
                case measure => simp [intOf]; omega
            · have hkk4 : (kd == 4) = false := by rw [beq_eq_false_iff_ne]; exact hk4
              by_cases hk5 : kd = 5
              · subst hk5
                clear hk1 hk2 hk3 hk4 hkk1 hkk2 hkk3 hkk4
                have x0 := HBK.out.cell (i := 0) rfl
                go_wp2_with (first
                  | (go_at_call 16; refine (aa_left1 (fun b => b = wr.heap.size) A m B n0 L L w _ HN.out HBX.out).mono ?_; rintro e w5 ⟨rfl, h5, _⟩; have H5 := Lib.hid h5; clear h5)
                  | (go_at_call 17; refine (aa_left2 (fun b => b = wr.heap.size) A m B n0 L L w _ HFC.out.1 HFC.out.2.1 HFC.out.2.2.2.1 HFC.out.2.2.1 H5.out).mono ?_; rintro e w6 ⟨rfl, b6⟩; have H6 := Lib.hid (H5.out.after b6); clear b6)
                  | (go_at_call 18; refine (aa_shows _ A m B n0 L w _ HFC.out.2.2.2.1 H6.out).mono ?_; rintro e w8 ⟨rfl, b8⟩; have H8 := Lib.hid (H6.out.after b8).bare; clear b8))
                go_roundw
                case rel => exact ⟨k + 1, L, by go_num, by omega, H8⟩
                case measure => simp [intOf]; omega
              · have hkk5 : (kd == 5) = false := by rw [beq_eq_false_iff_ne]; exact hk5
                have x0 := HBK.out.cell (i := 0) rfl
                clear hk1 hk2 hk3 hk4 hk5
                go_wp2_with (go_at_call 18; refine (aa_shows _ A m B n0 L w _ HFC.out.2.2.2.1 HBX.out).mono ?_; rintro e w8 ⟨rfl, b8⟩; have H8 := Lib.hid (HBX.out.after b8).bare; clear b8)
                go_roundw
                case rel => exact ⟨k + 1, L, by go_num, by omega, H8⟩
                case measure => simp [intOf]; omega
    · obtain rfl : k = l.length := by omega
      clear HAT HBB HNN HMAY
      go_wp2
      go_loopw [18] (fun i wr => ∃ (q : Nat), i = .int .i64 (q : Int) ∧ q ≤ L.length ∧ Hid (AaM (fun _ => False) A m B n0 L L w wr)) (fun i _ => L.length + 1 - (intOf i).toNat)
      case atStart => exact ⟨0, rfl, Nat.zero_le _, HF⟩
      case round =>
        clear HF
        obtain ⟨q, rfl, hq, HF⟩ := hrel
        obtain ⟨ao2, cap2, k1, hcap2, hrow⟩ := aa_row HF.out
        have hLl := HF.out.facts.2.2.2.1
        by_cases hlt : q < L.length
        · obtain ⟨b2, off2, va, c2, rfl, d0, d1, hrk⟩ := hrow q hlt
          obtain ⟨hh, hhe⟩ : ∃ hh, L[q].1 = hh := ⟨_, rfl⟩
          obtain ⟨bb, hbe⟩ : ∃ bb, L[q].2 = bb := ⟨_, rfl⟩
          obtain ⟨nn, hne⟩ : ∃ nn, bb.length = nn := ⟨_, rfl⟩
          have hle := HF.out.facts.2.2.1 _ (List.getElem_mem hlt)
          rw [hbe, hne] at hle
          rw [hhe] at d0
          rw [hbe, hne] at d1 hrk
          have HRD := Lib.hid (fun W (h : AaM (fun _ => False) A m B n0 L L w W) => aa_read_full (fun _ => False) A m B n0 L L q hlt hh nn bb w W h hhe hbe hne)
          have HRW := Lib.hid (fun W (hb : Below wr.heap.size wr W) => (show W.cell? ⟨m, 1, none⟩ = some (.slice (some ⟨b2, off2, none⟩) L.length cap2) ∧ W.cell? ⟨b2, off2 + q * 2, none⟩ = some (.int .i64 (hh : Int)) ∧ W.cell? ⟨b2, off2 + q * 2 + 1, none⟩ = some (.slice va nn c2) from ⟨(hb.cell (cell_lt k1)).trans k1, (hb.cell (cell_lt d0)).trans d0, (hb.cell (cell_lt d1)).trans d1⟩))
          have HRK := Lib.hid hrk
          have HNE := Lib.hid hne
          clear hrow hrk hhe hbe hne
          go_wp2
          go_region_held3 (fun w' => w'.cell? ⟨m, 1, none⟩ = some (.slice (some ⟨b2, off2, none⟩) L.length cap2) ∧ w'.cell? ⟨b2, off2 + q * 2, none⟩ = some (.int .i64 (hh : Int)) ∧ w'.cell? ⟨b2, off2 + q * 2 + 1, none⟩ = some (.slice va nn c2)) ((go_split_ands; refine ⟨?_, ?_, ?_⟩ <;> first | assumption | go_keep)) (first
            | (go_at_call 12; refine (HRD.out _ (by first | exact HF.out | exact HF.out.after ((Below.refl _ _).drew))).mono ?_; rintro e w5 ⟨v5, rfl, hr5, hb5⟩; have HB5 := Lib.hid (show Below wr.heap.size wr w5 by first | exact hb5 | exact ((Below.refl _ _).drew).trans hb5); have HR5 := Lib.hid hr5; obtain ⟨k1, d0, d1⟩ := HRW.out _ HB5.out; clear hr5 hb5))
          have H5 := Lib.hid (HF.out.after HB5.out)
          have cv5 : ∀ n, (convert 34 9 v5).run Tryd.prog (w5.drewN n) = .ok (.string ⟨bb.toArray⟩) (w5.drewN n) := fun n => run_rd_any (rk_rdB (HR5.out.below (below_drewN _ _ n)))
          have cv6 : ∀ n, (convert 34 9 (.slice va nn c2)).run Tryd.prog (w5.drewN n) = .ok (.string ⟨bb.toArray⟩) (w5.drewN n) := fun n => run_rd_any (rk_rdB ((HRK.out.below HB5.out).below (below_drewN _ _ n)))
          go_wp2
          go_quiet (fail)
          have H6 := Lib.hid (H5.out.after (below_drewN _ _ nq))
          clear cv5 cv6
          go_wp2
          go_roundw
          case rel => exact ⟨q + 1, by go_num, by omega, H6⟩
          case measure => simp [intOf]; omega
        · obtain rfl : q = L.length := by omega
          clear hrow
          have HAW := Lib.hid (fun W (hb : Below wr.heap.size wr W) => awake_any W ((HT.out.below HG.out HF.out.bel).below (Nat.lt_of_lt_of_le HG.out HF.out.bel.size) hb))
          go_wp2_with (go_at_call 5; refine (HAW.out _ (Below.refl _ _)).mono ?_; rintro e wa ⟨rfl, hb⟩; have HB9 := Lib.hid (HF.out.bel.trans (hb.mono HF.out.bel.size)); clear hb)
          go_ret
          exact ⟨rfl, HB9.out⟩
end Go.Proofs.YtagjjpmhacknpaaDoor

/- ArenaActs: for any budget, any list of acts. -/
set_option maxRecDepth 100000
namespace Go.Proofs.YtagjjpmhacknpaaDoor
open Go Go.RowKit Go.Shelf
attribute [local go_sem] Oper.semAt_some
set_option maxHeartbeats 8000000 in
theorem aacts_any (z : Int) (l : List Axc) (lv : Value) (w : World) (hT : TabOk w) (hz : -9223372036854775808 ≤ z ∧ z ≤ 9223372036854775807) (hr : RK encAx (fun _ => True) lv l w)
    (hs : ∀ a ∈ l, a.b.length ≤ 9223372036854775807 ∧ RK encC (fun _ => True) (.slice a.ao a.b.length a.c) a.b w) (hn : ∀ a ∈ l, (-9223372036854775808 ≤ a.at_ ∧ a.at_ ≤ 9223372036854775807) ∧ -9223372036854775808 ≤ a.n ∧ a.n ≤ 9223372036854775807) (hl : l.length ≤ 9223372036854775807) :
    Calls Tryd.prog 3 #[.int .i64 z, lv] w fun e w' => e = .returned (.bool true) ∧ Below w.heap.size w w' := by
  have hg : 0 < w.heap.size := cell_lt (hT 0 (by decide))
  have HT := Lib.hid hT
  have HG := Lib.hid hg
  clear hT hg
  have hf := Lib.hid (few6_any l lv w hr hl fun a ha => (hs a ha).1)
  cases hb : fewB6 l with
  | false =>
    have HF := Lib.hid (show Calls Tryd.prog 4 #[lv] w fun e w' => e = .returned (.bool false) ∧ w = w' from hf.out.mono fun e w' h => ⟨by rw [← hb]; exact h.1, h.2⟩)
    clear hr hs hn hf hb
    go_enter Tryd.func3, Tryd.ntmps3
    go_wp2_with fail
    refine HF.out.mono ?_
    rintro e w' ⟨rfl, rfl⟩
    go_wp2_with (go_at_call 5; refine (awake_any _ HT.out).mono ?_; rintro e w' ⟨rfl, hb⟩)
    go_ret
    exact ⟨rfl, hb⟩
  | true =>
    have HF := Lib.hid (show Calls Tryd.prog 4 #[lv] w fun e w' => e = .returned (.bool true) ∧ w = w' from hf.out.mono fun e w' h => ⟨by rw [← hb]; exact h.1, h.2⟩)
    have hfw := of_decide_eq_true hb
    clear hf hb
    by_cases hin : 1024 ≤ z ∧ z ≤ 1048576
    · obtain ⟨B, rfl⟩ : ∃ B : Nat, z = (B : Int) := ⟨z.toNat, by omega⟩
      by_cases h64 : B ≤ 65536
      · exact aacts_in B l lv w HT.out (by omega) h64 hr HF.out hfw.1 (fun a ha => ⟨hfw.2 a ha, (hs a ha).2⟩) hn
      · have h65 : 65536 < (B : Int) := by omega
        have HMAY := Lib.hid (fun W => (by have k := mayArena_any (B : Int) W; rw [decide_eq_true (show (1024 : Int) ≤ (B : Int) by omega), decide_eq_true (show (B : Int) ≤ 1048576 by omega)] at k; exact k : Calls Tryd.prog 7 #[.int .i64 (B : Int)] W fun e w' => e = .returned (.bool true) ∧ W = w'))
        have HNW := Lib.hid (new_x B w (by omega) (by omega) HT.out)
        clear hr hs hn hfw hin
        go_enter Tryd.func3, Tryd.ntmps3
        go_wp2_with fail
        refine HF.out.mono ?_
        rintro e w' ⟨rfl, rfl⟩
        go_wp2_with fail
        refine HNW.out.mono ?_
        rintro e w2 ⟨A, rfl, hx, b2⟩
        have HB2 := Lib.hid b2
        clear hx b2
        go_wp2_with fail
        refine (HMAY.out w2).mono ?_
        rintro e w' ⟨rfl, rfl⟩
        go_wp2_with (go_at_call 5; refine (awake_any _ (HT.out.below HG.out HB2.out)).mono ?_; rintro e w3 ⟨rfl, hb⟩; have HB3 := Lib.hid (HB2.out.trans (hb.mono HB2.out.size)); clear hb)
        go_ret
        exact ⟨rfl, HB3.out⟩
    · have HMAY := Lib.hid (fun W => (by
        have k := mayArena_any z W
        have e : (decide (1024 ≤ z) && decide (z ≤ 1048576)) = false := by
          rw [Bool.and_eq_false_iff, decide_eq_false_iff_not, decide_eq_false_iff_not]; omega
        rw [e] at k; exact k : Calls Tryd.prog 7 #[.int .i64 z] W fun e w' => e = .returned (.bool false) ∧ W = w'))
      have HNW := Lib.hid (new_none z w (by omega))
      clear hr hs hn hfw hin
      go_enter Tryd.func3, Tryd.ntmps3
      go_wp2_with fail
      refine HF.out.mono ?_
      rintro e w' ⟨rfl, rfl⟩
      go_wp2_with fail
      refine HNW.out.mono ?_
      rintro e w' ⟨rfl, rfl⟩
      go_wp2_with fail
      refine (HMAY.out w).mono ?_
      rintro e w' ⟨rfl, rfl⟩
      go_wp2_with (go_at_call 5; refine (awake_any _ HT.out).mono ?_; rintro e w3 ⟨rfl, hb⟩)
      go_ret
      exact ⟨rfl, hb⟩
end Go.Proofs.YtagjjpmhacknpaaDoor

/-
  DERIVED. GIVEN WITH THE SEED: THE CARDS: each row of YtagjjpmhacknpaaDoorRows.lean that lists a variable, with what it lists TIED to the program's text (the seventh form; the later family's looks); each row that meets fmt, with fmt's text TOLD by the authors' own Lean function (tested against real Go, not proved from fmt's source: count such statements apart). THE CARD IS WHAT COUNTS. Prove the row's statement (the work); the ties are given (YtagjjpmhacknpaaDoorTie.lean); close each card by the builder's one call (the guide's Derived/Test/ToyasCard.lean, 'card_holds'). Laid BY PROGRAM, IN A SANDBOX (cutbox-door.mjs). By AI agents, Wed Nov 11 2026. No macro, syntax, notation, axiom, sorry.
-/
namespace Go.Proofs.YtagjjpmhacknpaaDoor
namespace Rows

/-- THE TIED CARD OF 'freshetlaw6.ArenaActs'. -/
def arenaActsCard : Claim7 := { stood := { row := arenaActsRow, standIns := [], harness := (true, "9b73850538dd2abd94f9d3c854552e63eb810b22ba757a2282d844b3e82ea975"), looks := false }, kinds := [], alts := [], laidByText := true, laidKinds := [.data], laidTests := true, laidLooks := .later }
def ArenaActsCardSaid : Prop := Claim7.holds Tryd.pinned (.plain (OpenSpec.ofChange arenaActsSpec)) arenaActsCard

/-- THE SECOND FORM's CARD OF 'freshetlaw6.ArenaActs'. -/
def arenaActsUptoCard : Claim7 := { stood := { row := arenaActsUptoRow, standIns := [], harness := (true, "9b73850538dd2abd94f9d3c854552e63eb810b22ba757a2282d844b3e82ea975"), looks := false }, kinds := [], alts := [], laidByText := true, laidKinds := [.data], laidTests := true, laidLooks := .later }
def ArenaActsUptoCardSaid : Prop := Claim7.holds Tryd.pinned (.plain (OpenSpec.upto arenaActsSpec)) arenaActsUptoCard
end Rows
end Go.Proofs.YtagjjpmhacknpaaDoor
