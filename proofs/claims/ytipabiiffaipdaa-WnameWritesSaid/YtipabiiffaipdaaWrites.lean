/- WnameWrites: its walk. -/
import Derived.Test.YtipabiiffaipdaaRwOut
import Derived.Test.YtipabiiffaipdaaFew
import Derived.Test.YtipabiiffaipdaaAwake
namespace Go.Proofs.Ytipabiiffaipdaa
open Go.RowKit Go.Shelf Go.Maps
attribute [local go_sem] Oper.semAt_some

/-- Both Writers side by side, and blocks that neither has. -/
structure BoF (B R : Nat) (S : WS) (M : MS) (K : Nat → Prop) (w : World) (f1 f2 : Nat → Prop) (W : World) : Prop where
  w1 : WrE B S f1 W
  r1 : RwE R M f2 W
  in1 : ∀ k, f1 k → w.heap.size ≤ k ∧ k < W.heap.size
  in2 : ∀ k, f2 k → w.heap.size ≤ k ∧ k < W.heap.size
  apart : ∀ k, f1 k → ¬ f2 k
  kept : ∀ k, K k → ¬ f1 k ∧ ¬ f2 k ∧ k < W.heap.size
  below : Below w.heap.size w W
def Bo (B R : Nat) (S : WS) (M : MS) (K : Nat → Prop) (w W : World) : Prop := ∃ f1 f2, BoF B R S M K w f1 f2 W
theorem BoF.turnW {B R : Nat} {S S' : WS} {M : MS} {K f1 f2 : Nat → Prop} {w W W' : World} (h : BoF B R S M K w f1 f2 W) (ht : Turn f1 W W') (hw : WrE B S' (grow f1 W W') W') : Bo B R S' M K w W' ∧ ∀ k, K k → W'.heap[k]? = W.heap[k]? := by
  have hs := ht.size
  refine ⟨⟨grow f1 W W', f2, hw, h.r1.kept fun k hk hf => ht.block k hk fun hf1 => h.apart k hf1 hf, fun k hk => ?_, fun k hk => ⟨(h.in2 k hk).1, Nat.lt_of_lt_of_le (h.in2 k hk).2 hs⟩, fun k hk hf => ?_, fun k hk => ⟨?_, (h.kept k hk).2.1, Nat.lt_of_lt_of_le (h.kept k hk).2.2 hs⟩, h.below.trans (ht.below (fun k hk => (h.in1 k hk).1) h.below.size)⟩, fun k hk => ht.block k (h.kept k hk).2.2 (h.kept k hk).1⟩
  · rcases hk with hk | hk
    · exact ⟨(h.in1 k hk).1, Nat.lt_of_lt_of_le (h.in1 k hk).2 hs⟩
    · exact ⟨Nat.le_trans h.below.size hk.1, hk.2⟩
  · rcases hk with hk | hk
    · exact h.apart k hk hf
    · have := (h.in2 k hf).2; omega
  · rintro (hk' | hk')
    · exact (h.kept k hk).1 hk'
    · have := (h.kept k hk).2.2; omega
theorem BoF.turnR {B R : Nat} {S : WS} {M M' : MS} {K f1 f2 : Nat → Prop} {w W W' : World} (h : BoF B R S M K w f1 f2 W) (ht : Turn f2 W W') (hw : RwE R M' (grow f2 W W') W') : Bo B R S M' K w W' ∧ ∀ k, K k → W'.heap[k]? = W.heap[k]? := by
  have hs := ht.size
  refine ⟨⟨f1, grow f2 W W', h.w1.kept fun k hk hf => ht.block k hk fun hf2 => h.apart k hf hf2, hw, fun k hk => ⟨(h.in1 k hk).1, Nat.lt_of_lt_of_le (h.in1 k hk).2 hs⟩, fun k hk => ?_, fun k hf hk => ?_, fun k hk => ⟨(h.kept k hk).1, ?_, Nat.lt_of_lt_of_le (h.kept k hk).2.2 hs⟩, h.below.trans (ht.below (fun k hk => (h.in2 k hk).1) h.below.size)⟩, fun k hk => ht.block k (h.kept k hk).2.2 (h.kept k hk).2.1⟩
  · rcases hk with hk | hk
    · exact ⟨(h.in2 k hk).1, Nat.lt_of_lt_of_le (h.in2 k hk).2 hs⟩
    · exact ⟨Nat.le_trans h.below.size hk.1, hk.2⟩
  · rcases hk with hk | hk
    · exact h.apart k hf hk
    · have := (h.in1 k hf).2; omega
  · rintro (hk' | hk')
    · exact (h.kept k hk).2.1 hk'
    · have := (h.kept k hk).2.2; omega
theorem Bo.later {B R : Nat} {S : WS} {M : MS} {K : Nat → Prop} {w W W' : World} (h : Bo B R S M K w W) (hb : Below W.heap.size W W') : Bo B R S M K w W' := by
  obtain ⟨f1, f2, h⟩ := h
  have hs := hb.size
  exact ⟨f1, f2, h.w1.below hb, h.r1.below hb, fun k hk => ⟨(h.in1 k hk).1, Nat.lt_of_lt_of_le (h.in1 k hk).2 hs⟩, fun k hk => ⟨(h.in2 k hk).1, Nat.lt_of_lt_of_le (h.in2 k hk).2 hs⟩, h.apart, fun k hk => ⟨(h.kept k hk).1, (h.kept k hk).2.1, Nat.lt_of_lt_of_le (h.kept k hk).2.2 hs⟩, below_trans h.below hb⟩
theorem Bo.drop {B R : Nat} {S : WS} {M : MS} {K : Nat → Prop} {w W : World} (h : Bo B R S M K w W) : Bo B R S M (fun _ => False) w W := by
  obtain ⟨f1, f2, h⟩ := h
  exact ⟨f1, f2, h.w1, h.r1, h.in1, h.in2, h.apart, fun k hk => hk.elim, h.below⟩
theorem Bo.mark {B R : Nat} {S : WS} {M : MS} {K : Nat → Prop} {w W W' : World} (h : Bo B R S M K w W) (hb : Below W.heap.size W W') {A : Nat} (h1 : W.heap.size ≤ A) (h2 : A < W'.heap.size) : Bo B R S M (fun k => k = A) w W' := by
  obtain ⟨f1, f2, h'⟩ := h.later hb
  obtain ⟨g1, g2, h⟩ := h
  have hs := hb.size
  exact ⟨g1, g2, h.w1.below hb, h.r1.below hb, fun k hk => ⟨(h.in1 k hk).1, Nat.lt_of_lt_of_le (h.in1 k hk).2 hs⟩, fun k hk => ⟨(h.in2 k hk).1, Nat.lt_of_lt_of_le (h.in2 k hk).2 hs⟩, h.apart, fun k hk => ⟨fun hf => by have := (h.in1 k hf).2; omega, fun hf => by have := (h.in2 k hf).2; omega, by omega⟩, below_trans h.below hb⟩
theorem bo_below {B R : Nat} {S : WS} {M : MS} {K : Nat → Prop} {w W : World} (h : Bo B R S M K w W) : Below w.heap.size w W := by
  obtain ⟨f1, f2, h⟩ := h
  exact h.below

theorem step_apdB {P : Program} {ops : Array Oper} {o : Oper} {a : Act} {w : World} {K : Act → World → Prop} {Q : Exit → Act → World → Prop} {E : Prop}
    (hg : o.guard = none) (s x : Operand) (t : TypeId) (hop : o.op = Op.call { callee := Callee.builtin Builtin.append, args := #[s, x], argTypes := #[t, t] })
    (base : Nat) (e : TypeId) (h1 : P.underlying t = some (.slice e)) (h2 : (P.info? e).map (fun i => (i.zero, i.size, i.bytes)) = some (some (.int .u8 0), 1, 1)) (v : Value) (l : List UInt8) (hs : a.eval s = v) (hown : OwnE encB e base v l w) (xv : Value) (news : List UInt8) (hx : a.eval x = xv) (hr : ReadB xv news w)
    (b1 : l.length + news.length ≤ 1000000) (hb : base ≤ w.heap.size)
    (hK : ∀ v' w', OwnE encB e base v' (l ++ news) w' → Apd base v (l ≠ []) w w' → (v = .slice none 0 0 ∨ l ≠ [] → v' = .slice none 0 0 ∨ l ++ news ≠ []) → (v'.ownBlock = v.ownBlock ∨ v'.ownBlock = some w.heap.size) → K (a.put o.dst v') w') :
    if Region.wanted o (yielded ops a.tmps) = true then Oper.wp P o a w K Q else E := by
  have hw : Region.wanted o (yielded ops a.tmps) = true := by simp [Region.wanted, hg]
  rw [if_pos hw]
  obtain ⟨v', w', hrun, r1, r2, r3, r4⟩ := run_apdB (P := P) w base t o.type e h1 h2 v l hown xv news hr b1 hb
  unfold Oper.wp
  simp [execOp, hop, resolve, invoke, builtin, hs, hx, hrun, Result.andThen]
  refine hK v' w' r1 r2 (fun hv => ?_) r4
  by_cases hn : news = []
  · subst hn
    rw [List.append_nil]
    exact hv.imp (fun h => r3 h rfl) id
  · exact .inr (by simp [hn])
theorem BoF.later {B R : Nat} {S : WS} {M : MS} {K f1 f2 : Nat → Prop} {w W W' : World} (h : BoF B R S M K w f1 f2 W) (hb : Below W.heap.size W W') : BoF B R S M K w f1 f2 W' :=
  have hs := hb.size
  ⟨h.w1.below hb, h.r1.below hb, fun k hk => ⟨(h.in1 k hk).1, Nat.lt_of_lt_of_le (h.in1 k hk).2 hs⟩, fun k hk => ⟨(h.in2 k hk).1, Nat.lt_of_lt_of_le (h.in2 k hk).2 hs⟩, h.apart, fun k hk => ⟨(h.kept k hk).1, (h.kept k hk).2.1, Nat.lt_of_lt_of_le (h.kept k hk).2.2 hs⟩, below_trans h.below hb⟩
theorem take_put (M : MS) {b : List UInt8} {j : Nat} (hj : j < b.length) : ({ M.put (b.take j) with b := (M.put (b.take j)).b ++ [b[j]], pl := (M.put (b.take j)).pl ++ [[]] } : MS) = M.put (b.take (j + 1)) := by
  have e : b.take (j + 1) = b.take j ++ [b[j]] := by rw [List.take_succ_eq_append_getElem hj]
  rw [e, ← MS.put_put]
  rfl
theorem readB_cellAt {v : Value} {l : List UInt8} {W : World} (h : ReadB v l W) {ao : Option Addr} {n cap j : Nat} (e : v = .slice ao n cap) (hj : j < l.length) : ∃ b off, ao = some ⟨b, off, none⟩ ∧ W.cell? ⟨b, off + j, none⟩ = some (encB l[j]) := by
  obtain ⟨ao', cap', e', hc⟩ := h.form
  rw [e] at e'
  cases e'
  exact hc j hj
theorem simSize {S : WS} {M : MS} (h : Sim S M) {n : Nat} (hn : S.size ≤ n) : M.b.length ≤ n := by rw [← h.size]; exact hn
/-- Between the rounds. -/
structure Goes (B R : Nat) (k : Nat) (S : WS) (M : MS) (w W : World) : Prop where
  bo : Bo B R S M (fun _ => False) w W
  sim : Sim S M
  ok : TabOk S
  size : S.size ≤ k * 310
  tab : S.tab.length ≤ k * 310
theorem Goes.next {B R k : Nat} {S S' : WS} {M M' : MS} {K : Nat → Prop} {w W W' : World} (h : Goes B R k S M w W) (hbo : Bo B R S' M' K w W') (hs : Sim S' M') (hok : TabOk S') (h1 : S'.size ≤ S.size + 310) (h2 : S'.tab.length ≤ S.tab.length + 310) : Goes B R (k + 1) S' M' w W' :=
  ⟨hbo.drop, hs, hok, by have := h.size; omega, by have := h.tab; omega⟩
theorem four_len (n : Int) : (four n).length = 4 := rfl
theorem rw_new {W : World} (most : Int) : RwE W.heap.size (MS.new most) (fun k => k = W.heap.size) (W.alloc (.cells #[.int .i64 most, .slice none 0 0, .slice none 0 0, .bool false] 37 (0, 0))) :=
  ⟨.slice none 0 0, .slice none 0 0, World.alloc_heap_new W _, rfl, ownE_nil _ _ _ _, ownE_nil _ _ _ _, .inl rfl, .inl rfl, fun g h => by simp [Value.ownBlock] at h, fun g h => by simp [Value.ownBlock] at h⟩

set_option maxRecDepth 100000 in
set_option maxHeartbeats 8000000 in
theorem writes_any (most : Int) (l : List ActD) (v : Value) (w : World) (hr : ReadA v l w) (hl : l.length ≤ 9223372036854775807) (_hm1 : -9223372036854775808 ≤ most) (_hm2 : most ≤ 9223372036854775807) :
    Calls Try.prog 4 #[.int .i64 most, v] w fun e w' => e = .returned (.bool true) ∧ Below w.heap.size w w' := by
  have hr' := hr
  obtain ⟨ao, cap, rfl, hc⟩ := hr.form
  have HR := Lib.hid hr'
  have HC := Lib.hid hc
  clear hc hr hr'
  go_enter Try.func4, Try.ntmps4
  go_wp2_with fail
  refine (few_any l _ w HR.out hl).mono ?_
  rintro e w1 ⟨r, rfl, hsm, b1⟩
  cases r with
  | false =>
    clear hsm
    go_wp2_with (go_at_call 9; refine (awake_any _).mono ?_; rintro e w2 ⟨rfl, b2⟩)
    go_ret
    exact ⟨rfl, below_trans b1 b2⟩
  | true =>
    have HSM := Lib.hid (hsm rfl)
    have hl40 := HSM.out.1
    clear hsm
    go_wp2_with fail
    refine (new_any most _).mono ?_
    rintro e w2 ⟨rfl, b2, hw2, hz2⟩
    have HW2 := Lib.hid hw2
    have HZ2 := Lib.hid hz2
    have HB2 := Lib.hid (below_trans b1 b2)
    clear hw2 hz2 b2
    go_wp2_with fail
    have hS0 : Goes w1.heap.size w2.heap.size 0 (WS.new most) (MS.new most) w (w2.alloc (.cells #[.int .i64 most, .slice none 0 0, .slice none 0 0, .bool false] 37 (0, 0))) := by
      refine ⟨⟨_, _, (HW2.out.below ((Below.refl _ _).alloc (Nat.le_refl _) _)), rw_new most, fun k hk => ?_, fun k hk => ?_, fun k hk hk' => ?_, fun k hk => hk.elim, HB2.out.alloc HB2.out.size _⟩, sim_new most, fun k v h => (by cases h), by simp [WS.new], by simp [WS.new]⟩
      · have h : k = w1.heap.size := hk
        have := b1.size
        have := HZ2.out
        simp; omega
      · have h : k = w2.heap.size := hk
        have := HB2.out.size
        simp; omega
      · have h : k = w1.heap.size := hk
        have h' : k = w2.heap.size := hk'
        have := HZ2.out
        omega
    have HS0 := Lib.hid hS0
    clear hS0
    go_loopw [7] (fun i wr => ∃ (k : Nat) (S : WS) (M : MS), i = .int .i64 (k : Int) ∧ k ≤ l.length ∧ Hid (Goes w1.heap.size w2.heap.size k S M w wr)) (fun i _ => l.length - (intOf i).toNat)
    case atStart => exact ⟨0, _, _, rfl, Nat.zero_le _, HS0⟩
    case round =>
      obtain ⟨k, S, M, rfl, hk, hG⟩ := hrel
      by_cases hlt : k < l.length
      · obtain ⟨g, off, rfl, c0, c1, c2, c3, hrb, hb1, hs1⟩ := HC.out k hlt
        obtain ⟨hx1, hx2⟩ := HSM.out.2 _ (List.getElem_mem hlt)
        obtain ⟨⟨kind, b, bv, n, s⟩, hx⟩ : ∃ x, x = l[k] := ⟨_, rfl⟩
        rw [← hx] at c0 c1 c2 c3 hrb hb1 hs1 hx1 hx2
        have hbw := bo_below hG.out.bo
        replace c0 : wr.cell? ⟨g, off + k * 4, none⟩ = some (.int .i64 kind) := (hbw.cell (cell_lt c0)).trans c0
        replace c1 : wr.cell? ⟨g, off + k * 4 + 1, none⟩ = some bv := (hbw.cell (cell_lt c1)).trans c1
        replace c2 : wr.cell? ⟨g, off + k * 4 + 2, none⟩ = some (.int .i64 n) := (hbw.cell (cell_lt c2)).trans c2
        replace c3 : wr.cell? ⟨g, off + k * 4 + 3, none⟩ = some (.string ⟨s.toArray⟩) := (hbw.cell (cell_lt c3)).trans c3
        simp only at hrb hb1 hs1 hx1 hx2
        obtain ⟨aob, cpb, rfl, _⟩ := hrb.form
        have HRB := Lib.hid (readB_below hrb hbw)
        have HRB0 := Lib.hid hrb
        clear hx hrb hbw
        have hGs := hG.out.size
        have hGt := hG.out.tab
        have hev := hG.out.sim.even
        have hMb : M.b.length = S.size := hG.out.sim.size.symm
        have hk40 : k ≤ 40 := by omega
        have hS2 : S.size ≤ 13000 := by omega
        have hT2 : S.tab.length ≤ 13000 := by omega
        have HEV := Lib.hid hev
        have HMB := Lib.hid hMb
        have hA := hG.out.bo.mark ((Below.refl wr.heap.size wr).alloc (Nat.le_refl _) (.cells #[.int .i64 kind, .slice aob b.length cpb, .int .i64 n, .string ⟨s.toArray⟩] 39 (0, 0))) (A := wr.heap.size) (Nat.le_refl _) (by simp)
        have hblk := World.alloc_heap_new wr (.cells #[.int .i64 kind, .slice aob b.length cpb, .int .i64 n, .string ⟨s.toArray⟩] 39 (0, 0))
        have HA := Lib.hid hA
        have HBLK := Lib.hid hblk
        clear hA hblk hev hMb hGs hGt
        obtain ⟨f1, f2, hF⟩ := HA.out
        have HF := Lib.hid hF
        clear hF
        have hkinds : kind = 1 ∨ kind = 2 ∨ kind = 3 ∨ kind = 4 ∨ kind = 5 ∨ (kind ≠ 1 ∧ kind ≠ 2 ∧ kind ≠ 3 ∧ kind ≠ 4 ∧ kind ≠ 5) := by omega
        rcases hkinds with rfl | rfl | rfl | rfl | rfl | ⟨n1, n2, n3, n4, n5⟩
        · go_wp2_with fail
          refine (bytes_any _ S f1 b _ _ HF.out.w1 (readB_below HRB.out ((Below.refl wr.heap.size wr).alloc (Nat.le_refl _) _)) (by omega)).mono ?_
          rintro e w4 ⟨rfl, ht, hw⟩
          obtain ⟨hB4, hk4⟩ := HF.out.turnW ht hw
          have HB4 := Lib.hid hB4
          have HK4 := Lib.hid ((hk4 _ rfl).trans HBLK.out)
          clear hB4 ht hw hk4
          go_wp2_with fail
          obtain ⟨A, hAw⟩ : ∃ A, A = wr.heap.size := ⟨_, rfl⟩
          rw [← hAw] at HB4 HK4
          rw [← hAw]
          have HAW := Lib.hid hAw
          clear hAw
          go_loopw [9] (fun iv wr2 => ∃ j : Nat, iv = .int .i64 (j : Int) ∧ j ≤ b.length ∧ Hid (Bo w1.heap.size w2.heap.size (S.put b) (M.put (b.take j)) (fun k => k = A) w wr2) ∧ Hid (wr2.heap[A]? = some (.cells #[.int .i64 1, .slice aob b.length cpb, .int .i64 n, .string ⟨s.toArray⟩] 39 (0, 0)))) (fun iv _ => b.length - (intOf iv).toNat)
          case atStart => exact ⟨0, rfl, Nat.zero_le _, Lib.hid (by rw [List.take_zero, MS.put_nil]; exact HB4.out), HK4⟩
          case round =>
            obtain ⟨j, rfl, hj, hBo, hBk⟩ := hrel
            have d1 := blk_cell hBk.out 1 (v := .slice aob b.length cpb) rfl
            by_cases hlt2 : j < b.length
            · obtain ⟨g1, g2, hF2⟩ := hBo.out
              obtain ⟨vb, vp, hR2⟩ := hF2.r1
              obtain ⟨aoq, nq0, cq, rfl⟩ := own_shape hR2.ob
              have e1 := blk_cell hR2.heap 1 (v := .slice aoq nq0 cq) rfl
              obtain ⟨gb, offb, rfl, e3⟩ := readB_cellAt HRB0.out rfl hlt2
              replace e3 := (hF2.below.cell (cell_lt e3)).trans e3
              obtain ⟨c, hc⟩ : ∃ c, c = b[j] := ⟨_, rfl⟩
              rw [← hc] at e3
              obtain ⟨N, hN⟩ : ∃ N, N = M.put (b.take j) := ⟨_, rfl⟩
              rw [← hN] at hF2 hR2
              have hNb : N.b.length ≤ 20000 := by rw [hN, put_len, HMB.out]; have := List.length_take_le j b; omega
              have hNp : N.pl.length ≤ 20000 := by rw [hN, put_even HEV.out]; rw [← hN]; exact hNb
              have hct : ({ N with b := N.b ++ [c], pl := N.pl ++ [[]] } : MS) = M.put (b.take (j + 1)) := by rw [hN, hc]; exact take_put M hlt2
              have HN := Lib.hid hN
              have HC2 := Lib.hid hc
              have HCT := Lib.hid hct
              have HF2 := Lib.hid hF2
              have HKW : Hid (∀ W', Below wr.heap.size wr W' → Rw w2.heap.size N g2 (.slice aoq nq0 cq) vp W') := Lib.hid fun W' hb => hR2.kept fun k hk _ => hb.block k hk
              have x1 : ∀ o, (wr.alloc o).cell? ⟨w2.heap.size, 1, none⟩ = some (.slice aoq nq0 cq) := fun o => (((Below.refl wr.heap.size wr).alloc (Nat.le_refl _) o).cell (cell_lt e1)).trans e1
              have x2 : ∀ o, (wr.alloc o).cell? ⟨A, 1, none⟩ = some (.slice (some ⟨gb, offb, none⟩) b.length cpb) := fun o => (((Below.refl wr.heap.size wr).alloc (Nat.le_refl _) o).cell (cell_lt d1)).trans d1
              replace e3 : wr.cell? ⟨gb, offb + j, none⟩ = some (.int .u8 (c.toNat : Int)) := e3
              clear hN hc hct hF2 hR2 hBo
              go_wp2_with fail
              go_region_law ((refine step_apdB (by rfl) _ _ 22 (by rfl) 0 5 Try.underlying22 infoByte (.slice aoq nq0 cq) N.b (by rfl) (HKW.out _ (by repeat (first | with_reducible exact Below.refl _ _ | (with_reducible refine Below.drew ?_) | (with_reducible refine Below.alloc ?_ (by simp) _)))).ob _ [c] (by rfl) (readB_one (c := c) (by simp [go_sem])) (by simp; omega) (Nat.zero_le _) ?_; intro v1 w3 ho1 ha1 hn1 hl1; obtain ⟨ao1, n1, cp1, rfl⟩ := own_shape ho1; have HA2 := Lib.hid ((HKW.out _ (by repeat (first | with_reducible exact Below.refl _ _ | (with_reducible refine Below.drew ?_) | (with_reducible refine Below.alloc ?_ (by simp) _)))).appB ho1 ha1 hn1 hl1); have c7 := blk_cell HA2.out.1 1 (v := .slice aoq nq0 cq) rfl; have f7 := blk_frozen HA2.out.1 1; clear ho1 ha1 hn1 hl1))
              all_goals
                have hbA : Below wr.heap.size wr (wr.alloc (.cells #[.int .u8 (c.toNat : Int)] 5 (0, 0))).drew := ((Below.refl wr.heap.size wr).alloc (Nat.le_refl _) _).drew
                obtain ⟨hB5, hk5⟩ := (HF2.out.later hbA).turnR HA2.out.2.1 ⟨_, _, HA2.out.2.2⟩
                have hA5 := (hk5 A rfl).trans ((hbA.block A (blk_lt hBk.out)).trans hBk.out)
                obtain ⟨h1, h2, hF5⟩ := hB5
                obtain ⟨vb5, vp5, hR5⟩ := hF5.r1
                obtain ⟨aop, np, cpp, rfl⟩ := own_shape hR5.op
                have e5 := blk_cell hR5.heap 2 (v := .slice aop np cpp) rfl
                obtain ⟨w5, hw5⟩ : ∃ w5, w5 = w3.setCell ⟨w2.heap.size, 1, none⟩ (.slice ao1 n1 cp1) := ⟨_, rfl⟩
                rw [← hw5] at hA5 hF5 hR5 e5
                rw [← hw5]
                have HA5 := Lib.hid hA5
                have HF5 := Lib.hid hF5
                have HR5 := Lib.hid hR5
                clear hA5 hF5 hR5 hw5 hk5 hbA HA2 c7 f7 x1 x2 e1 e3
                have HW := Lib.hid (HR5.out.kept (W' := w5.alloc (.cells #[.string ⟨#[]⟩] 9 (0, 0))) (fun q hq _ => ((Below.refl w5.heap.size w5).alloc (Nat.le_refl _) _).block q hq))
                go_wp2_with (at_builtin; refine wpList_apdS _ rfl _ _ 35 rfl 0 9 Try.underlying35 infoStr _ _ rfl HW.out.op w5.heap.size 1 [] rfl (cells_new w5 [_] _ 0 _ rfl) (by simp only; omega) (Nat.zero_le _) ?_; intro v1 w6 ho1 ha1 hl1; obtain ⟨ao6, n6, cp6, rfl⟩ := own_shape ho1; have HA6 := Lib.hid (HW.out.appP ho1 ha1 hl1); have c7 := blk_cell HA6.out.1 2 (v := .slice aop np cpp) rfl; have f7 := blk_frozen HA6.out.1 2; clear ho1 ha1 hl1)
                have hbA6 : Below w5.heap.size w5 (w5.alloc (.cells #[.string ⟨#[]⟩] 9 (0, 0))) := (Below.refl w5.heap.size w5).alloc (Nat.le_refl _) _
                obtain ⟨hB7, hk7⟩ := (HF5.out.later hbA6).turnR HA6.out.2.1 ⟨_, _, HA6.out.2.2⟩
                have hA7 := (hk7 A rfl).trans ((hbA6.block A (blk_lt HA5.out)).trans HA5.out)
                rw [show ({ most := N.most, b := N.b ++ [c], pl := N.pl ++ [[]], bad := N.bad } : MS) = M.put (b.take (j + 1)) from HCT.out] at hB7
                exact ⟨⟨j + 1, by simp, by omega, Lib.hid hB7, Lib.hid hA7⟩, by simp [intOf]; omega⟩
            · obtain rfl : j = b.length := by omega
              go_wp2_with fail
              exact ⟨⟨k + 1, S.put b, M.put b, by simp, by omega, Lib.hid (hG.out.next (by have := hBo.out; rw [List.take_length] at this; exact this) (hG.out.sim.put _) (tabOk_put hG.out.ok _) (by simp [WS.put]; omega) (by simp [WS.put]))⟩, by simp [intOf]; omega⟩
        · go_wp2_with fail
          refine (two_any _ S f1 n _ HF.out.w1 (by omega)).mono ?_
          rintro e w4 ⟨rfl, ht, hw⟩
          obtain ⟨⟨g1, g2, hF4⟩, hk4⟩ := HF.out.turnW ht hw
          have d2 := blk_cell ((hk4 _ rfl).trans HBLK.out) 2 (v := .int .i64 n) rfl
          have HF4 := Lib.hid hF4
          clear hF4 ht hw hk4
          go_wp2_with fail
          refine (rtwo_any _ M g2 n _ HF4.out.r1 HEV.out (by rw [HMB.out]; omega)).mono ?_
          rintro e w5 ⟨rfl, ht, hw⟩
          have HB5 := Lib.hid (HF4.out.turnR ht hw).1
          clear ht hw
          go_wp2_with fail
          exact ⟨⟨k + 1, _, _, by simp, by omega, Lib.hid (hG.out.next HB5.out (hG.out.sim.put _) (tabOk_put hG.out.ok _) (by simp [WS.put, two_len]) (by simp [WS.put]))⟩, by simp [intOf]; omega⟩
        · go_wp2_with fail
          refine (four_any _ S f1 n _ HF.out.w1 (by omega)).mono ?_
          rintro e w4 ⟨rfl, ht, hw⟩
          obtain ⟨⟨g1, g2, hF4⟩, hk4⟩ := HF.out.turnW ht hw
          have d2 := blk_cell ((hk4 _ rfl).trans HBLK.out) 2 (v := .int .i64 n) rfl
          have HF4 := Lib.hid hF4
          clear hF4 ht hw hk4
          go_wp2_with fail
          refine (rfour_any _ M g2 n _ HF4.out.r1 HEV.out (by rw [HMB.out]; omega)).mono ?_
          rintro e w5 ⟨rfl, ht, hw⟩
          have HB5 := Lib.hid (HF4.out.turnR ht hw).1
          clear ht hw
          go_wp2_with fail
          exact ⟨⟨k + 1, _, _, by simp, by omega, Lib.hid (hG.out.next HB5.out (hG.out.sim.put _) (tabOk_put hG.out.ok _) (by simp [WS.put, four_len]) (by simp [WS.put]))⟩, by simp [intOf]; omega⟩
        · go_wp2_with fail
          refine (name_any _ S f1 s true _ HF.out.w1 (by omega) (by omega) (by omega) hG.out.ok).mono ?_
          rintro e w4 ⟨rfl, ht, hw⟩
          obtain ⟨⟨g1, g2, hF4⟩, hk4⟩ := HF.out.turnW ht hw
          have d0 := blk_cell ((hk4 _ rfl).trans HBLK.out) 0 (v := .int .i64 4) rfl
          have d3 := blk_cell ((hk4 _ rfl).trans HBLK.out) 3 (v := .string ⟨s.toArray⟩) rfl
          have HF4 := Lib.hid hF4
          clear hF4 ht hw hk4
          go_wp2_with fail
          refine (rname_any _ M g2 s true _ HF4.out.r1 (by omega) HEV.out (by rw [HMB.out]; omega)).mono ?_
          rintro e w5 ⟨rfl, ht, hw⟩
          have HB5 := Lib.hid (HF4.out.turnR ht hw).1
          clear ht hw
          have hns := name_size_le S s true
          have HNS := Lib.hid hns
          clear hns
          go_wp2_with fail
          exact ⟨⟨k + 1, _, _, by simp, by omega, Lib.hid (hG.out.next HB5.out (hG.out.sim.name _ _) (tabOk_name hG.out.ok _ _) (by have := HNS.out; omega) (by have := HNS.out; omega))⟩, by simp [intOf]; omega⟩
        · go_wp2_with fail
          refine (name_any _ S f1 s false _ HF.out.w1 (by omega) (by omega) (by omega) hG.out.ok).mono ?_
          rintro e w4 ⟨rfl, ht, hw⟩
          obtain ⟨⟨g1, g2, hF4⟩, hk4⟩ := HF.out.turnW ht hw
          have d0 := blk_cell ((hk4 _ rfl).trans HBLK.out) 0 (v := .int .i64 5) rfl
          have d3 := blk_cell ((hk4 _ rfl).trans HBLK.out) 3 (v := .string ⟨s.toArray⟩) rfl
          have HF4 := Lib.hid hF4
          clear hF4 ht hw hk4
          go_wp2_with fail
          refine (rname_any _ M g2 s false _ HF4.out.r1 (by omega) HEV.out (by rw [HMB.out]; omega)).mono ?_
          rintro e w5 ⟨rfl, ht, hw⟩
          have HB5 := Lib.hid (HF4.out.turnR ht hw).1
          clear ht hw
          have hns := name_size_le S s false
          have HNS := Lib.hid hns
          clear hns
          go_wp2_with fail
          exact ⟨⟨k + 1, _, _, by simp, by omega, Lib.hid (hG.out.next HB5.out (hG.out.sim.name _ _) (tabOk_name hG.out.ok _ _) (by have := HNS.out; omega) (by have := HNS.out; omega))⟩, by simp [intOf]; omega⟩
        · go_wp2_with fail
          exact ⟨⟨k + 1, _, _, by simp, by omega, Lib.hid (hG.out.next HA.out hG.out.sim hG.out.ok (by omega) (by omega))⟩, by simp [intOf]; omega⟩
      · have hsz := hG.out.size
        have hk40 : k ≤ 40 := by omega
        have hS2 : S.size ≤ 13000 := by omega
        have hMb : M.b.length ≤ 13000 := simSize hG.out.sim hS2
        obtain ⟨f1, f2, hF⟩ := hG.out.bo
        have HF := Lib.hid hF
        have hbad := hG.out.sim.bad
        have hmost := hG.out.sim.most
        have hsize := hG.out.sim.size
        have hout := hG.out.sim.out
        have HBAD := Lib.hid hbad
        have HMOST := Lib.hid hmost
        have HSIZE := Lib.hid hsize
        have HOUT := Lib.hid hout
        clear hF hbad hmost hsize hout hsz
        have hov : (S.bad = true ∨ S.most < (S.size : Int)) ∨ ¬ (S.bad = true ∨ S.most < (S.size : Int)) := Classical.em _
        rcases hov with hov | hov
        · have hov2 : M.bad = true ∨ M.most < (M.b.length : Int) := by rw [← HBAD.out, ← HMOST.out, ← HSIZE.out]; exact hov
          have HOV := Lib.hid hov
          have HOV2 := Lib.hid hov2
          clear hov hov2
          go_wp2_with fail
          refine (out_any _ S f1 wr HF.out.w1 (by omega)).mono ?_
          rintro e w3 ⟨b3, h3, _⟩
          obtain rfl := h3 HOV.out
          have HB3 := Lib.hid b3
          clear h3 b3
          go_wp2_with fail
          refine (rout_any _ M f2 w3 (HF.out.r1.below HB3.out) (by omega)).mono ?_
          rintro e w4 ⟨b4, h4, _⟩
          obtain rfl := h4 HOV2.out
          have HB4 := Lib.hid b4
          clear h4 b4
          go_wp2_with (go_at_call 9; refine (awake_any _).mono ?_; rintro e w9 ⟨rfl, b9⟩)
          go_ret
          exact ⟨rfl, below_trans (below_trans (below_trans HF.out.below HB3.out) HB4.out) b9⟩
        · have hov2 : ¬ (M.bad = true ∨ M.most < (M.b.length : Int)) := by rw [← HBAD.out, ← HMOST.out, ← HSIZE.out]; exact hov
          have hle : (S.size : Int) ≤ S.most := by
            rcases Int.lt_or_le S.most (S.size : Int) with h | h
            · exact absurd (.inr h) hov
            · exact h
          have heq := HOUT.out hle
          have HEQ := Lib.hid heq
          have HOV := Lib.hid hov
          have HOV2 := Lib.hid hov2
          clear hov hov2 heq hle
          go_wp2_with fail
          refine (out_any _ S f1 wr HF.out.w1 (by omega)).mono ?_
          rintro e w3 ⟨b3, _, h3⟩
          obtain ⟨v3, rfl, ho3⟩ := h3 HOV.out
          rw [HEQ.out] at ho3
          obtain ⟨ao3, cp3, rfl⟩ := ownE_len ho3
          have HB3 := Lib.hid b3
          have HO3 := Lib.hid ho3
          clear h3 b3 ho3
          go_wp2_with fail
          refine (rout_any _ M f2 w3 (HF.out.r1.below HB3.out) (by omega)).mono ?_
          rintro e w4 ⟨b4, _, h4⟩
          obtain ⟨v4, rfl, ho4⟩ := h4 HOV2.out
          obtain ⟨ao4, cp4, rfl⟩ := ownE_len ho4
          have hs3 := run_read_str (ownB_read (ownE_below HO3.out b4)).1
          have hs4 := run_read_str (ownB_read ho4).1
          have HB4 := Lib.hid b4
          have HO4 := Lib.hid ho4
          clear h4 b4 ho4
          go_wp2_with (first
            | (go_at_call 23; refine (len_any _ S f1 _ ((HF.out.w1.below HB3.out).below HB4.out)).mono ?_; rw [HSIZE.out]; rintro e w' ⟨rfl, rfl⟩)
            | (go_at_call 9; refine (awake_any _).mono ?_; rintro e w9 ⟨rfl, b9⟩))
          go_ret
          exact ⟨rfl, below_trans (below_trans (below_trans HF.out.below HB3.out) HB4.out) b9⟩
end Go.Proofs.Ytipabiiffaipdaa
