/- 4 texts put together: Wlm, Wst, Round, Wl. -/
import Derived.Test.YtchlemajppnehaaJW2
import Derived.Test.YtchlemajppnehaaJW17
import Derived.Test.YtchlemajppnehaaJW18
import Derived.Test.YtchlemajppnehaaJW23
import Derived.Test.YtchlemajppnehaaJW25
import Derived.Test.YtchlemajppnehaaJW27
/- The law ListsWalk: its mathematics, and what a loop's own box may do beside the gathered ones. -/
set_option maxRecDepth 100000
namespace Go.Proofs.Ytchlemajppnehaa
open Go Go.RowKit Go.Shelf Go.Maps
namespace Wl
def ek (i : Nat) : Int × Int := ((i : Int), ((i / 2 : Nat) : Int))
def E (n : Nat) : List (Int × Int) := (List.range n).map ek
def want (at_ : Int) (n : Nat) : List (Int × Int) := (E n).filter (fun e => decide (e.2 ≤ at_))
theorem E_succ (n : Nat) : E (n + 1) = E n ++ [ek n] := by unfold E; rw [List.range_succ, List.map_append]; rfl
theorem E_filter (n : Nat) : (E n).filter (fun e => e.1 != (n : Int)) ++ [((n : Int), ((n / 2 : Nat) : Int))] = E (n + 1) := by
  rw [E_succ]
  congr 1
  refine List.filter_eq_self.2 fun e he => ?_
  unfold E at he
  obtain ⟨i, hi, rfl⟩ := List.mem_map.1 he
  have := List.mem_range.1 hi
  rw [bne_iff_ne]
  show (i : Int) ≠ (n : Int)
  omega
theorem want_yes {at_ : Int} {n : Nat} (h : ((n / 2 : Nat) : Int) ≤ at_) : want at_ (n + 1) = want at_ n ++ [ek n] := by
  unfold want
  rw [E_succ, List.filter_append, List.filter_cons, List.filter_nil, if_pos (decide_eq_true (show (ek n).2 ≤ at_ from h))]
theorem want_no {at_ : Int} {n : Nat} (h : ¬ ((n / 2 : Nat) : Int) ≤ at_) : want at_ (n + 1) = want at_ n := by
  unfold want
  rw [E_succ, List.filter_append, List.filter_cons, List.filter_nil, if_neg (fun e => h (of_decide_eq_true e : (ek n).2 ≤ at_)), List.append_nil]
theorem want_len (at_ : Int) (n : Nat) : (want at_ n).length ≤ n := by
  have := List.length_filter_le (fun e : Int × Int => decide (e.2 ≤ at_)) (E n)
  unfold E at this
  simpa [want, E] using this
theorem half (n : Nat) : ((n : Int)).tdiv 2 = ((n / 2 : Nat) : Int) := rfl
theorem insE_last (x : Int × Int) : ∀ l : List (Int × Int), (∀ y ∈ l, y.2 ≤ x.2) → Du.insE x l = l ++ [x]
  | [], _ => rfl
  | y :: l, h => by
    unfold Du.insE
    have := h y (List.mem_cons_self ..)
    rw [if_neg (by omega), insE_last x l fun z hz => h z (List.mem_cons_of_mem _ hz)]
    rfl
theorem uptoE_sorted (at_ : Int) : ∀ (l acc : List (Int × Int)), l.Pairwise (fun a b => a.2 ≤ b.2) → (∀ a ∈ acc, ∀ b ∈ l, a.2 ≤ b.2) → Du.uptoE at_ l acc = acc ++ l.filter (fun e => decide (e.2 ≤ at_))
  | [], acc, _, _ => by rw [List.filter_nil, List.append_nil]; rfl
  | x :: l, acc, hs, ha => by
    obtain ⟨h1, h2⟩ := List.pairwise_cons.1 hs
    unfold Du.uptoE
    by_cases h : x.2 ≤ at_
    · rw [if_pos h, insE_last x acc fun y hy => ha y hy x (List.mem_cons_self ..), uptoE_sorted at_ l _ h2 fun a hm b hb => by
        rcases List.mem_append.1 hm with e | e
        · exact ha a e b (List.mem_cons_of_mem _ hb)
        · rw [List.mem_singleton.1 e]; exact h1 b hb, List.filter_cons_of_pos (by simpa using h), List.append_assoc]
      rfl
    · rw [if_neg h, uptoE_sorted at_ l _ h2 fun a hm b hb => ha a hm b (List.mem_cons_of_mem _ hb), List.filter_cons_of_neg (by simpa using h)]
theorem upto (at_ : Int) (n : Nat) : Du.uptoE at_ (E n) [] = want at_ n := by
  rw [uptoE_sorted at_ (E n) [] ?_ (fun a h => by cases h)]
  · rfl
  · unfold E
    refine List.pairwise_map.2 (List.Pairwise.imp (fun {a b} h => ?_) List.pairwise_lt_range)
    show ((a / 2 : Nat) : Int) ≤ ((b / 2 : Nat) : Int)
    have := Nat.div_le_div_right (c := 2) (Nat.le_of_lt h)
    omega
end Wl
theorem KeepsBk.of_trn {f : Nat → Prop} {W W' : World} (h : Trn f W W') (B : Nat) : KeepsBk B W W' := ⟨h.size, fun k o _ hk ho => h.book k o hk ho⟩
section
variable {α : Type} {enc : α → List Value} {k : Nat} {te ts : TypeId} {f : Nat → Prop} {w0 : World} {M B : Nat} {pre : List α} {s : Nat → Prop} {W : World}
/-- A store into another box of the loop's own. -/
theorem Gath.beside (h : Gath enc k te ts f w0 M B pre s W) {b i : Nat} {cs : List Value} {t : TypeId} {u : Value} (hb : Blk W b cs t) (h1 : t ≠ ts) (h2 : t ≠ te) (h3 : w0.heap.size ≤ b) :
    Gath enc k te ts f w0 M B pre s (W.setCell ⟨b, i, none⟩ u) ∧ ∀ M2, KeepsBk M2 W (W.setCell ⟨b, i, none⟩ u) := by
  obtain ⟨v, k1, k2, k3⟩ := h.ex
  have ho := fun c (hc : c ≠ b) => Below.heap_setCell W ⟨b, i, none⟩ u c hc
  have t1 : Trn (fun k => k = b) W (W.setCell ⟨b, i, none⟩ u) := Trn.set1 hb i u
  have hz : (W.setCell ⟨b, i, none⟩ u).heap.size = W.heap.size := by simp [World.setCell]
  refine ⟨⟨⟨v, k1.kept (ho _ (k1.ne hb (Ne.symm h1))), own_kept k2 (fun g e => ?_), k3⟩, h.out, ?_, fun c e => ?_⟩, fun M2 => KeepsBk.of_trn t1 M2⟩
  · obtain ⟨c, hc⟩ := own_blk' k2 e
    exact ho _ (hc.ne hb (Ne.symm h2))
  · exact h.tr.trans (t1.mono fun c _ e => .inr ⟨e ▸ h3, e ▸ hb.lt⟩)
  · have := h.sub c e
    unfold grow at this ⊢
    rw [hz]
    exact this
end
end Go.Proofs.Ytchlemajppnehaa

/- The law ListsWalk: what stands in a round. -/
set_option maxRecDepth 100000
namespace Go.Proofs.Ytchlemajppnehaa
open Go Go.RowKit Go.Shelf Go.Maps
/-- In a round: the walk, the gathered ones in the box n0, their number (or one less) in the box n0 + 1; since W0. -/
structure Sw (X : Nat) (at_ : Int) (xb yb l : Nat) (vb : Option Nat) (R : List (Int × Int)) (s1 : Nat → Prop) (wr : World) (pre : List (Int × Int)) (c : Int) (M2 : Nat) (W0 : World) (s : Ws) (W : World) : Prop where
  U : UW X at_ xb yb l vb R s W
  G : Gath encQ 2 38 tSq s1 wr (wr.heap.size + 2) wr.heap.size pre s.1 W
  A : Aside (wr.heap.size + 1) [.int .i64 c] 3 s.1 W
  K : KeepsBk M2 W0 W
section
variable {X : Nat} {at_ : Int} {xb yb l : Nat} {vb : Option Nat} {R : List (Int × Int)} {s1 : Nat → Prop} {wr : World} {pre : List (Int × Int)} {c : Int} {M2 : Nat} {W0 W W' : World} {s : Ws}
theorem Sw.move (h : Sw X at_ xb yb l vb R s1 wr pre c M2 W0 s W) (t : Trn s.1 W W') {n : Nat} (hu : UW X at_ xb yb l vb R (grow s.1 W W', n) W') : Sw X at_ xb yb l vb R s1 wr pre c M2 W0 (grow s.1 W W', n) W' :=
  ⟨hu, h.G.move (mvL t), h.A.move (mvL t), h.K.trans (KeepsBk.of_trn t M2)⟩
theorem Sw.below (h : Sw X at_ xb yb l vb R s1 wr pre c M2 W0 s W) (hb : Below W.heap.size W W') : Sw X at_ xb yb l vb R s1 wr pre c M2 W0 (grow s.1 W W', s.2) W' := h.move (Trn.of_below hb) (h.U.below hb)
theorem Sw.old (h : Sw X at_ xb yb l vb R s1 wr pre c M2 W0 s W) {b : Nat} {cs : List Value} {t : TypeId} (hB : Blk wr b cs t) (hn : ¬ s1 b) : Blk W b cs t := hB.kept (h.G.tr.block _ hB.lt hn)
/-- The number is counted on. -/
theorem Sw.count (h : Sw X at_ xb yb l vb R s1 wr pre c M2 W0 s W) (d : Int) : Sw X at_ xb yb l vb R s1 wr pre d M2 W0 s (W.setCell ⟨wr.heap.size + 1, 0, none⟩ (.int .i64 d)) := by
  obtain ⟨g1, k1⟩ := h.G.beside (i := 0) (u := .int .i64 d) h.A.1 (by decide) (by decide) (Nat.le_succ _)
  have hz : (W.setCell ⟨wr.heap.size + 1, 0, none⟩ (.int .i64 d)).heap.size = W.heap.size := by simp [World.setCell]
  exact ⟨h.U.away (fun k e => Below.heap_setCell W ⟨wr.heap.size + 1, 0, none⟩ _ k fun e2 => h.A.2 (by have e2 : k = wr.heap.size + 1 := e2; exact e2 ▸ e)) (Nat.le_of_eq hz.symm), g1, ⟨h.A.1.set 0 _, h.A.2⟩, h.K.trans (k1 M2)⟩
end
end Go.Proofs.Ytchlemajppnehaa

/- Round. -/
namespace Go.Proofs.Ytchlemajppnehaa
open Go.RowKit Go.Shelf

def roundI (k n : Int) : Int := (k.tmod n + n).tmod n
theorem roundI_bounds (k n : Int) (h : 0 < n) : 0 ≤ roundI k n ∧ roundI k n < n := by
  unfold roundI
  have h1 : -n < k.tmod n := Int.lt_tmod_of_pos k h
  have h2 : 0 ≤ k.tmod n + n := by omega
  exact ⟨Int.tmod_nonneg _ h2, Int.tmod_lt_of_pos _ h⟩

set_option maxHeartbeats 400000 in
theorem round_any (k n : Int) (w : World) (h1 : 1 ≤ n) (h2 : n ≤ 1000000) (_hk1 : -9223372036854775808 ≤ k) (_hk2 : k ≤ 9223372036854775807) :
    Calls Try.prog 21 #[.int .i64 k, .int .i64 n] w fun e w' => e = .returned (.int .i64 (roundI k n)) ∧ w = w' := by
  have hn0 : (n == 0) = false := by rw [beq_eq_false_iff_ne]; omega
  go_enter Try.func21, Try.ntmps21
  go_wp2
  go_ret
  have hlo := Int.lt_tmod_of_pos k (show 0 < n by omega)
  have hhi := Int.tmod_lt_of_pos k (show 0 < n by omega)
  refine ⟨ret_int ?_, rfl⟩
  unfold roundI
  generalize k.tmod n = m at *
  rw [show wrap64 (m + n) = m + n by unfold wrap64; omega]
end Go.Proofs.Ytchlemajppnehaa

/- The law ListsWalk, walked. -/
set_option maxRecDepth 100000
namespace Go.Proofs.Ytchlemajppnehaa
open Go Go.RowKit Go.Shelf Go.Maps
attribute [local go_sem] Oper.semAt_some
theorem below_put {n D : Nat} {w W : World} (h : Below n w W) (hD : n ≤ D) (o : Obj) : Below n w (W.putObj D o) :=
  ⟨h.os, h.tape, h.output, by simp [World.putObj]; exact h.size, fun k hk => (World.putObj_heap_other (by omega)).trans (h.block k hk)⟩
abbrev tDp : TypeId := 33
abbrev tPr : TypeId := 38
set_option maxHeartbeats 32000000 in
theorem walk9_any (n at_ : Int) (v2 : Value) (L2 : List Int) (w : World) (hat : -9223372036854775808 ≤ at_ ∧ at_ ≤ 9223372036854775807) (hr2 : RK encZ (fun k => k < w.heap.size) v2 L2 w) (hb2 : ∀ z ∈ L2, -9223372036854775808 ≤ z ∧ z ≤ 9223372036854775807) (hl2 : L2.length ≤ maxLen) :
    Calls Try.prog 8 #[.int .i64 n, .int .i64 at_, v2] w fun e w' => e = .returned (.bool true) ∧ Below w.heap.size w w' := by
  unfold maxLen at hl2
  have q2 := qDue
  obtain ⟨ao, cap, rfl, hcap, _⟩ := hr2.form
  have hb0 : Below w.heap.size w (w.alloc (.cells #[.slice ao L2.length cap] 22)) := (Below.refl _ _).alloc (Nat.le_refl _) _
  have B5 := Blk.new w [.slice ao L2.length cap] 22
  have c5 := B5.cell (i := 0) rfl
  by_cases hn1 : n < 0
  · go_enter Try.func8, Try.ntmps8
    go_wp2_with fail
    refine (awake9_any _).mono ?_
    rintro e w1 ⟨rfl, hb⟩
    go_wp2
    go_ret
    exact ⟨rfl, below_trans hb0 hb⟩
  by_cases hn2 : 30 < n
  · go_enter Try.func8, Try.ntmps8
    go_wp2_with fail
    refine (awake9_any _).mono ?_
    rintro e w1 ⟨rfl, hb⟩
    go_wp2
    go_ret
    exact ⟨rfl, below_trans hb0 hb⟩
  by_cases hn3 : 30 < L2.length
  · have d0 : decide ((L2.length : Int) > 30) = true := by simp; omega
    go_enter Try.func8, Try.ntmps8
    go_wp2_with fail
    refine (awake9_any _).mono ?_
    rintro e w1 ⟨rfl, hb⟩
    go_wp2
    go_ret
    exact ⟨rfl, below_trans hb0 hb⟩
  obtain ⟨M, rfl⟩ : ∃ M : Nat, n = (M : Int) := ⟨n.toNat, by omega⟩
  have hM : M ≤ 30 := by omega
  obtain ⟨T, hT⟩ : ∃ T, L2.length = T := ⟨_, rfl⟩
  have HR2 := Lib.hid (hr2.below hb0)
  have HB2 := Lib.hid hb2
  have HT := Lib.hid hT
  rw [hT] at hcap hl2 hn3 B5 c5 hb0 HR2
  have d1 : decide ((M : Int) < 0) = false := by simp
  have d2 : decide ((M : Int) > 30) = false := by simp; omega
  have d3 : decide ((T : Int) > 30) = false := by simp; omega
  have hT30 : T ≤ 30 := by omega
  have HAT := Lib.hid (i64_of hat.1 hat.2)
  have HB0 := Lib.hid hb0
  have HB5 := Lib.hid B5
  rw [hT]
  clear hr2 hb2 hT hn1 hn2 hn3 hat hb0 B5
  refine (callsIn_wide (n := 20)).1 ?_
  refine callsIn_of_wp_marks Try.func8 rfl trivial ?_ rfl
  simp only [Try.ntmps8, List.size_toArray, List.length_cons, List.length_nil, Nat.reduceAdd, Nat.reduceSub, Array.replicate_succ, Array.replicate_zero, List.push_toArray, List.append_toArray, List.nil_append, List.cons_append]
  refine wpIn_wide.2 ?_
  go_wp2_with fail
  generalize w.alloc (.cells #[.slice ao T cap] 22) = w1 at *
  clear c5
  refine (t_dnew (Two.start w1) partN).mono ?_
  rintro e w2 ⟨X, rfl, h2, _⟩
  have B7 := Blk.new w2 [.pointer (some ⟨X, 0, none⟩)] tDp
  have c7 := B7.cell (i := 0) rfl
  have h3 : Two (DV X [] 0) Nobody w1 (fun b => b = w2.heap.size) (w2.alloc (.cells #[.pointer (some ⟨X, 0, none⟩)] tDp)) :=
    h2.turn partD partN ((Below.refl _ _).alloc h2.bel.size _) (fun k hk _ => Below.heap_alloc _ _ k hk) (fun k e => ⟨.inr (Nat.le_of_eq e.symm), by rw [e, World.size_alloc]; omega⟩)
  have H3 := Lib.hid h3
  have HB7 := Lib.hid B7
  clear h2 h3 B7
  generalize hb7 : w2.heap.size = b7 at *
  go_wp2_with fail
  clear c7
  generalize w2.alloc (.cells #[.pointer (some ⟨X, 0, none⟩)] tDp) = w3 at *
  clear hb7
  go_loopw [8, 9] (fun vw i wr => ∃ j : Nat, j ≤ M ∧ i = .int .i64 (j : Int) ∧ Hid (Blk wr b7 [.pointer (some ⟨X, 0, none⟩)] tDp) ∧ Hid (Two (DV X (Wl.E j) j) Nobody w1 (fun b => b = b7 ∨ vw.ownBlock = some b) wr) ∧ Hid (OwnK encQ 2 tPr w1.heap.size vw (Wl.want at_ j) wr)) (fun _ i _ => M + 1 - (intOf i).toNat)
  case atStart => exact ⟨0, by omega, rfl, HB7, Lib.hid (H3.out.fewer fun b e => e.elim id fun e => by cases e), Lib.hid (ownK_nil _ _ _ _ _)⟩
  case round =>
    clear H3 HB7
    obtain ⟨j, hj, rfl, HB7, HJ, HW⟩ := hrel
    have c7 := HB7.out.cell (i := 0) rfl
    by_cases hlt : j < M
    · have d4 : decide ((j : Int) < (M : Int)) = true := by simpa using hlt
      have ij : I64 (j : Int) := i64_small _ (by omega) (by omega)
      have hq : ((j / 2 : Nat) : Int) = (j : Int) / 2 := by omega
      have ih : I64 ((j : Int) / 2) := i64_small _ (by omega) (by omega)
      have hEf := Wl.E_filter j
      have hyes := Wl.want_yes (at_ := at_) (n := j)
      have hno := Wl.want_no (at_ := at_) (n := j)
      have hwl := Wl.want_len at_ j
      have hek : Wl.ek j = ((j : Int), (j : Int) / 2) := by unfold Wl.ek; rw [hq]
      rw [hq] at hEf hyes hno
      go_wp2_with fail
      refine (t_set HJ.out partN ij ih (by omega)).mono ?_
      rintro e w4 ⟨rfl, h4, K4⟩
      rw [hEf] at h4
      have H4 := Lib.hid h4
      have HB4 := Lib.hid (K4.blk HB7.out (.inl rfl))
      have HW4 := Lib.hid (K4.own HW.out fun b e => .inr e)
      clear h4 K4 HJ HB7 HW c7 hEf hq
      by_cases hle : (j : Int) / 2 ≤ at_
      · have d5 : decide ((j : Int) / 2 ≤ at_) = true := by simpa using hle
        have hw := hyes hle
        rw [hek] at hw
        have HY := Lib.hid hw
        clear hyes hno hw hek
        generalize hz : (j : Int) / 2 = z at *
        go_wp2_with (at_builtin; go_loud (
          refine wpList_push encQ_len (by decide) encQ_one Try.underlying35 infoQ rfl (by decide) (by first | rfl | kernel_rfl) _ _ rfl u8 rfl HW4.out [((j : Int), z)] (by simp) 1 rfl _ rfl rfl H4.out partD partN (fun b e => .inr e) (by omega) ?_
          intro g cp w8 ho1 T8 K8 N8
          have hl8 : (Wl.want at_ (j + 1)).length = (Wl.want at_ j).length + 1 := by rw [HY.out, List.length_append]; rfl
          rw [← HY.out] at ho1
          have HB8 := Lib.hid (HB4.out.kept (K8 b7 HB4.out.lt fun e => by
            obtain ⟨c, hc⟩ := own_blk' HW4.out e
            exact HB4.out.ne hc (by decide) rfl))
          have OA8 := Lib.hid ho1
          have HT8 := Lib.hid (T8.fewer (x' := fun b => b = b7 ∨ b = g) fun b e => e.elim (fun e => .inl (.inl e)) .inr)
          clear ho1 T8 K8 N8 H4 HW4 HB4))
        exact ⟨⟨j + 1, by omega, by go_num, HB8, Lib.hid (HT8.out.fewer fun b e => e.imp id fun e => by cases e; rfl), OA8⟩, by simp [intOf]; omega⟩
      · have d5 : decide ((j : Int) / 2 ≤ at_) = false := by simpa using hle
        have hw := hno (by omega)
        have HY := Lib.hid hw
        clear hyes hno hw hek
        generalize hz : (j : Int) / 2 = z at *
        go_wp2
        go_roundw
        case rel => exact ⟨j + 1, by omega, by go_num, HB4, H4, by rw [HY.out]; exact HW4⟩
        case measure => simp [intOf]; omega
    · obtain rfl : j = M := by omega
      have d4 : decide ((j : Int) < (j : Int)) = false := by simp
      have qn := eql_nilU
      have c7b := ((HB7.out.alloc (.cells #[.slice none 0 0] tSq)).alloc (.cells #[.int .i64 0] 3)).cell (i := 0) rfl
      go_wp2_with (go_at_call 25; refine (dupto_any _ _ _).mono ?_; rintro e w' ⟨rfl, rfl⟩)
      obtain ⟨s1, s2, hA, _, h1s, _, _⟩ := HJ.out.ex
      have hbel := HJ.out.bel
      have hz1 := hbel.size
      have hB5 := HB5.out.kept (hbel.block _ HB5.out.lt)
      have hn5 : ¬ s1 w.heap.size := fun e => by have := (h1s _ e).1; have := HB5.out.lt; omega
      have hn7 : ¬ s1 b7 := fun e => (h1s _ e).2 (.inl rfl)
      have hfb := hA.fb
      obtain ⟨n0, hn0⟩ : ∃ n0, wr.heap.size = n0 := ⟨_, rfl⟩
      obtain ⟨W1, hW1⟩ : ∃ W1, (wr.alloc (.cells #[.slice none 0 0] tSq)).alloc (.cells #[.int .i64 0] 3) = W1 := ⟨_, rfl⟩
      obtain ⟨W2, hW2⟩ : ∃ W2, (W1.alloc (.cells #[.pointer (some ⟨X, 0, none⟩)] tDp)).alloc (.cells #[.int .i64 at_] 3) = W2 := ⟨_, rfl⟩
      have z1 : W1.heap.size = wr.heap.size + 2 := by rw [← hW1, World.size_alloc, World.size_alloc]
      have z2 : W2.heap.size = wr.heap.size + 4 := by rw [← hW2, World.size_alloc, World.size_alloc, z1]
      have BW : Below wr.heap.size wr W2 := by rw [← hW2, ← hW1]; exact ((((Below.refl _ _).alloc (Nat.le_refl _) _).alloc (by simp) _).alloc (by rw [World.size_alloc, World.size_alloc]; omega) _).alloc (by rw [World.size_alloc, World.size_alloc, World.size_alloc]; omega) _
      have k0 : Blk W2 wr.heap.size [.slice none 0 0] tSq := by rw [← hW2, ← hW1]; exact (((Blk.new wr _ _).alloc _).alloc _).alloc _
      have k1 : Blk W2 (wr.heap.size + 1) [.int .i64 0] 3 := by
        rw [← hW2, ← hW1]
        have := Blk.new (wr.alloc (.cells #[.slice none 0 0] tSq)) [.int .i64 0] 3
        rw [World.size_alloc] at this
        exact (this.alloc _).alloc _
      have k2 : Blk W2 (wr.heap.size + 1 + 1) [.pointer (some ⟨X, 0, none⟩)] tDp ∧ Blk W2 (wr.heap.size + 1 + 1 + 1) [.int .i64 at_] 3 := by
        rw [← hW2, show wr.heap.size + 1 + 1 = W1.heap.size by rw [z1]]
        have := Blk.new (W1.alloc (.cells #[.pointer (some ⟨X, 0, none⟩)] tDp)) [.int .i64 at_] 3
        rw [World.size_alloc] at this
        exact ⟨(Blk.new _ _ _).alloc _, this⟩
      rw [show ((((wr.alloc (.cells #[.slice none 0 0] tSq)).alloc (.cells #[.int .i64 0] 3)).alloc (.cells #[.pointer (some ⟨X, 0, none⟩)] tDp)).alloc (.cells #[.int .i64 at_] 3)) = W2 by rw [hW1]; exact hW2]
      have hA2 : DV X (Wl.E j) j s1 W2 := hA.below BW
      have G0 : Gath encQ 2 38 tSq s1 wr (wr.heap.size + 2) wr.heap.size [] s1 W2 := ⟨⟨_, k0, ownK_nil _ _ _ _ _, fun g e => by cases e⟩, ⟨fun e => by have := hfb _ e; omega, Nat.le_refl _, by omega⟩, Trn.of_below BW, fun b e => .inl e⟩
      have A0 : Aside (wr.heap.size + 1) [.int .i64 0] 3 s1 W2 := ⟨k1, fun e => by have := hfb _ e; omega⟩
      have HB5 := Lib.hid hB5
      have HN5 := Lib.hid hn5
      have HN7 := Lib.hid hn7
      have HBEL := Lib.hid hbel
      have HS1 := Lib.hid h1s
      have HZ2 := Lib.hid z2
      have HN0 := Lib.hid hn0
      clear hB5 hn5 hn7 hbel h1s hW1 hW2 z1 k0 k1 c7 c7b hA hfb qn hz1
      rw [hn0] at z2 k2 ⊢
      have hseq : SeqZ Fence.wide (20 - 1) Try.prog 51 #[.pointer (some ⟨n0 + 1 + 1, 0, none⟩), .pointer (some ⟨n0 + 1 + 1 + 1, 0, none⟩)] encP (fun W => Blk W (n0 + 1 + 1) [.pointer (some ⟨X, 0, none⟩)] 33 ∧ Blk W (n0 + 1 + 1 + 1) [.int .i64 at_] 3 ∧ DV X (Wl.E j) j s1 W) (fun (s : Ws) W => ∃ E, DV X E s.2 s.1 W) (fun (t : Nat × Nat × Nat × Option Nat) R s W => UW X at_ t.1 t.2.1 t.2.2.1 t.2.2.2 R s W ∧ s.2 < 80000) MvW (Du.uptoE at_ (Wl.E j) []) (s1, j) :=
        fun l C Cx W hz hV hC hCx h0 hY => duptoW_seq (by omega) (by omega) HAT.out hz.2.2 hz.1 hz.2.1 C Cx hC hCx h0 (fun xb vb pre x R s W1 hT hU hs hc => hY (xb, W.heap.size, l, vb) pre x R s W1 hT ⟨hU, hs⟩ hc)
      refine (wpIn_wide (n := 20)).1 ?_
      refine wpIn_rangeFunc_Z ?h1 ?h2 (gf := 51) (lb := #[.pointer (some ⟨n0 + 1 + 1, 0, none⟩), .pointer (some ⟨n0 + 1 + 1 + 1, 0, none⟩)]) ?h3 ?h4 ?h5
        hseq ?h6 ?h7 ?h8 ?h9 ?h10 ?h11 ?h12
        (fun pre s W => Gath encQ 2 38 tSq s1 wr (n0 + 2) n0 pre s.1 W ∧ Aside (n0 + 1) [.int .i64 (pre.length : Int)] 3 s.1 W ∧ s.2 ≤ j + 2 * pre.length)
        (fun _ _ _ _ => False)
        ?h13 ?h14 ?h15 ?h16 ⟨_, hA2⟩ ?h17 (fun x => { tmps := #[.int .i64 (j : Int), .int .i64 at_, .slice ao T cap, undef, undef, .pointer (some ⟨w.heap.size, 0, none⟩), .bool false, .pointer (some ⟨b7, 0, none⟩), u8, .int .i64 (j : Int), .pointer (some ⟨n0, 0, none⟩), .pointer (some ⟨n0 + 1, 0, none⟩), .func (.func 51) #[] #[.pointer (some ⟨n0 + 1 + 1, 0, none⟩), .pointer (some ⟨n0 + 1 + 1 + 1, 0, none⟩)], .int .i64 x.1, .int .i64 x.2, .int .i64 (j : Int), .bool false, .bool false, .int .i64 (j : Int), .bool false, .bool false, .bool false, .slice ao T cap, .int .i64 (T : Int), .bool false, .bool false, undef, .pointer (some ⟨X, 0, none⟩), .pointer (some ⟨X, 0, none⟩), .bool false, .int .i64 (j : Int), .int .i64 (j : Int), .bool false, u33, u34, u35, u36, u37, u38, u39, u40, u41, u42, u43, u44, u45, u46, u47, u48, u49, u50, .pointer (some ⟨X, 0, none⟩), .int .i64 at_, .func (.func 51) #[] #[.pointer (some ⟨n0 + 1 + 1, 0, none⟩), .pointer (some ⟨n0 + 1 + 1 + 1, 0, none⟩)], .func (.func 51) #[] #[.pointer (some ⟨n0 + 1 + 1, 0, none⟩), .pointer (some ⟨n0 + 1 + 1 + 1, 0, none⟩)], .bool false, .func (.func 51) #[] #[.pointer (some ⟨n0 + 1 + 1, 0, none⟩), .pointer (some ⟨n0 + 1 + 1 + 1, 0, none⟩)], .int .i64 x.1, .int .i64 x.2, undef, undef, undef, undef, undef, undef, undef, undef, undef, undef, undef, undef, undef, undef, undef, undef, undef, undef, undef, undef, undef, undef, undef, undef, undef, undef, undef, undef, undef], defers := [] }) ?assign ?body ?done ?stop
      case h1 => rfl
      case h2 => omega
      case h3 => rfl
      case h4 => trivial
      case h5 => exact enters_of Try.func51 (by kernel_rfl) rfl
      case h6 => exact fun W o h => ⟨h.1.alloc o, h.2.1.alloc o, h.2.2.below ((Below.refl _ _).alloc (Nat.le_refl _) _)⟩
      case h7 => exact ⟨k2.1, k2.2, hA2⟩
      case h8 => exact fun s W o ⟨E, h⟩ => ⟨E, h.below ((Below.refl _ _).alloc (Nat.le_refl _) _)⟩
      case h9 => exact fun s W l o o' ⟨E, h⟩ hl hk => ⟨E, DV.book _ _ _ _ _ h hl hk⟩
      case h10 => exact fun t R s W l o o' h hl hk => ⟨UW.book _ _ _ _ _ h.1 hl hk, h.2⟩
      case h11 => exact fun s W s' W' hm k o ho hk => hm.1.1.book k o ho hk
      case h12 => exact fun _ => rfl
      case h13 => exact fun s pre X Y row h hg hr => ⟨Gath.own (by have := BW.size; omega) pre X Y row h.1 hg hr, Aside.own pre X Y row h.2.1 hg hr, h.2.2⟩
      case h14 => exact fun c s pre X Y row h hg hr => h
      case h15 => exact fun pre s s' X Y h hm => ⟨h.1.move hm.1, h.2.1.move hm.1, by rw [hm.2]; exact h.2.2⟩
      case h16 => exact fun c pre s s' X Y h hm => h
      case h17 => exact ⟨hn0 ▸ G0, hn0 ▸ A0, by simp⟩
      case assign =>
        intro l x W K hK
        unfold encP
        clear hseq hA2 G0 A0 BW k2 z2 d1 d2 d3 d4
        gi_wp2
        exact hK
      case body =>
        rintro l t pre x R s W hT ⟨hU, hs2⟩ ⟨hG, hA, hNB⟩
        obtain ⟨v, hv, ho, hvs⟩ := hG.ex
        obtain ⟨aq, cq, rfl, _⟩ := ownK_form ho
        rw [Wl.upto] at hT
        have hwl := Wl.want_len at_ j
        have hPl : pre.length + 1 + R.length ≤ j := by
          have := congrArg List.length hT
          rw [List.length_append, List.length_cons] at this
          omega
        obtain ⟨k, hk⟩ : ∃ k, pre.length = k := ⟨_, rfl⟩
        have cq0 := hv.cell (i := 0) rfl
        have fq0 := hv.frozen 0
        rw [hk] at cq0 hv ho hvs hPl hNB hA
        have hUf := hU.fb
        have HU := Lib.hid hU
        have HG := Lib.hid hG
        have HA := Lib.hid hA
        have HV := Lib.hid hv
        have HO := Lib.hid ho
        have HVS := Lib.hid hvs
        have HUF := Lib.hid hUf
        have HNB := Lib.hid hNB
        have hM2 : ∀ o, n0 + 2 ≤ (W.alloc o).heap.size := fun o => by have := hA.1.lt; rw [World.size_alloc]; omega
        have hk9 : k < 100 := by omega
        have HKL := Lib.hid hk
        have HRL : Hid (R.length < 90000) := Lib.hid (by omega)
        have HN8 : Hid (s.2 < 80000) := Lib.hid hs2
        have HN9 : Hid (s.2 + 1 < 80000) := Lib.hid (by omega)
        have HN10 : Hid (s.2 + 1 + 1 < 80000) := Lib.hid (by omega)
        have HK1 : Hid (I64 (100 + (k : Int))) := Lib.hid (i64_small _ (by omega) (by omega))
        have HK0 : Hid (I64 0) := Lib.hid (i64_small _ (by decide) (by decide))
        have e100 : IntKind.i64.wrap (100 + (k : Int)) = 100 + (k : Int) := IntWalk.i64_in _ (by omega)
        have ek1 : IntKind.i64.wrap ((k : Int) + 1) = (k : Int) + 1 := IntWalk.i64_in _ (by omega)
        have hsame : ∀ W3 b, Trn s1 wr W3 → b < w.heap.size → W3.heap[b]? = w1.heap[b]? := fun W3 b ht hb => by
          have z0 := HB0.out.size
          have z1 := HBEL.out.size
          exact (ht.block b (by omega) fun e => by have := (HS1.out _ e).1; omega).trans (HBEL.out.block b (by omega))
        have HSM := Lib.hid hsame
        clear hU hG hA hv ho hvs hUf hk hseq hA2 G0 A0 BW k2 hT hs2 hNB hPl hwl hsame z2
        by_cases hlt : k < T
        all_goals gi_wp2_with (gi_at_builtin; go_loud (
          refine wpListIn_apK encQ_len (by decide) encQ_one (x := fun _ => True) Try.underlying35 infoQ rfl (by decide) rfl _ _ rfl rfl (n0 + 2) (.slice aq k cq) pre rfl (ownK_alloc HO.out _) (.slice (some ⟨W.heap.size, 0, none⟩) 1 1) [x] (by simp) rfl (RK.oneN (enc := encQ) x 38 _ _ (by simp) _ rfl) (by rw [HKL.out]; simp; omega) (hM2 _) ?_
          intro g cp w9 ho1 hg1 hl1
          rw [List.length_append, List.length_singleton, HKL.out] at ho1
          rw [List.length_append, List.length_singleton, HKL.out]
          obtain ⟨G3, K3, S3, Z3, L3, b1, b3⟩ := Gath.push (M2 := W2.heap.size) HG.out HV.out HO.out HVS.out (by decide) HUF.out ho1 hg1 hl1 rfl
          have d5 := b1.cell (i := 0) rfl
          have d6 := b1.frozen 0
          have d7 := b3.cell (i := 0) rfl
          have hA3 := HA.out.1.kept (L3 (n0 + 1) (by omega) HA.out.1.lt (by omega))
          have HS0 : Sw X at_ t.1 t.2.1 t.2.2.1 t.2.2.2 R s1 wr (pre ++ [x]) (k : Int) W2.heap.size W s (w9.setCell ⟨n0, 0, none⟩ (.slice (some ⟨g, 0, none⟩) (k + 1) cp)) := ⟨HU.out.away S3 Z3, by rw [HN0.out]; exact G3, by rw [HN0.out]; exact ⟨hA3, HA.out.2⟩, K3⟩
          have ci := hA3.cell (i := 0) rfl
          have cif := hA3.frozen 0
          have c5 := (HS0.old HB5.out HN5.out).cell (i := 0) rfl
          have HS := Lib.hid HS0
          clear G3 K3 S3 Z3 L3 b1 b3 hA3 HS0 cq0 fq0 ho1 hg1 hl1
          ))
        · have hsl : k < L2.length := by rw [HT.out]; exact hlt
          generalize w9.setCell ⟨n0, 0, none⟩ (.slice (some ⟨g, 0, none⟩) (k + 1) cp) = W3 at *
          obtain ⟨b, off, rfl, cz⟩ := rk_cell (HR2.out.same (W' := W3) fun b hb => HSM.out W3 b HS.out.G.tr hb) hsl
          have hzb := HB2.out _ (List.getElem_mem hsl)
          generalize L2[k] = z at cz hzb
          have hkb := roundI_bounds z 40 (by decide)
          have hrr := fun w => round_any z 40 w (by decide) (by decide) hzb.1 hzb.2
          generalize roundI z 40 = kk at hkb hrr
          have HRR := Lib.hid hrr
          have HKR := Lib.hid (i64_small kk (by omega) (by omega))
          have K7 := Lib.hid (show W3.drew.cell? ⟨b7, 0, none⟩ = some (.pointer (some ⟨X, 0, none⟩)) from (HS.out.old HB7.out HN7.out).cell (i := 0) rfl)
          have K5 := Lib.hid (show W3.drew.cell? ⟨w.heap.size, 0, none⟩ = some (.slice (some ⟨b, off, none⟩) T cap) from c5)
          have KI := Lib.hid (show W3.drew.cell? ⟨n0 + 1, 0, none⟩ = some (.int .i64 (k : Int)) from ci)
          have KZ := Lib.hid (show W3.drew.cell? ⟨b, off + k, none⟩ = some (.int .i64 z) from cz)
          clear hrr hkb hzb cz ci cif c5 d5 d6 d7
          refine wpIn_region_slotsTL (by kernel_rfl) (by simp) slotLe (slotPhi ((fun v _ => v = ?g69) :: (fun v _ => v = ?g70) :: (fun v _ => v = ?g71) :: (fun v _ => v = ?g72) :: (fun v _ => v = ?g73) :: (fun v _ => v = ?g74) :: [])) slotLe_refl slotLe_trans (slotPhi_stable ?stb) (by kernel_rfl) (by kernel_rfl) (by kernel_rfl) (by kernel_rfl) (by kernel_rfl) ?steps ?fin
          case stb =>
            refine ⟨by intro _ _ _ _ h; exact h, ?_⟩
            refine ⟨by intro _ _ _ _ h; exact h, ?_⟩
            refine ⟨by intro _ _ _ _ h; exact h, ?_⟩
            refine ⟨by intro _ _ _ _ h; exact h, ?_⟩
            refine ⟨by intro _ _ _ _ h; exact h, ?_⟩
            refine ⟨by intro _ _ _ _ h; exact h, ?_⟩
            exact trivial
          case steps =>
            refine ⟨?_, ?_⟩
            · intro a W K N hK
              have e7 : a.tmps[7]?.getD undef = .pointer (some ⟨b7, 0, none⟩) := N.was' 7 _ (by kernel_rfl) rfl
              rw [if_pos (wanted_no rfl)]
              have z1 := keep_cell N.le K7.out
              go_simp
              refine hK _ _ (slotLe_refl _) ?_
              exact rfl
            refine ⟨?_, ?_⟩
            · intro a W K N hK
              have e5 : a.tmps[5]?.getD undef = .pointer (some ⟨w.heap.size, 0, none⟩) := N.was' 5 _ (by kernel_rfl) rfl
              rw [if_pos (wanted_no rfl)]
              have z1 := keep_cell N.le K5.out
              go_simp
              refine hK _ _ (slotLe_refl _) ?_
              exact rfl
            refine ⟨?_, ?_⟩
            · intro a W K N hK
              have e11 : a.tmps[11]?.getD undef = .pointer (some ⟨n0 + 1, 0, none⟩) := N.was' 11 _ (by kernel_rfl) rfl
              rw [if_pos (wanted_no rfl)]
              have z1 := keep_cell N.le KI.out
              go_simp
              refine hK _ _ (slotLe_refl _) ?_
              exact rfl
            refine ⟨?_, ?_⟩
            · intro a W K N hK
              have e70 : a.tmps[70]?.getD undef = _ := N.dep' 1 70 (by kernel_rfl)
              have e71 : a.tmps[71]?.getD undef = _ := N.dep' 2 71 (by kernel_rfl)
              rw [if_pos (wanted_no rfl)]
              go_simp
              refine hK _ _ (slotLe_refl _) ?_
              exact rfl
            refine ⟨?_, ?_⟩
            · intro a W K N hK
              have e72 : a.tmps[72]?.getD undef = _ := N.dep' 3 72 (by kernel_rfl)
              rw [if_pos (wanted_no rfl)]
              have z1 := keep_cell N.le KZ.out
              go_simp
              refine hK _ _ (slotLe_refl _) ?_
              exact rfl
            refine ⟨?_, ?_⟩
            · intro a W K N hK
              have e73 : a.tmps[73]?.getD undef = _ := N.dep' 4 73 (by kernel_rfl)
              rw [if_pos (wanted_no rfl)]
              go_simp
              go_at_call 21
              refine (HRR.out _).mono ?_
              rintro e wx ⟨rfl, rfl⟩
              go_simp
              refine hK _ _ (slotLe_refl _) ?_
              exact rfl
            exact trivial
          case fin =>
            intro V hV
            simp only [FinAll, slotPhi, List.dropLast, List.getLast_cons_cons, List.getLast_singleton, List.getD_cons_zero, List.getD_cons_succ, forall_eq, Act.put, List.setIfInBounds_toArray, List.set_cons_zero, List.set_cons_succ]
            have bV : Below W3.heap.size W3 V := (show Below W3.heap.size W3 W3.drew from ⟨rfl, rfl, rfl, Nat.le_refl _, fun _ _ => rfl⟩).trans hV
            have S4 := HS.out.below bV
            have HD := uw_drop (f := grow s.1 W3 V) (N := s.2) S4.U HN8.out HRL.out HKR.out
            have HS4 := Lib.hid S4
            clear hV bV S4
            gi_wp2_with fail
            refine ⟨trivial, ?_⟩
            refine (CallsIn.inRound l (callsIn_wide.2 HD)).mono ?_
            rintro e W5 ⟨⟨bd, rfl⟩, t5, u5⟩
            have S5 := HS4.out.move t5 u5
            have c7 := (S5.old HB7.out HN7.out).cell (i := 0) rfl
            have ci := S5.A.1.cell (i := 0) rfl
            have HST := uw_set (f := grow (grow s.1 W3 V) V W5) (N := s.2 + 1) S5.U HN9.out HRL.out (k := 100 + (k : Int)) (a := 0) HK1.out HK0.out
            have HS5 := Lib.hid S5
            clear HD HS4 t5 u5 S5
            rw [hn0] at ci
            gi_wp2_with fail
            refine ⟨trivial, ?_⟩
            refine (CallsIn.inRound l (callsIn_wide.2 HST)).mono ?_
            rintro e W6 ⟨rfl, t6, u6⟩
            have S6 := HS5.out.move t6 u6
            have ci := S6.A.1.cell (i := 0) rfl
            have cf := S6.A.1.frozen 0
            rw [hn0] at ci cf
            have S7 := S6.count ((k : Int) + 1)
            rw [hn0] at S7
            have HS7 := Lib.hid S7
            clear HST HS5 t6 u6 S6 S7
            gi_wp2_with fail
            exact ⟨HS7.out.K, _, ⟨HS7.out.U, HN10.out⟩, hn0 ▸ HS7.out.G, by rw [List.length_append, List.length_singleton, HKL.out]; exact hn0 ▸ HS7.out.A, by rw [List.length_append, List.length_singleton, HKL.out]; have := HNB.out; show s.2 + 1 + 1 ≤ _; omega⟩
        · have S7 := HS.out.count ((k : Int) + 1)
          rw [HN0.out] at S7
          exact ⟨S7.K, s, ⟨S7.U, HN8.out⟩, HN0.out ▸ S7.G, by rw [List.length_append, List.length_singleton, HKL.out]; exact HN0.out ▸ S7.A, by rw [List.length_append, List.length_singleton, HKL.out]; have := HNB.out; omega⟩
      case done =>
        rintro D s W hD hV ⟨hG, hA, hNB⟩ hK
        obtain ⟨v, hv, ho, hvs⟩ := hG.ex
        rw [Wl.upto] at hG ho
        have hwl := Wl.want_len at_ j
        have cq0 := hv.cell (i := 0) rfl
        have r1 := RK.own (x := fun _ => True) ho fun b e => trivial
        have hnw : ∀ b, u8.ownBlock = some b → ¬ s1 b := fun b e e2 => (HS1.out b e2).2 (.inr e)
        have r2 := RK.own (x := fun _ => True) (own_kept HW.out fun b e => by
          obtain ⟨c, hc⟩ := own_blk' HW.out e
          exact hG.tr.block b hc.lt (hnw b e)) fun b e => trivial
        have SM := pairs_same r1 r2 (by omega)
        have BF : Below w.heap.size w W := (HB0.out.trans (HBEL.out.mono HB0.out.size)).trans (hG.tr.below (fun k e => Nat.le_trans HB0.out.size (HS1.out k e).1) (Nat.le_trans HB0.out.size HBEL.out.size))
        have hDl : D < W.heap.size := (Array.getElem?_eq_some_iff.1 hK).1
        have hD2 : w.heap.size ≤ D := by
          have z0 := HB0.out.size
          have z1 := HBEL.out.size
          have z3 := BW.size
          omega
        have HD2 := Lib.hid hD2
        have HBF := Lib.hid BF
        have HK := Lib.hid hK
        have HDL := Lib.hid hDl
        have HSM := Lib.hid SM
        clear hG hA hNB hV hv ho hvs r1 r2 SM BF hDl hD2 hK hseq hA2 G0 A0 BW k2 hnw hwl
        go_wp2_with fail
        refine HSM.out.mono ?_
        rintro e W4 ⟨rfl, nd, rfl⟩
        go_wp2_with fail
        refine (awake9_any _).mono ?_
        rintro e W5 ⟨rfl, b5⟩
        go_wp2
        have hz : (W.drewN nd).heap.size = W.heap.size := rfl
        have hK5 : W5.heap[D]? = some (.deferred (some [])) := (b5.block D (by rw [hz]; exact HDL.out)).trans HK.out
        refine ⟨by simp, .inl ⟨_, _, rfl, run_takeDeferred hK5, ?_⟩⟩
        refine ⟨.bool true, by simp [results, Try.results8, go_sem], ?_⟩
        refine ⟨rfl, ?_⟩
        have b6 : Below w.heap.size w W5 := (HBF.out.trans (show Below w.heap.size W (W.drewN nd) from ⟨rfl, rfl, rfl, Nat.le_refl _, fun _ _ => rfl⟩)).trans (b5.mono (by rw [hz]; exact HBF.out.size))
        exact below_put b6 HD2.out _
      case stop =>
        exact fun D c pre s W hD hpre hV h _ => h.elim
end Go.Proofs.Ytchlemajppnehaa
