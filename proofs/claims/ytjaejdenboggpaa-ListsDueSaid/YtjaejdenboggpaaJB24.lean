/- 4 texts put together: Ordb, Drunb, Drunc, Dsort. -/
import Derived.Test.YtjaejdenboggpaaJB15
import Derived.Test.YtjaejdenboggpaaJB17
import Derived.Test.YtjaejdenboggpaaJB19
import Derived.Test.YtjaejdenboggpaaJB23
/- order of the law's own: who would go first, as far as asked. -/
set_option maxRecDepth 100000
namespace Go.Proofs.Ytjaejdenboggpaa
open Go Go.RowKit Go.Shelf Go.Maps
attribute [local go_sem] Oper.semAt_some
theorem eql_nilO (W : World) (f B : Nat) : (binOp .eql 79 (.func (.func f) #[] #[.pointer (some ⟨B, 0, none⟩)]) .nilFunc).run Try.prog W = .ok (.bool false) W := by
  kernel_rfl
/-- A list as far as asked: below 1: all. -/
def cutAt {α : Type} (mo : Int) (T : List α) : List α := if 1 ≤ mo then T.take mo.toNat else T
section
variable {X : Nat} {most : Int} {P Q : List Int} {N : Nat} {f : Nat → Prop} {w : World}
/-- What order makes. -/
def OrderRet (X : Nat) (most : Int) (P Q : List Int) (N : Nat) (f : Nat → Prop) (w : World) (mo : Int) (e : Ending) (w' : World) : Prop :=
  ∃ v s, e = .returned v ∧ OwnK encZ 1 3 w.heap.size v (cutAt mo (P ++ Q)) w' ∧ LV X most P Q N s w' ∧ Trn f w w' ∧ (∀ k, s k → grow f w w' k) ∧ ∀ g, v.ownBlock = some g → ¬ s g
abbrev tSl : TypeId := 27
set_option maxHeartbeats 16000000 in
theorem order_any (h : LV X most P Q N f w) (hN : N < 80000) (mo : Int) :
    Calls Try.prog 20 #[.pointer (some ⟨X, 0, none⟩), .int .i64 mo] w (OrderRet X most P Q N f w mo) := by
  refine (callsIn_wide (n := 20)).1 ?_
  refine callsIn_of_wp_marks Try.func20 rfl trivial ?_ rfl
  simp only [Try.ntmps20, List.size_toArray, List.length_cons, List.length_nil, Nat.reduceAdd, Nat.reduceSub, Array.replicate_succ, Array.replicate_zero, List.push_toArray, List.append_toArray, List.nil_append, List.cons_append]
  refine wpIn_wide.2 ?_
  have hnil := eql_nilO
  have HLEN := Lib.hid (show (P ++ Q).length < 100000 by have := h.len_le; rw [List.length_append]; omega)
  go_wp2_with (go_at_call 47; refine (lorder_any _ _).mono ?_; rintro e w' ⟨rfl, rfl⟩)
  have hfb := h.fb
  obtain ⟨n0, hn0⟩ : ∃ n0, w.heap.size = n0 := ⟨_, rfl⟩
  obtain ⟨W1, hW1⟩ : ∃ W1, (w.alloc (.cells #[.int .i64 mo] 3)).alloc (.cells #[.slice none 0 0] tSl) = W1 := ⟨_, rfl⟩
  obtain ⟨W2, hW2⟩ : ∃ W2, W1.alloc (.cells #[.pointer (some ⟨X, 0, none⟩)] 24) = W2 := ⟨_, rfl⟩
  have s1 : W1.heap.size = w.heap.size + 2 := by rw [← hW1, World.size_alloc, World.size_alloc]
  have s2 : W2.heap.size = w.heap.size + 3 := by rw [← hW2, World.size_alloc, s1]
  have B2 : Below w.heap.size w W2 := by rw [← hW2, ← hW1]; exact (((Below.refl _ _).alloc (Nat.le_refl _) _).alloc (by simp) _).alloc (by rw [World.size_alloc, World.size_alloc]; omega) _
  have k0 : Blk W2 w.heap.size [.int .i64 mo] 3 := by rw [← hW2, ← hW1]; exact ((Blk.new w _ _).alloc _).alloc _
  have k1 : Blk W2 (w.heap.size + 1) [.slice none 0 0] tSl := by
    rw [← hW2, ← hW1]
    have := Blk.new (w.alloc (.cells #[.int .i64 mo] 3)) [.slice none 0 0] tSl
    rw [World.size_alloc] at this
    exact this.alloc _
  have k2 : Blk W2 (w.heap.size + 1 + 1) [.pointer (some ⟨X, 0, none⟩)] 24 := by rw [← hW2, show w.heap.size + 1 + 1 = W1.heap.size by rw [s1]]; exact Blk.new _ _ _
  rw [hW1, hW2]
  have hV2 : LV X most P Q N f W2 := h.below B2
  have G0 : Gath encZ 1 3 tSl f w (w.heap.size + 2) (w.heap.size + 1) [] f W2 := ⟨⟨_, k1, ownK_nil _ _ _ _ _, fun g e => by cases e⟩, ⟨fun e => by have := hfb _ e; omega, by omega, by omega⟩, Trn.of_below B2, fun b e => .inl e⟩
  have A0 : Aside w.heap.size [.int .i64 mo] 3 f W2 := ⟨k0, fun e => by have := hfb _ e; omega⟩
  clear hW1 hW2 s1 k0 k1 h hfb hnil
  have HN0 := Lib.hid hn0
  rw [hn0] at s2 B2 k2 G0 A0 ⊢
  have HS2 := Lib.hid s2
  clear hn0 s2
  have hseq : SeqZ Fence.wide (20 - 1) Try.prog 68 #[.pointer (some ⟨n0 + 1 + 1, 0, none⟩)] encK (fun W => Blk W (n0 + 1 + 1) [.pointer (some ⟨X, 0, none⟩)] 24) (LV X most P Q N) (UL X most P Q N) MvL (P ++ Q) f :=
    fun l C Cx W hz hV hC hCx h0 hY => lorder_seq (by omega) hN hV hz C Cx hC hCx h0 hY
  refine (wpIn_wide (n := 20)).1 ?_
  refine wpIn_rangeFunc_Z ?h1 ?h2 (gf := 68) (lb := #[.pointer (some ⟨n0 + 1 + 1, 0, none⟩)]) ?h3 ?h4 ?h5
    hseq ?h6 ?h7 ?h8 ?h9 ?h10 ?h11 ?h12
    (fun pre s W => Gath encZ 1 3 tSl f w (n0 + 2) (n0 + 1) pre s W ∧ Aside n0 [.int .i64 mo] 3 s W ∧ (mo < 1 ∨ (pre.length : Int) < mo))
    (fun c pre s W => c = .exit 0 ∧ Gath encZ 1 3 tSl f w (n0 + 2) (n0 + 1) pre s W ∧ (pre.length : Int) = mo ∧ 1 ≤ pre.length)
    ?h13 ?h14 ?h15 ?h16 hV2 ?h17 (fun x => { tmps := #[.pointer (some ⟨X, 0, none⟩), .int .i64 mo, undef, .pointer (some ⟨n0, 0, none⟩), .slice none 0 0, .pointer (some ⟨n0 + 1, 0, none⟩), .func (.func 68) #[] #[.pointer (some ⟨n0 + 1 + 1, 0, none⟩)], .int .i64 x, .pointer (some ⟨X, 0, none⟩), .func (.func 68) #[] #[.pointer (some ⟨n0 + 1 + 1, 0, none⟩)], .func (.func 68) #[] #[.pointer (some ⟨n0 + 1 + 1, 0, none⟩)], .bool false, .func (.func 68) #[] #[.pointer (some ⟨n0 + 1 + 1, 0, none⟩)], .int .i64 x, undef, undef, undef, undef, undef, undef, undef, undef, undef], defers := [] }) ?assign ?body ?done ?stop
  case h1 => rfl
  case h2 => omega
  case h3 => rfl
  case h4 => trivial
  case h5 => exact enters_of Try.func68 (by kernel_rfl) rfl
  case h6 => exact fun W o h => h.alloc o
  case h7 => exact k2
  case h8 => exact fun s W o h => h.below ((Below.refl _ _).alloc (Nat.le_refl _) _)
  case h9 => exact LV.book
  case h10 => exact fun t R => UL.book
  case h11 => exact fun s W s' W' hm k o ho hk => hm.1.book k o ho hk
  case h12 => exact fun _ => rfl
  case h13 => exact fun s pre X Y row h hg hr => ⟨Gath.own (by have := B2.size; omega) pre X Y row h.1 hg hr, Aside.own pre X Y row h.2.1 hg hr, h.2.2⟩
  case h14 => exact fun c s pre X Y row h hg hr => ⟨h.1, Gath.own (by have := B2.size; omega) pre X Y row h.2.1 hg hr, h.2.2⟩
  case h15 => exact fun pre s s' X Y h hm => ⟨h.1.move hm, h.2.1.move hm, h.2.2⟩
  case h16 => exact fun c pre s s' X Y h hm => ⟨h.1, h.2.1.move hm, h.2.2⟩
  case h17 => exact ⟨G0, A0, by simp; omega⟩
  case assign =>
    intro l x W K hK
    unfold encK
    clear hseq hV2 G0 A0 B2 k2
    gi_wp2
    exact hK

  case body =>
    rintro l t pre x R s W hT hU ⟨hG, hA, hc⟩
    obtain ⟨v, hv, ho, hvs⟩ := hG.ex
    obtain ⟨ao, cap, rfl, _⟩ := ownK_form ho
    have hPl : pre.length < (P ++ Q).length := by rw [← hT]; simp
    have hPn : (P ++ Q).length < 100000 := HLEN.out
    have hUf := hU.fb
    obtain ⟨k, hk⟩ : ∃ k, pre.length = k := ⟨_, rfl⟩
    have c5 := hv.cell (i := 0) rfl
    have c3 := hA.1.cell (i := 0) rfl
    have f5 := hv.frozen 0
    rw [hk] at c5 hv ho hvs hc
    have HU := Lib.hid hU
    have HG := Lib.hid hG
    have HA := Lib.hid hA
    have HV := Lib.hid hv
    have HO := Lib.hid ho
    have HVS := Lib.hid hvs
    have HUF := Lib.hid hUf
    have hM2 : ∀ o, n0 + 2 ≤ (W.alloc o).heap.size := fun o => by have := hv.lt; rw [World.size_alloc]; omega
    have hk9 : k < 100000 := by omega
    have HKL := Lib.hid hk
    clear hU hG hA hv ho hvs hUf hk hseq hV2 G0 A0 B2 k2 hPl hPn hT
    by_cases hm : (k : Int) + 1 = mo
    all_goals gi_wp2_with (gi_at_builtin; (
     refine wpListIn_apK encZ_len (by decide) encZ_one (x := fun _ => True) Try.underlying27 infoInt rfl (by decide) rfl _ _ rfl rfl (n0 + 2) (.slice ao k cap) pre rfl (ownK_alloc HO.out _) (.slice (some ⟨W.heap.size, 0, none⟩) 1 1) [x] (by simp) rfl (RK.oneN (enc := encZ) x 3 _ _ (by simp) _ rfl) (by rw [HKL.out]; simp; omega) (hM2 _) ?_
     intro g cp w1 ho1 hg1 hl1
     rw [List.length_append, List.length_singleton, HKL.out] at ho1
     rw [List.length_append, List.length_singleton, HKL.out]
     have P := Gath.push (M2 := W2.heap.size) HG.out HV.out HO.out HVS.out (by decide) HUF.out ho1 hg1 hl1 rfl
     obtain ⟨G3, P⟩ := P
     obtain ⟨K3, P⟩ := P
     obtain ⟨S3, Z3, L3, b1, b3⟩ := P
     have d5 := b1.cell (i := 0) rfl
     have d6 := b1.frozen 0
     have d7 := b3.cell (i := 0) rfl
     have d8 := HA.out.1.kept (L3 n0 (by omega) HA.out.1.lt (by omega))
     have d9 := d8.cell (i := 0) rfl
     have HA3 := Lib.hid (show Aside n0 [.int .i64 mo] 3 s _ from ⟨d8, HA.out.2⟩)
     have HG3 := Lib.hid G3
     have HK3 := Lib.hid K3
     have HS3 := Lib.hid S3
     have HZ3 := Lib.hid Z3
     clear G3 K3 S3 Z3 L3 b1 b3 d8
     clear c5 c3 f5
     clear ho1 hg1 hl1
     ))
    · refine ⟨HK3.out, s, HU.out.away HS3.out HZ3.out, rfl, HG3.out, ?_, ?_⟩
      · rw [List.length_append, List.length_singleton, HKL.out]
        omega
      · rw [List.length_append, List.length_singleton]
        omega
    · refine ⟨HK3.out, s, HU.out.away HS3.out HZ3.out, HG3.out, HA3.out, ?_⟩
      rw [List.length_append, List.length_singleton, HKL.out]
      omega
  case done =>
    rintro D s W hD hV ⟨hG, _, hc⟩ hK
    obtain ⟨v, hv, ho, hvs⟩ := hG.ex
    have c5 := hv.cell (i := 0) rfl
    have HG := Lib.hid hG
    have HV := Lib.hid hV
    have HO := Lib.hid ho
    have HVS := Lib.hid hvs
    have HK := Lib.hid hK
    have HD := Lib.hid hD
    have HC := Lib.hid hc
    have hbk : isBook (.deferred (some [])) = true := rfl
    clear hG hV hv ho hvs hK hD hc hseq hV2 G0 A0 B2 k2
    go_wp2
    refine ⟨by simp, .inl ⟨_, _, rfl, run_takeDeferred HK.out, ?_⟩⟩
    refine ⟨v, by simp [results, Try.results20, go_sem], ?_⟩
    have hd := HD.out
    rw [HS2.out] at hd
    have hcut : cutAt mo (P ++ Q) = P ++ Q := by
      unfold cutAt
      split
      · exact List.take_of_length_le (by have := HC.out; omega)
      · rfl
    have hG2 := HG.out.book D _ (.deferred none) HK.out hbk (by rw [HN0.out]; omega)
    exact ⟨_, s, rfl, by rw [hcut]; exact ownK_lower (own_book HO.out HK.out hbk _) (by rw [HN0.out]; omega), LV.book _ _ _ _ _ HV.out HK.out hbk, hG2.tr, hG2.sub, HVS.out⟩
  case stop =>
    rintro D c pre s W hD hpre hV ⟨rfl, hG, hc⟩ hK
    obtain ⟨v, hv, ho, hvs⟩ := hG.ex
    have c5 := hv.cell (i := 0) rfl
    have HG := Lib.hid hG
    have HV := Lib.hid hV
    have HO := Lib.hid ho
    have HVS := Lib.hid hvs
    have HK := Lib.hid hK
    have HD := Lib.hid hD
    have HC := Lib.hid hc
    have HPR := Lib.hid hpre
    have hbk : isBook (.deferred (some [])) = true := rfl
    clear hG hV hv ho hvs hK hD hc hseq hV2 G0 A0 B2 k2 hpre
    refine wpIn_wide.2 ?_
    go_wp2
    refine ⟨by simp, .inl ⟨_, _, rfl, run_takeDeferred HK.out, ?_⟩⟩
    refine ⟨v, by simp [results, Try.results20, go_sem], ?_⟩
    have hd := HD.out
    rw [HS2.out] at hd
    have hcut : cutAt mo (P ++ Q) = pre := by
      obtain ⟨h1, h2⟩ := HC.out
      unfold cutAt
      rw [if_pos (by omega), ← h1, Int.toNat_natCast]
      exact (List.prefix_iff_eq_take.1 HPR.out).symm
    have hG2 := HG.out.book D _ (.deferred none) HK.out hbk (by rw [HN0.out]; omega)
    exact ⟨_, s, rfl, by rw [hcut]; exact ownK_lower (own_book HO.out HK.out hbk _) (by rw [HN0.out]; omega), LV.book _ _ _ _ _ HV.out HK.out hbk, hG2.tr, hG2.sub, HVS.out⟩
end
end Go.Proofs.Ytjaejdenboggpaa

/- A Due's walk: the run's loop. -/
set_option maxRecDepth 100000
namespace Go.Proofs.Ytjaejdenboggpaa
open Go Go.RowKit Go.Shelf Go.Maps
attribute [local go_sem] Oper.semAt_some
section
variable {X : Nat} {E T0 : List (Int × Int)} {most : Int} {N xb yb l m : Nat} {vb : Option Nat} {f : Nat → Prop} {w w' : World}
/-- What the next step gives: one, and that it is one; or none. -/
def NextD (X : Nat) (E T0 : List (Int × Int)) (most : Int) (N xb yb l : Nat) (vb : Option Nat) (C : List (Int × Int) → (Nat → Prop) → World → Prop) (n : Nat) (x : Int × Int) (ok : Bool) (w : World) : Prop :=
  ∃ pre f, C pre f w ∧ ((∃ R, pre ++ x :: R = T0 ∧ n = R.length + 1 ∧ ok = true ∧ UDx X E most N xb yb l vb R f w) ∨ (pre = T0 ∧ n = 0 ∧ ok = false ∧ UDx X E most N xb yb l vb [] f w))
theorem UDx.step {R : List (Int × Int)} (h : UDx X E most N xb yb l vb R f w) {R' : List (Int × Int)} (hu : UD X E most N xb R' (grow f w w') w') (hk : ∀ (b : Nat) (cs : List Value) (t : TypeId), t ≠ tHp → t ≠ 3 → Blk w b cs t → w'.heap[b]? = w.heap[b]?) : UDx X E most N xb yb l vb R' (grow f w w') w' := by
  exact ⟨hu, fun k e => by
    obtain ⟨⟨a, b, hv⟩, fv⟩ := h.v k e
    exact ⟨⟨a, b, hv.kept (hk _ _ _ (by decide) (by decide) hv)⟩, .inl fv⟩, h.y.1.kept (hk _ _ _ (by decide) (by decide) h.y.1), .inl h.y.2⟩
theorem ud_next {R pre : List (Int × Int)} {C : List (Int × Int) → (Nat → Prop) → World → Prop} (h : UDx X E most N xb yb l vb R f w) (hN : N < 80000) (hR : pre ++ R = T0) (hC : ∀ pre s s' W W', C pre s W → MvL s W s' W' → C pre s' W') (h0 : C pre f w) : ∃ B fb db, w.cell? ⟨xb, 0, none⟩ = some (nfD B fb db) ∧
    Calls Try.prog 78 #[.pointer (some ⟨B, 0, none⟩), .pointer (some ⟨fb, 0, none⟩), .pointer (some ⟨db, 0, none⟩)] w fun e w' => ∃ x ok, e = .returned (.tuple #[.agg #[.int .i64 x.1, .int .i64 x.2], .bool ok]) ∧ NextD X E T0 most N xb yb l vb C R.length x ok w' := by
  cases R with
  | nil =>
    obtain ⟨B, fb, db, h1, h2⟩ := ud_nil h.ud
    refine ⟨B, fb, db, h1, h2.mono ?_⟩
    rintro e w' ⟨rfl, t, h3, h4⟩
    exact ⟨(0, 0), false, rfl, pre, _, hC _ _ _ _ _ h0 (mvL t), .inr ⟨by simpa using hR, rfl, rfl, h.step h3 h4⟩⟩
  | cons x R =>
    obtain ⟨B, fb, db, h1, h2⟩ := ud_cons h.ud hN
    refine ⟨B, fb, db, h1, h2.mono ?_⟩
    rintro e w' ⟨rfl, t, h3, h4⟩
    exact ⟨x, true, rfl, pre, _, hC _ _ _ _ _ h0 (mvL t), .inl ⟨R, hR, rfl, rfl, h.step h3 h4⟩⟩
/-- The one in hand is put into the run's own box: a new one. -/
theorem NextD.boxed {C : List (Int × Int) → (Nat → Prop) → World → Prop} {n : Nat} {x : Int × Int} {ok : Bool} (h : NextD X E T0 most N xb yb l vb C n x ok w) (hC : ∀ pre s s' W W', C pre s W → MvL s W s' W' → C pre s' W') :
    NextD X E T0 most N xb yb l (some w.heap.size) C n x ok (w.alloc (.cells #[.int .i64 x.1, .int .i64 x.2] 94)) ∧ Blk (w.alloc (.cells #[.int .i64 x.1, .int .i64 x.2] 94)) w.heap.size [.int .i64 x.1, .int .i64 x.2] 94 := by
  have hb : Below w.heap.size w (w.alloc (.cells #[.int .i64 x.1, .int .i64 x.2] 94)) := (Below.refl _ _).alloc (Nat.le_refl _) _
  have nb := Blk.new w [.int .i64 x.1, .int .i64 x.2] 94
  obtain ⟨pre, f, hc, hor⟩ := h
  have up : ∀ R, UDx X E most N xb yb l vb R f w → UDx X E most N xb yb l (some w.heap.size) R (grow f w (w.alloc (.cells #[.int .i64 x.1, .int .i64 x.2] 94))) (w.alloc (.cells #[.int .i64 x.1, .int .i64 x.2] 94)) := fun R hu =>
    ⟨hu.ud.below hb, fun k e => by cases e; exact ⟨⟨_, _, nb⟩, .inr ⟨Nat.le_refl _, nb.lt⟩⟩, (hu.below hb).y⟩
  refine ⟨⟨pre, _, hC _ _ _ _ _ hc (mvL (Trn.of_below (f := f) hb)), ?_⟩, nb⟩
  rcases hor with ⟨R, a, b, c, hu⟩ | ⟨a, b, c, hu⟩
  · exact .inl ⟨R, a, b, c, up R hu⟩
  · exact .inr ⟨a, b, c, up [] hu⟩
/-- A store into a timed one of the run's own. -/
theorem UD.store {R : List (Int × Int)} (h : UD X E most N xb R f w) {k i : Nat} {u : Value} {cs : List Value} (hk : Blk w k cs 94) (fk : f k) : UD X E most N xb R (grow f w (w.setCell ⟨k, i, none⟩ u)) (w.setCell ⟨k, i, none⟩ u) ∧ Trn f w (w.setCell ⟨k, i, none⟩ u) := by
  obtain ⟨S, L, g, cap, dv, hv, o, T, B, db, mb, fb, j, h1, h2, h3, h4, h5, h6, h7, h8, h9, fM, fR, fs, fd, fh, fg, fB, fdb, fm, ff, fx⟩ := h.ex
  have t1 : Trn f w (w.setCell ⟨k, i, none⟩ u) := Trn.set hk fk i u
  obtain ⟨s, hw, hs⟩ := h1.ex
  have ho := fun b (hb : b ≠ k) => Below.heap_setCell w ⟨k, i, none⟩ u b hb
  exact ⟨⟨⟨S, L, g, cap, dv, hv, o, T, B, db, mb, fb, j, ⟨⟨s, hw.kind hk, hs⟩, h1.mbx.kept (ho _ (h1.mbx.ne hk (by decide))), h1.fbx.kept (ho _ (h1.fbx.ne hk (by decide))), h1.nm⟩, own_kept h2 (fun b e => by obtain ⟨c, hc⟩ := own_blk' h2 e; exact ho _ (hc.ne hk (by decide))), h3, h4, h5, h6, h7.kept (ho _ (h7.ne hk (by decide))), h8, h9, .inl fM, .inl fR, fun b e => .inl (fs b e), fun b e => .inl (fd b e), fun b e => .inl (fh b e), .inl fg, .inl fB, .inl fdb, .inl fm, .inl ff, .inl fx⟩, .inl h.fX, fun b e => e.elim (fun e => Nat.lt_of_lt_of_le (h.fb b e) t1.size) (fun e => e.2)⟩, t1⟩
theorem NextD.v {k : Nat} {C : List (Int × Int) → (Nat → Prop) → World → Prop} {n : Nat} {x : Int × Int} {ok : Bool} (h : NextD X E T0 most N xb yb l (some k) C n x ok w) : ∃ a b, Blk w k [.int .i64 a, .int .i64 b] 94 := by
  obtain ⟨pre, f, hc, hor⟩ := h
  rcases hor with ⟨R, _, _, _, hu⟩ | ⟨_, _, _, hu⟩
  · exact (hu.v k rfl).1
  · exact (hu.v k rfl).1
theorem NextD.stored {k i : Nat} {u : Value} {cs : List Value} {C : List (Int × Int) → (Nat → Prop) → World → Prop} {n : Nat} {x : Int × Int} {ok : Bool} (h : NextD X E T0 most N xb yb l (some k) C n x ok w) (hC : ∀ pre s s' W W', C pre s W → MvL s W s' W' → C pre s' W') (hk : Blk w k cs 94)
    (hv : ∃ a b, Blk (w.setCell ⟨k, i, none⟩ u) k [.int .i64 a, .int .i64 b] 94) : NextD X E T0 most N xb yb l (some k) C n x ok (w.setCell ⟨k, i, none⟩ u) := by
  obtain ⟨pre, f, hc, hor⟩ := h
  have up : ∀ R, UDx X E most N xb yb l (some k) R f w → UDx X E most N xb yb l (some k) R (grow f w (w.setCell ⟨k, i, none⟩ u)) (w.setCell ⟨k, i, none⟩ u) ∧ Trn f w (w.setCell ⟨k, i, none⟩ u) := fun R hu => by
    obtain ⟨h1, h2⟩ := hu.ud.store (i := i) (u := u) hk (hu.v k rfl).2
    exact ⟨⟨h1, fun k' e => by cases e; exact ⟨hv, .inl (hu.v k rfl).2⟩, hu.y.1.other (hu.y.1.ne hk (by decide)) i u, .inl hu.y.2⟩, h2⟩
  rcases hor with ⟨R, a, b, c, hu⟩ | ⟨a, b, c, hu⟩
  · obtain ⟨h1, h2⟩ := up R hu
    exact ⟨pre, _, hC _ _ _ _ _ hc (mvL h2), .inl ⟨R, a, b, c, h1⟩⟩
  · obtain ⟨h1, h2⟩ := up [] hu
    exact ⟨pre, _, hC _ _ _ _ _ hc (mvL h2), .inr ⟨a, b, c, h1⟩⟩
end
end Go.Proofs.Ytjaejdenboggpaa

/- A Due's walk: the run. -/
set_option maxRecDepth 100000
namespace Go.Proofs.Ytjaejdenboggpaa
open Go Go.RowKit Go.Shelf Go.Maps
attribute [local go_sem] Oper.semAt_some
section
variable {X : Nat} {E : List (Int × Int)} {most : Int} {N yb l m : Nat} {f : Nat → Prop} {W : World}
def HeadD (X : Nat) (E T0 : List (Int × Int)) (most : Int) (N xb yb l : Nat) (C : List (Int × Int) → (Nat → Prop) → World → Prop) (n : Nat) (v ok : Value) (wr : World) : Prop :=
  ∃ x okb vb, v = .pointer (some ⟨vb, 0, none⟩) ∧ ok = .bool okb ∧ NextD X E T0 most N xb yb l (some vb) C n x okb wr ∧ Blk wr vb [.int .i64 x.1, .int .i64 x.2] 94
set_option maxHeartbeats 8000000 in
theorem drun_in (hm : 1 ≤ m) (hN : N < 80000) {S : Du.St} {L : TL} {ao : Option Addr} {cap B db mb fb : Nat} {o T : List Nat} {dv hv : Value} (h1 : WalkE X B db mb fb S L most T (.slice ao 0 cap) dv hv 0 W) (h2 : OwnK encW 1 tWk 0 (.slice ao 0 cap) [] W) (h3 : Du.InvD S o N) (hO : Du.Ordered S most o T) (h5 : E = o.map (Du.ent S)) (h8 : L.n ≤ N)
    (hyb : Blk W yb [.func (.yield l) #[] #[]] 61) (fy : f yb)
    (fX : f X) (fM : f L.M) (fR : f L.R) (fs : ∀ b, L.sv.ownBlock = some b → f b) (fd : ∀ b, dv.ownBlock = some b → f b) (fh : ∀ b, hv.ownBlock = some b → f b) (fg : ∀ b, (Value.slice ao 0 cap).ownBlock = some b → f b) (fB : f B) (fdb : f db) (fm : f mb) (ff : f fb) (fb' : ∀ k, f k → k < W.heap.size)
    (C Cx : List (Int × Int) → (Nat → Prop) → World → Prop) (hC : ∀ pre s s' W W', C pre s W → MvL s W s' W' → C pre s' W') (hCx : ∀ pre s s' W W', Cx pre s W → MvL s W s' W' → Cx pre s' W') (h0 : C [] f W)
    (hY : ∀ xb vb pre x R s W1, pre ++ x :: R = T.map (Du.ent S) → UDx X E most N xb yb l vb R s W1 → C pre s W1 → YieldAt Fence.wide (m - 1) Try.prog l (encP x) W1 fun e W' =>
      (e = .returned (.bool true) ∧ ∃ s', UDx X E most N xb yb l vb R s' W' ∧ C (pre ++ [x]) s' W') ∨ (e = .returned (.bool false) ∧ ∃ s', UDx X E most N xb yb l vb R s' W' ∧ Cx (pre ++ [x]) s' W')) :
    CallsIn Fence.wide m Try.prog 61 #[.pointer (some ⟨X, 7, none⟩), nfD B fb db, .func (.func 63) #[] #[.pointer (some ⟨yb, 0, none⟩)]] W fun e W' => (∃ v, e = .returned v) ∧ ∃ s, DV X E N s W' ∧ (C (T.map (Du.ent S)) s W' ∨ ∃ pre, pre <+: T.map (Du.ent S) ∧ Cx pre s W') := by
  obtain ⟨s0, hw0, _⟩ := h1.ex
  obtain ⟨_, _, _, _, _, q6, qf⟩ := hw0.due.cells
  have HY := Lib.hid hY
  have HC := Lib.hid hC
  have HCx := Lib.hid hCx
  have H0 := Lib.hid h0
  clear hY hC hCx h0
  generalize hT0 : T.map (Du.ent S) = T0 at *
  unfold nfD
  refine callsIn_of_wp_defers Try.func61 rfl trivial ?_ rfl
  simp only [Try.ntmps61, List.size_toArray, List.length_cons, List.length_nil, Nat.reduceAdd, Nat.reduceSub, Array.replicate_succ, Array.replicate_zero, List.push_toArray, List.append_toArray, List.nil_append, List.cons_append]
  have nb := Blk.new W [nfD B fb db] 119
  have hba : Below W.heap.size W (W.alloc (.cells #[nfD B fb db] 119)) := (Below.refl _ _).alloc (Nat.le_refl _) _
  have hXW : X < W.heap.size := fb' X fX
  have e1 := h1.below hba
  obtain ⟨s1, hw1, _⟩ := e1.ex
  obtain ⟨_, _, _, _, _, q6', _⟩ := hw1.due.cells
  have o1 := ownK_below h2 hba
  have y1 := hyb.kept (hba.block _ hyb.lt)
  have hyl := hyb.lt
  unfold nfD at q6' nb
  gi_wp2_with (gi_at_builtin; go_loud (
     refine wpListIn_apK encW_len (by decide) encW_one (x := fun _ => True) Try.underlying90 infoWk rfl (by decide) rfl _ _ rfl rfl 0 (.slice ao 0 cap) [] rfl (ownK_alloc (ownK_alloc h2 _) _) (.slice (some ⟨W.heap.size + 1, 0, none⟩) 1 1) [W.heap.size] (by simp) rfl (RK.oneN (enc := encW) W.heap.size tWk _ _ (by simp) _ rfl) (by simp) (Nat.zero_le _) ?_
     intro g cp w1 ho1 hg1 hl1
     simp only [List.nil_append, List.length_singleton] at ho1
     obtain ⟨E2, B2, hgg, hXg, hKK⟩ := drun_made hg1 hl1 e1 o1 nb
     obtain ⟨s2, hw2, _⟩ := E2.ex
     obtain ⟨_, _, _, _, _, q62, f62⟩ := hw2.due.cells
     have d3 := B2.cell (i := 0) rfl
     have hne : ¬ W.heap.size = X := fun e => by omega
     have hUL := drun_begin E2 ho1 B2 hgg hXg hKK h2 hba ⟨hg1.os.symm, hg1.tape.symm, hg1.output.symm, Nat.le_trans (by simp) hg1.size⟩ (Nat.le_refl _) h3 hO h5 h8 fX fM fR fs fd fh fg fB fdb fm ff fb'
     have y2 : Blk w1 yb [.func (.yield l) #[] #[]] 61 := y1.kept (hKK yb y1.lt (fun e => by
       obtain ⟨d, hd⟩ := own_blk' o1 e
       exact y1.ne hd (by decide) rfl))))
  obtain ⟨t3, hU⟩ := hUL
  rw [hT0] at hU
  have d4 := (B2.other hne 7 (.slice (some ⟨g, 0, none⟩) 1 cp)).cell (i := 0) rfl
  have y3 := y2.other (B := yb) (show yb ≠ X from fun e => by
    obtain ⟨bx, ht, _⟩ := hw2.due.ex
    exact y2.ne ht.box (by decide) e) 7 (.slice (some ⟨g, 0, none⟩) 1 cp)
  have hUx : UDx X E most N W.heap.size yb l none T0 _ _ := ⟨hU, fun k e => (by cases e), y3, .inl fy⟩
  clear hKK hne d3 f62 q62 hgg hXg B2 E2 hl1 hg1 ho1 o1 e1 q6' hba nb q6 qf h8 h5 h1 h2 h3 hU y1 y2 y3 hyb hw0 hw1 hw2 hO hT0
  generalize w1.setCell ⟨X, 7, none⟩ (.slice (some ⟨g, 0, none⟩) 1 cp) = W3 at *
  have hC3 := HC.out _ _ _ _ _ H0.out (mvL t3)
  generalize hxb : W.heap.size = xb at *
  obtain ⟨lb', cb', ab', c1, c2⟩ := ud_next hUx hN (pre := []) rfl HC.out hC3
  have hnf : nfD lb' cb' ab' = nfD B fb db := by
    rw [d4] at c1
    exact (Option.some.inj c1).symm
  unfold nfD at hnf
  simp at hnf
  obtain ⟨rfl, rfl, rfl⟩ := hnf
  clear c1 d4
  refine ⟨trivial, ?_⟩
  refine (callsIn_wide.2 c2).mono ?_
  rintro e w2 ⟨x0, ok0, rfl, hR0⟩
  clear c2
  obtain ⟨hR, nb2⟩ := hR0.boxed HC.out
  have hH : HeadD X E T0 most N xb yb l C T0.length (.pointer (some ⟨w2.heap.size, 0, none⟩)) (.bool ok0) _ := ⟨x0, ok0, _, rfl, rfl, hR, nb2⟩
  clear hR nb2 hR0
  gi_wp2_with fail
  gi_loopw [7, 8] (fun v ok wr => ∃ n, HeadD X E T0 most N xb yb l C n v ok wr) (fun v ok wr => leastOf (fun n => HeadD X E T0 most N xb yb l C n v ok wr))
  case atStart => exact ⟨_, hH⟩
  case round =>
    clear hH hUx hC3 H0 t3
    obtain ⟨hR1, hmin⟩ := leastOf_spec hrel
    obtain ⟨x, okb, vb, rfl, rfl, ⟨pre, f1, hc, ⟨R, hT, hn, rfl, hU1⟩ | ⟨hT, hn, rfl, hU1⟩⟩, hvb⟩ := hR1
    · have HN := Lib.hid hn
      have d0 := hvb.cell (i := 0) rfl
      have d1 := hvb.cell (i := 1) rfl
      clear hn hmin hrel
      have hT2 : (pre ++ [x]) ++ R = T0 := by rw [List.append_assoc]; exact hT
      have HT2 := Lib.hid hT2
      have hpre : pre ++ [x] <+: T0 := ⟨R, hT2⟩
      have htl := dtell hm hU1 hc (fun s s' W W' h h' => HC.out pre s s' W W' h h') (fun s W1 hu hc => HY.out xb (some vb) pre x R s W1 hT hu hc) (fun e W' h => h.elim (fun h => ⟨true, h.1⟩) (fun h => ⟨false, h.1⟩))
      unfold encT at htl
      have HTL := Lib.hid htl
      clear hT2 hT hU1 hc htl
      gi_wp2_with fail
      refine ⟨trivial, ?_⟩
      refine (callsIn_wide.2 (callsIn_wide.1 HTL.out)).mono ?_
      intro e W4 hor
      rcases hor with ⟨rfl, s', hU', hC'⟩ | ⟨rfl, s', hU', hC'⟩
      · obtain ⟨B2, fb2, db2, c1, c2⟩ := ud_next hU' hN (pre := pre ++ [x]) HT2.out HC.out hC'
        unfold nfD at c1
        clear d0 d1 hvb
        gi_wp2_with fail
        refine ⟨trivial, ?_⟩
        refine (callsIn_wide.2 c2).mono ?_
        rintro e w5 ⟨x5, ok5, rfl, hR5⟩
        have HN2 := HN.out
        clear c1 c2 hU' hC'
        obtain ⟨a5, b5, v5⟩ := hR5.v
        have n1 := hR5.stored (i := 0) (u := .int .i64 x5.1) HC.out v5 ⟨_, _, v5.set 0 _⟩
        have n2 := n1.stored (i := 1) (u := .int .i64 x5.2) HC.out (v5.set 0 _) ⟨_, _, (v5.set 0 _).set 1 _⟩
        have j0 := v5.cell (i := 0) rfl
        have j1 := v5.cell (i := 1) rfl
        have jf := v5.frozen
        obtain ⟨n3, n4⟩ := n2.boxed HC.out
        rw [show ((w5.setCell ⟨vb, 0, none⟩ (.int .i64 x5.1)).setCell ⟨vb, 1, none⟩ (.int .i64 x5.2)).heap.size = w5.heap.size by simp] at n3 n4
        have hR6 : HeadD X E T0 most N xb yb l C R.length (.pointer (some ⟨_, 0, none⟩)) (.bool ok5) _ := ⟨x5, ok5, _, rfl, rfl, n3, n4⟩
        clear n1 n2 n3 n4 hR5
        gi_wp2_with fail
        go_roundw
        case rel => exact ⟨_, hR6⟩
        case measure =>
          have h5 := (leastOf_spec (p := fun n => HeadD X E T0 most N xb yb l C n (.pointer (some ⟨_, 0, none⟩)) (.bool ok5) _) ⟨_, hR6⟩).2 _ hR6
          rw [HN2]
          exact Nat.lt_succ_of_le h5
      · clear d0 d1 hvb
        gi_wp2_with fail
        refine leavesIn_cons (fv := .func 75) (cap := #[]) (dargs := #[.pointer (some ⟨X, 7, none⟩), .pointer (some ⟨xb, 0, none⟩)]) (f := 75) (args := #[.pointer (some ⟨X, 7, none⟩), .pointer (some ⟨xb, 0, none⟩)]) (by simp) (fun e => by cases e) (by simp [go_sem]) (fun _ _ => trivial) ?_
        refine (ud_end hU'.ud).mono ?_
        rintro e u' w6 ⟨rfl, rfl, t6, hV⟩
        exact ⟨_, results_none rfl _ _ _, ⟨_, rfl⟩, _, hV, .inr ⟨_, hpre, HCx.out _ _ _ _ _ hC' (mvL t6)⟩⟩
    · have HC1 := Lib.hid hc
      have HU1 := Lib.hid hU1
      clear hc hn hmin hrel hU1
      have HT := Lib.hid hT
      clear hT
      gi_wp2_with fail
      first
        | (refine leavesIn_cons (fv := .func 75) (cap := #[]) (dargs := #[.pointer (some ⟨X, 7, none⟩), .pointer (some ⟨xb, 0, none⟩)]) (f := 75) (args := #[.pointer (some ⟨X, 7, none⟩), .pointer (some ⟨xb, 0, none⟩)]) (by simp) (fun e => by cases e) (by simp [go_sem]) (fun _ _ => trivial) ?_)
        | (refine ⟨(fun _ e => by cases e), ?_⟩
           gi_wp2_with fail
           refine leavesIn_cons (fv := .func 75) (cap := #[]) (dargs := #[.pointer (some ⟨X, 7, none⟩), .pointer (some ⟨xb, 0, none⟩)]) (f := 75) (args := #[.pointer (some ⟨X, 7, none⟩), .pointer (some ⟨xb, 0, none⟩)]) (by simp) (fun e => by cases e) (by simp [go_sem]) (fun _ _ => trivial) ?_)
      refine (ud_end HU1.out.ud).mono ?_
      rintro e u' w6 ⟨rfl, rfl, t6, hV⟩
      refine ⟨_, results_none rfl _ _ _, ⟨_, rfl⟩, _, hV, .inl ?_⟩
      have h7 := HC.out _ _ _ _ _ HC1.out (mvL t6)
      rw [HT.out] at h7
      exact h7
end
end Go.Proofs.Ytjaejdenboggpaa

/- Who is by then, in order: the mathematics. -/
set_option maxRecDepth 100000
namespace Go.Proofs.Ytjaejdenboggpaa
namespace Du
open Tb Lr
/-- One goes behind those that are no later. -/
def insE (x : Int × Int) : List (Int × Int) → List (Int × Int)
  | [] => [x]
  | y :: l => if x.2 < y.2 then x :: y :: l else y :: insE x l
def uptoE (most : Int) : List (Int × Int) → List (Int × Int) → List (Int × Int)
  | [], acc => acc
  | x :: l, acc => uptoE most l (if x.2 ≤ most then insE x acc else acc)
def insI (S : St) (x : Nat) : List Nat → List Nat
  | [] => [x]
  | y :: l => if (rat S.T.rows x).a < (rat S.T.rows y).a then x :: y :: l else y :: insI S x l
variable {S : St} {most : Int} {o T : List Nat} {N : Nat}
theorem insI_map (x : Nat) : ∀ l : List Nat, (insI S x l).map (ent S) = insE (ent S x) (l.map (ent S))
  | [] => rfl
  | y :: l => by
    unfold insI
    show _ = if (rat S.T.rows x).a < (rat S.T.rows y).a then _ else _
    split
    · rfl
    · rw [List.map_cons, insI_map x l]
theorem insI_mem (x v : Nat) : ∀ l : List Nat, v ∈ insI S x l ↔ v = x ∨ v ∈ l
  | [] => by simp [insI]
  | y :: l => by
    unfold insI
    split
    · simp
    · rw [List.mem_cons, insI_mem x v l, List.mem_cons]
      constructor
      · rintro (e | e | e)
        · exact .inr (.inl e)
        · exact .inl e
        · exact .inr (.inr e)
      · rintro (e | e | e)
        · exact .inr (.inl e)
        · exact .inl e
        · exact .inr (.inr e)
theorem insI_lt (x : Nat) : ∀ l : List Nat, l.Pairwise (fun i j => lt S.T.rows i j = true) → (∀ y ∈ l, (rat S.T.rows y).b < (rat S.T.rows x).b) → (insI S x l).Pairwise (fun i j => lt S.T.rows i j = true)
  | [], _, _ => List.pairwise_singleton _ _
  | y :: l, h, hb => by
    obtain ⟨h1, h2⟩ := List.pairwise_cons.1 h
    unfold insI
    split
    · rename_i hlt
      refine List.pairwise_cons.2 ⟨fun z hz => ?_, h⟩
      rw [lt_iff]
      rcases List.mem_cons.1 hz with rfl | hz
      · exact .inl hlt
      · have := h1 z hz
        rw [lt_iff] at this
        left; omega
    · rename_i hle
      refine List.pairwise_cons.2 ⟨fun z hz => ?_, insI_lt x l h2 (fun y hy => hb y (List.mem_cons_of_mem _ hy))⟩
      rcases (insI_mem x z l).1 hz with rfl | hz
      · rw [lt_iff]
        have := hb y (List.mem_cons_self ..)
        omega
      · exact h1 z hz
theorem sorted : ∀ (l acc pre : List Nat), (pre ++ l).Pairwise (fun i j => (rat S.T.rows i).b < (rat S.T.rows j).b) → (∀ i, i ∈ acc ↔ i ∈ pre ∧ (rat S.T.rows i).a ≤ most) → acc.Pairwise (fun i j => lt S.T.rows i j = true) →
    ∃ T, Ordered S most (pre ++ l) T ∧ T.map (ent S) = uptoE most (l.map (ent S)) (acc.map (ent S))
  | [], acc, pre, _, hm, hp => ⟨acc, ⟨by rw [List.append_nil]; exact hm, hp⟩, rfl⟩
  | x :: l, acc, pre, hb, hm, hp => by
    have hb2 : ((pre ++ [x]) ++ l).Pairwise (fun i j => (rat S.T.rows i).b < (rat S.T.rows j).b) := by rw [List.append_assoc]; exact hb
    have hx : ∀ y ∈ pre, (rat S.T.rows y).b < (rat S.T.rows x).b := fun y hy => (List.pairwise_append.1 hb).2.2 y hy x (List.mem_cons_self ..)
    by_cases ha : (rat S.T.rows x).a ≤ most
    · obtain ⟨T, h1, h2⟩ := sorted l (insI S x acc) (pre ++ [x]) hb2 (fun i => by
        rw [insI_mem, hm i, List.mem_append, List.mem_singleton]
        constructor
        · rintro (rfl | ⟨e1, e2⟩)
          · exact ⟨.inr rfl, ha⟩
          · exact ⟨.inl e1, e2⟩
        · rintro ⟨e1 | e1, e2⟩
          · exact .inr ⟨e1, e2⟩
          · exact .inl e1) (insI_lt x acc hp (fun y hy => hx y ((hm y).1 hy).1))
      refine ⟨T, by rw [List.append_assoc] at h1; exact h1, ?_⟩
      rw [h2, insI_map, List.map_cons]
      show _ = uptoE most (l.map (ent S)) (if (rat S.T.rows x).a ≤ most then _ else _)
      rw [if_pos ha]
    · obtain ⟨T, h1, h2⟩ := sorted l acc (pre ++ [x]) hb2 (fun i => by
        rw [hm i, List.mem_append, List.mem_singleton]
        constructor
        · rintro ⟨e1, e2⟩
          exact ⟨.inl e1, e2⟩
        · rintro ⟨e1 | e1, e2⟩
          · exact ⟨e1, e2⟩
          · exact absurd (e1 ▸ e2) ha) hp
      refine ⟨T, by rw [List.append_assoc] at h1; exact h1, ?_⟩
      rw [h2, List.map_cons]
      show _ = uptoE most (l.map (ent S)) (if (rat S.T.rows x).a ≤ most then _ else _)
      rw [if_neg ha]
theorem InvD.sorted (h : InvD S o N) (most : Int) : ∃ T, Ordered S most o T ∧ T.map (ent S) = uptoE most (o.map (ent S)) [] :=
  Du.sorted o [] [] h.turn (fun i => ⟨fun e => (by cases e), fun e => (by cases e.1)⟩) List.Pairwise.nil
end Du
end Go.Proofs.Ytjaejdenboggpaa
