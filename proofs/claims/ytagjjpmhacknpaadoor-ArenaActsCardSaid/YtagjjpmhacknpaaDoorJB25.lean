/- 3 texts put together: Harn8, Shw, Aal. -/
import Derived.BigQuiet
import Derived.Test.YtagjjpmhacknpaaDoorJB14
import Derived.Test.YtagjjpmhacknpaaDoorJB16
import Derived.Test.YtagjjpmhacknpaaDoorJB18
import Derived.Test.YtagjjpmhacknpaaDoorJB21
import Derived.Test.YtagjjpmhacknpaaDoorJB23
import Derived.Test.YtagjjpmhacknpaaDoorJB24
/- Handles: the arena's iterator, for a law that has boxes of its own made behind the call of Handles. -/
set_option maxRecDepth 100000
namespace Go.Proofs.YtagjjpmhacknpaaDoor
open Go.RowKit Go.Shelf
attribute [local go_sem] Oper.semAt_some
/-- What the caller's round keeps: the iterator's box, what is made from C on, and the arena. -/
def KH2 (A : Nat) (L : Loc) (S : Ar.St) (B C : Nat) (W W' : World) : Prop := (∀ k l t, (k = B ∨ C ≤ k) → Blk W k l t → Blk W' k l t) ∧ ∀ f, ArE A L S f W → ArE A L S f W'
theorem kh2_t {A : Nat} {L : Loc} {S : Ar.St} {B C : Nat} {X Y Z : World} (h : KH2 A L S B C X Y) (k : KH2 A L S B C Y Z) : KH2 A L S B C X Z := ⟨fun i l t hi b => k.1 i l t hi (h.1 i l t hi b), fun f a => k.2 f (h.2 f a)⟩
theorem kh2_b {A : Nat} {L : Loc} {S : Ar.St} {B C : Nat} {w : World} (W : World) (l : Nat) (o o' : Obj) (_ : w.heap.size ≤ l) (h : W.heap[l]? = some o) (hc : o.isCells = false) (_ : o.isWalk = false) : KH2 A L S B C W (W.putObj l o') := ⟨fun _ _ _ _ b => b.putD h hc o', fun _ a => a.putD h hc o'⟩
theorem KH2.below {A : Nat} {L : Loc} {S : Ar.St} {B C : Nat} {W W' : World} (h : Below W.heap.size W W') : KH2 A L S B C W W' := ⟨fun _ _ _ _ b => b.kept (h.block _ b.lt), fun _ a => a.below h⟩
theorem KH2.up {A : Nat} {L : Loc} {S : Ar.St} {B C B' : Nat} {W W' : World} (h : KH2 A L S B C W W') (hb : C ≤ B') : KH A L S B' W W' := ⟨fun k l t hk b => h.1 k l t (.inr (Nat.le_trans hb hk)) b, h.2⟩
set_option maxHeartbeats 64000000 in
theorem handles2_in (m l Bn A C : Nat) (L : Loc) (S : Ar.St) (f : Nat → Prop) (hm : 4 ≤ m) (hs : Ar.Sane S) (hP : ∀ x ∈ Ar.tabl S S.pl.length, x.2 + 8 ≤ S.mem.length) (J Jx : List (Nat × Nat) → World → Prop) (W : World) (hCW : C ≤ W.heap.size) (hJ : OwnBk W.heap.size J) (hJx : OwnBk W.heap.size Jx)
    (hY : ∀ pre x W1, J pre W1 → pre.length < 1000000 → pre ++ [x] <+: Ar.told S → YieldAt Fence.wide (m - 1) Tryd.prog l (encHP x) W1 fun e W' =>
      (e = .returned (.bool true) ∧ J (pre ++ [x]) W' ∧ KH2 A L S Bn C W1 W' ∧ KeepsBk W.heap.size W1 W') ∨ (e = .returned (.bool false) ∧ Jx (pre ++ [x]) W' ∧ KeepsBk W.heap.size W1 W'))
    (hB : Blk W Bn [.pointer (some ⟨A, 0, none⟩)] 25) (hA : ArE A L S f W) (h0 : J [] W) :
    CallsIn Fence.wide m Tryd.prog 55 #[.func (.yield l) #[] #[], .pointer (some ⟨Bn, 0, none⟩)] W fun e W' => (∃ v, e = .returned v) ∧
      ((∃ ys, ys = Ar.told S ∧ J ys W') ∨ (∃ pre, pre <+: Ar.told S ∧ Jx pre W')) := by
  have hm1 : 1 ≤ m := by omega
  have hm2 : 1 ≤ m - 1 := by omega
  have hm3 : 1 ≤ m - 1 - 1 := by omega
  have hBl := hB.lt
  refine callsIn_of_wp_marks Tryd.func55 rfl trivial ?_ rfl
  simp only [Tryd.ntmps55, List.size_toArray, List.length_cons, List.length_nil, Nat.reduceAdd, Nat.reduceSub, Array.replicate_succ, Array.replicate_zero, List.push_toArray, List.append_toArray, List.nil_append, List.cons_append]
  have b1 := hB.alloc (.cells #[.func (.yield l) #[] #[]] 88)
  have c1 := b1.cell (i := 0) rfl
  have y1 := Blk.new W [.func (.yield l) #[] #[]] 88
  have a1 := hA.below ((Below.refl _ W).alloc (Nat.le_refl _) (.cells #[.func (.yield l) #[] #[]] 88))
  have j1 := hJ.alloc (.cells #[.func (.yield l) #[] #[]] 88) h0
  have s1 : (W.alloc (.cells #[.func (.yield l) #[] #[]] 88)).heap.size = W.heap.size + 1 := World.size_alloc _ _
  gi_wp2_with (refine ⟨trivial, ?_⟩; gi_at_call 56; refine (callsIn_wide.2 (all_any A _)).mono ?_; rintro e w' ⟨rfl, rfl⟩)
  have b2 := b1.alloc (.cells #[.pointer (some ⟨A, 2, none⟩)] 80)
  have y2 := y1.alloc (.cells #[.pointer (some ⟨A, 2, none⟩)] 80)
  have t2 := Blk.new (W.alloc (.cells #[.func (.yield l) #[] #[]] 88)) [.pointer (some ⟨A, 2, none⟩)] 80
  have a2 := a1.below ((Below.refl _ _).alloc (Nat.le_refl _) (.cells #[.pointer (some ⟨A, 2, none⟩)] 80))
  have j2 := hJ.alloc (.cells #[.pointer (some ⟨A, 2, none⟩)] 80) j1
  have s2 : ((W.alloc (.cells #[.func (.yield l) #[] #[]] 88)).alloc (.cells #[.pointer (some ⟨A, 2, none⟩)] 80)).heap.size = W.heap.size + 2 := by rw [World.size_alloc, s1]
  rw [s1] at t2
  clear b1 c1 y1 a1 j1 s1
  generalize ((W.alloc (.cells #[.func (.yield l) #[] #[]] 88)).alloc (.cells #[.pointer (some ⟨A, 2, none⟩)] 80)) = W0 at *
  refine wpIn_rangeFunc_ownB rfl (by omega) (gf := 61) (lb := #[.pointer (some ⟨W.heap.size + 1, 0, none⟩)]) (by rfl) trivial (enters_of Tryd.func61 (by kernel_rfl) rfl)
    (all_stops _ (by omega) (W.heap.size + 1) A L S f hs _ t2 a2) kh_t kh_b (Below.refl _ _) (fun _ => rfl)
    (fun pre W' => J (pre.map (toHN S)) W' ∧ ArE A L S f W' ∧ Blk W' Bn [.pointer (some ⟨A, 0, none⟩)] 25 ∧ Blk W' W.heap.size [.func (.yield l) #[] #[]] 88)
    (fun c pre W' => Jx (pre.map (toHN S)) W' ∧ c = .ret)
    (fun s X Y row hs hg hr => ⟨hJ _ X Y row hs.1 hg (fun r e => ⟨by have := (hr r e).1; omega, (hr r e).2⟩), are_own hs.2.1 hg (fun r e => bookC (hr r e).2), blk_own hs.2.2.1 hg (fun r e => bookC (hr r e).2), blk_own hs.2.2.2 hg (fun r e => bookC (hr r e).2)⟩)
    (fun c s X Y row hs hg hr => ⟨hJx _ X Y row hs.1 hg (fun r e => ⟨by have := (hr r e).1; omega, (hr r e).2⟩), hs.2⟩)
    ⟨j2, a2, b2, y2⟩
    (fun x => { tmps := #[.func (.yield l) #[] #[], .pointer (some ⟨Bn, 0, none⟩), .pointer (some ⟨W.heap.size, 0, none⟩), .int .i64 (x.1 : Int), .int .i64 (x.2 : Int), .pointer (some ⟨A, 0, none⟩), .bool false, .pointer (some ⟨A, 0, none⟩), .pointer (some ⟨A, 0, none⟩), .pointer (some ⟨A, 2, none⟩), .func (.func 61) #[] #[.pointer (some ⟨W.heap.size + 1, 0, none⟩)], .int .i64 (x.1 : Int), .int .i64 (x.2 : Int), undef, undef, undef, undef, undef, undef, undef, undef], defers := [] }) ?assign ?body ?done ?stop
  case assign =>
    intro l x W K hK
    unfold encHP
    gi_wp2
    exact hK
  case body =>
    have hF1 : Fence.wide.fn 32 := trivial
    have hmx : Tryd.prog.follows .mixedOrders = true := by kernel_rfl
    rintro l1 pre x W1 ⟨hJ1, hA1, hx1, hx2⟩ hlen hsp
    have d1 := hx1.cell (i := 0) rfl
    have d2 := hx2.cell (i := 0) rfl
    have hmem := hP x (hsp.subset (by simp))
    have hhd : ∀ W', ArE A L S f W' → Calls Tryd.prog 32 #[.pointer (some ⟨A, 0, none⟩), .int .i64 (x.2 : Int)] W' _ := fun W' h => head_agg A L S f _ x.2 (Ar.headAt S.mem x.2) W' rfl h hs.mem hmem rfl
    have hfd := field_head (Ar.headAt S.mem x.2)
    have hpl : (pre.map (toHN S)).length < 1000000 := by rw [List.length_map]; exact hlen
    have hyr : ∀ W2, Below W1.heap.size W1 W2 → J (pre.map (toHN S)) W2 := fun W2 hb => hJ _ W1 W2 none hJ1 ⟨hb.os, hb.tape, hb.output, hb.size, fun k hk _ => hb.block k hk⟩ (fun r e => by cases e)
    have hspl : pre.map (toHN S) ++ [toHN S x] <+: Ar.told S := by
      have h := List.IsPrefix.map (toHN S) hsp
      rw [List.map_append] at h
      exact h
    have HSpl := Lib.hid hspl
    have HHD := Lib.hid hhd
    have HYr := Lib.hid hyr
    have HPl := Lib.hid hpl
    have HA1 := Lib.hid hA1
    have hxs : (toHN S x).1 = x.1 ∧ (toHN S x).2 = (Ar.headAt S.mem x.2).size := ⟨rfl, rfl⟩
    have HXS := Lib.hid hxs
    have HYY := Lib.hid hY
    clear hspl hsp hhd hyr hpl hA1 hxs hY hmem
    generalize Ar.headAt S.mem x.2 = p at *
    gi_wp2
    gi_region_with_o (first
      | (gi_at_call 32; refine (CallsIn.inRound l1 (callsIn_wide.2 (HHD.out _ (HA1.out.below ((Below.refl W1.heap.size W1).drew))))).mono ?_; rintro e W2 ⟨rfl, hb2⟩; have hbb := ((Below.refl W1.heap.size W1).drew).trans hb2; have e2 := (hx2.kept (hbb.block _ hx2.lt)).cell (i := 0) rfl; have e1 := (hx1.kept (hbb.block _ hx1.lt)).cell (i := 0) rfl; obtain ⟨fn, tmps, assign, body, hy, hR⟩ := HYY.out _ (toHN S x) W2 (HYr.out W2 hbb) HPl.out HSpl.out; unfold encHP at hy; rw [HXS.out.1, HXS.out.2] at hy)
      | (refine (roundIn_any hR).mono ?_; intro e W3 hor; obtain ⟨bb, rfl, hbb3⟩ := one_of hor))
    all_goals
      have hfin := hbb3.out
      clear hbb3
      have hkb : KeepsBk W0.heap.size W1 W3 := by
        have hkf : KeepsBk W.heap.size W2 W3 := hfin.elim (fun h => h.2.2.2) (fun h => h.2.2)
        have hkg : KeepsBk W0.heap.size W1 W2 := ⟨hbb.size, fun k o _ hk _ => (hbb.block k (Array.getElem?_eq_some_iff.1 hk).1).trans hk⟩
        exact hkg.trans ⟨hkf.size, fun k o hk => hkf.same k o (by omega)⟩
      cases bb
      · obtain ⟨hJ3, _⟩ := (hfin.resolve_left (fun h => by cases h.1)).2
        gi_wp2
        exact ⟨by first | exact hkb | (rw [← s2]; exact hkb), by simpa using hJ3, rfl⟩
      · obtain ⟨hJ3, hk3, _⟩ := (hfin.resolve_right (fun h => by cases h.1)).2
        have hkh : KH2 A L S Bn C W1 W3 := kh2_t (KH2.below hbb) hk3
        have hA3 := hkh.2 _ HA1.out
        have hx13 := hkh.1 _ _ _ (.inl rfl) hx1
        have hx23 := hkh.1 _ _ _ (.inr (by omega)) hx2
        gi_wp2
        exact ⟨by first | exact hkb | (rw [← s2]; exact hkb), hkh.up (by omega), by simpa using hJ3, hA3, hx13, hx23⟩
  case done =>
    rintro D ys W2 hD hS ⟨hJ1, hA1, hx1, hx2⟩ hK
    gi_wp2
    refine ⟨by simp, .inl ⟨_, _, rfl, run_takeDeferred hK, ?_⟩⟩
    exact ⟨_, results_none rfl _ _ _, ⟨_, rfl⟩, .inl ⟨ys.map (toHN S), by rw [hS]; rfl, hJ.putObj _ hJ1 (by omega) hK rfl⟩⟩
  case stop =>
    rintro D c pre W2 hD hSp ⟨hJ1, rfl⟩ hK
    gi_wp2
    refine ⟨by simp, .inl ⟨_, _, rfl, run_takeDeferred hK, ?_⟩⟩
    exact ⟨_, results_none rfl _ _ _, ⟨_, rfl⟩, .inr ⟨pre.map (toHN S), List.IsPrefix.map (toHN S) hSp, hJx.putObj _ hJ1 (by omega) hK rfl⟩⟩
theorem handles_stops2 (m : Nat) (hm : 4 ≤ m) (Bn A : Nat) (L : Loc) (S : Ar.St) (f : Nat → Prop) (hs : Ar.Sane S) (hP : ∀ x ∈ Ar.tabl S S.pl.length, x.2 + 8 ≤ S.mem.length) (w : World) (hB : Blk w Bn [.pointer (some ⟨A, 0, none⟩)] 25) (hA : ArE A L S f w) :
    SeqStopsB Fence.wide m Tryd.prog 55 #[.pointer (some ⟨Bn, 0, none⟩)] encHP (KH2 A L S Bn w.heap.size) (fun ys => ys = Ar.told S) (fun pre => pre <+: Ar.told S) 1000000 w :=
  fun l J Jx W hW hJ hJx hY h0 => handles2_in m l Bn A w.heap.size L S f hm hs hP J Jx W hW.size hJ hJx hY (hB.kept (hW.block _ hB.lt)) (hA.below hW) h0
end Go.Proofs.YtagjjpmhacknpaaDoor

/- shows of chapter 6's laws: an arena shows what the document's own has. -/
set_option maxRecDepth 100000
namespace Go.Proofs.YtagjjpmhacknpaaDoor
open Go Go.RowKit Go.Shelf
attribute [local go_sem] Oper.semAt_some
theorem res_show (tmps : Array Value) (w : World) (g : Nat) (b : Bool) (hp : tmps[4]?.getD undef = .pointer (some ⟨g, 0, none⟩)) (hc : w.cell? ⟨g, 0, none⟩ = some (.bool b)) :
    (results Tryd.f18 tmps).run Tryd.prog w = .ok (.bool b) w := by
  simp [results, Tryd.results18, go_sem, hp, hc]
theorem eql_nilH (W : World) (f B : Nat) : (binOp .eql 73 (.func (.func f) #[] #[.pointer (some ⟨B, 0, none⟩)]) .nilFunc).run Tryd.prog W = .ok (.bool false) W := by
  kernel_rfl
theorem are_keep {A : Nat} {L : Loc} {S : Ar.St} {f f0 : Nat → Prop} {w W W' : World} {N : Nat} (h : ArE A L S f W) (h0 : ArE A L S f0 w) (hN : w.heap.size ≤ N) (hs : W.heap.size ≤ W'.heap.size) (hk : ∀ k, k < N → W'.heap[k]? = W.heap[k]?) : ArE A L S f W' :=
  ⟨h.box.kept (hk _ (Nat.lt_of_lt_of_le h0.box.lt hN)), h.mem.kept (hk _ (Nat.lt_of_lt_of_le h0.mem.lt hN)), h.pl.kept (hk _ (Nat.lt_of_lt_of_le h0.pl.lt hN)), h.us.kept (hk _ (Nat.lt_of_lt_of_le h0.us.lt hN)), h.nd.kept (hk _ (Nat.lt_of_lt_of_le h0.nd.lt hN)), h.cap, h.cm, h.fA, h.fM, h.fP, h.fU, h.fN, fun k e => Nat.lt_of_lt_of_le (h.fb k e) hs⟩
/-- What the law's round has: its own number, and all that lay there. -/
structure Shr (M I k : Nat) (W2 W : World) : Prop where
  bel : Below M W2 W
  num : Blk W I [.int .i64 (k : Int)] 3
theorem Shr.grown {M I k : Nat} {W2 W W' : World} {row : Option Nat} (h : Shr M I k W2 W) (hM : M ≤ W2.heap.size) (hg : W.grownBy W' row) (hr : ∀ r, row = some r → W2.heap.size ≤ r ∧ ∃ o : Obj, W.heap[r]? = some o ∧ isBook o = true) : Shr M I k W2 W' :=
  ⟨h.bel.grown hg (Nat.le_trans hM h.bel.size) (fun r e => Nat.le_trans hM (hr r e).1), blk_own h.num hg (fun r e => bookC (hr r e).2)⟩
theorem pre_at {P : List Rp} {pre : List (Nat × Nat)} {x : Nat × Nat} (h : pre ++ [x] <+: (lsP P).map (fun b => (b.1, b.2.length))) : ∃ hi : pre.length < P.length, x = (P[pre.length].2.1, P[pre.length].2.2.length) := by
  have hl := h.length_le
  rw [List.length_append, List.length_singleton, List.length_map] at hl
  have hl2 : (lsP P).length = P.length := by simp [lsP]
  refine ⟨by omega, ?_⟩
  have h1 := h.getElem (i := pre.length) (by simp)
  rw [List.getElem_append_right (Nat.le_refl _)] at h1
  simp [lsP] at h1
  exact h1
set_option maxHeartbeats 16000000 in
theorem shows6_any (x y : Nat → Prop) (A m B : Nat) (P : List Rp) (n0 : Nat) (w : World) (h : HX x A B (lsP P) n0 w) (hm : MA y m B P w) (hP : P.length ≤ 100000) :
    Calls Tryd.prog 18 #[.pointer (some ⟨A, 0, none⟩), .pointer (some ⟨m, 0, none⟩)] w fun e w' => e = .returned (.bool true) ∧ Below w.heap.size w w' := by
  obtain ⟨hsum, hB⟩ := h.sum_le
  have hbl : ∀ b ∈ lsP P, b.2.length ≤ 4096 := fun b hb => (h.each.2 b hb).2
  have HX0 := Lib.hid (fun W (hb : Below w.heap.size w W) => h.after hb)
  obtain ⟨bs, ⟨L', S, pcs, har, hin, hbs, hmm⟩, hvw⟩ := h.ex
  subst hbs
  have HAR := Lib.hid har
  have HTD := Lib.hid (told_view hin hvw)
  have HIN := Lib.hid hin
  clear har hin hvw
  have HM := Lib.hid hm
  obtain ⟨su, hsu⟩ : ∃ su, sumC (lsP P) = su := ⟨_, rfl⟩
  have HU1 := Lib.hid (fun W (hb : Below w.heap.size w W) => (by have k := used_x x A B (lsP P) n0 W (HX0.out W hb); rw [hsu] at k; exact k))
  have HU2 := Lib.hid (fun W (hb : Below w.heap.size w W) => (by have k := mused_any y m B P W (hm.below hb) (by omega) (by omega) hbl; rw [hsu] at k; exact k))
  have HL1 := Lib.hid (fun W (hb : Below w.heap.size w W) => (by have k := left_x x A B (lsP P) n0 W (HX0.out W hb); rw [hsu] at k; exact k))
  have HL2 := Lib.hid (fun W (hb : Below w.heap.size w W) => (by have k := mleft_any y m B P W (hm.below hb) hB hsum (by omega) hbl; rw [hsu] at k; exact k))
  obtain ⟨ao, cap, c0, c1, hcap, _, hrow⟩ := hm.box
  have HROW := Lib.hid hrow
  have HC0 := Lib.hid c0
  have HC1 := Lib.hid c1
  clear hm h hrow hbl
  refine (callsIn_wide (n := 20)).1 ?_
  refine callsIn_of_wp_marks Tryd.func18 rfl trivial ?_ rfl
  simp only [Tryd.ntmps18, List.size_toArray, List.length_cons, List.length_nil, Nat.reduceAdd, Nat.reduceSub, Array.replicate_succ, Array.replicate_zero, List.push_toArray, List.append_toArray, List.nil_append, List.cons_append]
  refine wpIn_wide.2 ?_
  go_wp2
  obtain ⟨W0, hW0⟩ : ∃ W0, (w.alloc (.cells #[.pointer (some ⟨m, 0, none⟩)] 30)).alloc (.cells #[.bool false] 4) = W0 := ⟨_, rfl⟩
  have s1 : (w.alloc (.cells #[.pointer (some ⟨m, 0, none⟩)] 30)).heap.size = w.heap.size + 1 := World.size_alloc _ _
  have s0 : W0.heap.size = w.heap.size + 2 := by rw [← hW0, World.size_alloc, s1]
  have B0 : Below w.heap.size w W0 := by rw [← hW0]; exact (((Below.refl _ _).alloc (Nat.le_refl _) _).alloc (by simp) _)
  have k3 : Blk W0 w.heap.size [.pointer (some ⟨m, 0, none⟩)] 30 := by rw [← hW0]; exact (Blk.new w _ _).alloc _
  have k4 : Blk W0 (w.heap.size + 1) [.bool false] 4 := by rw [← hW0, ← s1]; exact Blk.new _ _ _
  rw [hW0]
  clear hW0 s1
  have HB0 := Lib.hid B0
  have HK3 := Lib.hid k3
  have HK4 := Lib.hid k4
  clear B0 k3 k4
  have p3 := HK3.out.cell (i := 0) rfl
  have p0 := (HB0.out.cell (p := ⟨m, 0, none⟩) (cell_lt HC0.out)).trans HC0.out
  have HQ := Lib.hid (fun n => HB0.out.trans (below_drewN w.heap.size W0 n))
  go_quiet ((first
    | (go_at_call 21; exact Calls.quiet_of_same ((HU1.out _ (HQ.out _)).mono fun _ _ h => ⟨h.1, h.2.symm⟩))
    | (go_at_call 40; exact Calls.quiet_of_same ((HU2.out _ (HQ.out _)).mono fun _ _ h => ⟨h.1, h.2.symm⟩))
    | (go_at_call 22; exact Calls.quiet_of_same ((HL1.out _ (HQ.out _)).mono fun _ _ h => ⟨h.1, h.2.symm⟩))
    | (go_at_call 17; exact Calls.quiet_of (HL2.out _ (HQ.out _)))
    | (go_at_call 41; exact Calls.quiet_of_same ((budget_x x A B (lsP P) n0 _ (HX0.out _ (HQ.out _))).mono fun _ _ h => ⟨h.1, h.2.symm⟩))))
  have HB1 := Lib.hid (HQ.out nq)
  have HK31 := Lib.hid (HK3.out.kept (W' := W0.drewN nq) rfl)
  have HK41 := Lib.hid (HK4.out.kept (W' := W0.drewN nq) rfl)
  have s1 : (W0.drewN nq).heap.size = w.heap.size + 2 := s0
  clear HB0 HK3 HK4 p3 p0 HQ s0
  generalize W0.drewN nq = W1 at HB1 HK31 HK41 s1 ⊢
  have hnil := eql_nilH
  go_wp2_with (go_at_call 42; refine (handles_any _ _).mono ?_; rintro e w' ⟨rfl, rfl⟩)
  obtain ⟨W2, hW2⟩ : ∃ W2, (W1.alloc (.cells #[.pointer (some ⟨A, 0, none⟩)] 25)).alloc (.cells #[.int .i64 0] 3) = W2 := ⟨_, rfl⟩
  have s11 : (W1.alloc (.cells #[.pointer (some ⟨A, 0, none⟩)] 25)).heap.size = w.heap.size + 3 := by rw [World.size_alloc, s1]
  have s2 : W2.heap.size = w.heap.size + 4 := by rw [← hW2, World.size_alloc, s11]
  have B2 : Below w.heap.size w W2 := by rw [← hW2]; exact (HB1.out.alloc HB1.out.size _).alloc (by omega) _
  have k3 : Blk W2 w.heap.size [.pointer (some ⟨m, 0, none⟩)] 30 := by rw [← hW2]; exact (HK31.out.alloc _).alloc _
  have k4 : Blk W2 (w.heap.size + 1) [.bool false] 4 := by rw [← hW2]; exact (HK41.out.alloc _).alloc _
  have kn : Blk W2 (w.heap.size + 2) [.pointer (some ⟨A, 0, none⟩)] 25 := by rw [← hW2, ← s1]; exact (Blk.new W1 _ _).alloc _
  have ki : Blk W2 (w.heap.size + 2 + 1) [.int .i64 ((0 : Nat) : Int)] 3 := by rw [← hW2, ← s11]; exact Blk.new _ _ _
  rw [hW2]
  have HB2 := Lib.hid B2
  have HK3 := Lib.hid k3
  have HK4 := Lib.hid k4
  have HA2 := Lib.hid (HAR.out.below B2)
  have hsane : Ar.Sane S := HIN.out.sane
  have htp := HIN.out.told_place
  have h0 : Shr (w.heap.size + 3) (w.heap.size + 2 + 1) 0 W2 W2 := ⟨Below.refl _ _, ki⟩
  clear hW2 s11 s1 HB1 HK31 HK41 HU1 HU2 HL1 HL2 B2 k3 k4 ki hnil
  refine (wpIn_wide (n := 20)).1 ?_
  refine wpIn_rangeFunc_ownB rfl (by omega) (gf := 55) (lb := #[.pointer (some ⟨w.heap.size + 2, 0, none⟩)]) (by rfl) trivial (enters_of Tryd.func55 (by kernel_rfl) rfl)
    (handles_stops2 _ (by omega) (w.heap.size + 2) A L' S _ hsane htp W2 kn HA2.out) kh2_t kh2_b (Below.refl _ _) (fun _ => rfl)
    (fun pre W' => Shr (w.heap.size + 3) (w.heap.size + 2 + 1) pre.length W2 W')
    (fun c pre W' => False)
    (fun s X Y row hs hg hr => hs.grown (by omega) hg hr)
    (fun c s X Y row hs hg hr => hs)
    h0 ?a1 ?assign ?body ?done ?stop
  case assign =>
    intro l x W K hK
    unfold encHP
    gi_wp2
    exact hK
  case body =>
    rintro l1 pre x W hsh hlen hsp
    have hsp2 : pre ++ [x] <+: (lsP P).map (fun b => (b.1, b.2.length)) := by rw [← HTD.out]; exact hsp
    obtain ⟨hi, hx⟩ := pre_at hsp2
    have HEX := Lib.hid (HM.out.each P[pre.length] (List.getElem_mem hi)).2
    obtain ⟨b, off, rfl, _, d0, d1⟩ := HROW.out pre.length hi
    obtain ⟨ao2, c2, hv⟩ := Rp.form HEX.out
    rw [hv] at d1
    obtain ⟨k, hk⟩ : ∃ k, pre.length = k := ⟨_, rfl⟩
    have HKL := Lib.hid hk
    obtain ⟨hh, hhe⟩ : ∃ hh, P[pre.length].2.1 = hh := ⟨_, rfl⟩
    obtain ⟨nn, hne⟩ : ∃ nn, P[pre.length].2.2.length = nn := ⟨_, rfl⟩
    rw [hhe] at d0
    rw [hne] at d1
    rw [hhe, hne] at hx
    subst hx
    have bw : Below w.heap.size w W := HB2.out.trans (hsh.bel.mono (by omega))
    have e0 := (bw.cell (cell_lt d0)).trans d0
    have e1 := (bw.cell (cell_lt d1)).trans d1
    have e2 := (bw.cell (cell_lt HC1.out)).trans HC1.out
    have p3 := (HK3.out.kept (hsh.bel.block w.heap.size (by omega))).cell (i := 0) rfl
    rw [hk] at hsh e0 e1 hi
    have pi := hsh.num.cell (i := 0) rfl
    have fi := hsh.num.frozen 0
    have HSH := Lib.hid hsh
    have hnl : ¬ P.length ≤ k := by omega
    clear hsh hsp hsp2 hhe hne hk hlen hv d0 d1 bw
    simp only
    gi_wp2
    refine wpIn_region_quiet_rlit (by kernel_rfl) (by kernel_rfl) (by kernel_rfl) ?_
    repeat (gi_big_quiet_step (fail))
    refine wpQuietIn_nil ?_
    intro _ hw'
    obtain ⟨nq, hw''⟩ := hw'
    subst hw''
    gi_wp2
    have hW3 : ∀ q, q ≠ w.heap.size + 2 + 1 → ((W.drewN nq).setCell ⟨w.heap.size + 2 + 1, 0, none⟩ (.int .i64 ((k : Int) + 1))).heap[q]? = W.heap[q]? := fun q hq => Below.heap_setCell (W.drewN nq) ⟨w.heap.size + 2 + 1, 0, none⟩ _ q hq
    have hs3 : ((W.drewN nq).setCell ⟨w.heap.size + 2 + 1, 0, none⟩ (.int .i64 ((k : Int) + 1))).heap.size = W.heap.size := by simp [World.setCell]
    refine ⟨⟨by rw [hs3]; exact Nat.le_refl _, fun q o hq ho _ => (hW3 q (by omega)).trans ho⟩, ⟨fun q l t hq hb => hb.kept (hW3 q (by omega)), fun f ha => are_keep ha HAR.out (Nat.le_refl _) (by rw [hs3]; exact Nat.le_refl _) fun q hq => hW3 q (by omega)⟩, (HSH.out.bel.trans (below_drewN _ _ nq)).setCell (p := ⟨w.heap.size + 2 + 1, 0, none⟩) (by show w.heap.size + 3 ≤ w.heap.size + 2 + 1; omega) _, ?_⟩
    have hbk : Blk (W.drewN nq) (w.heap.size + 2 + 1) [.int .i64 (k : Int)] 3 := HSH.out.num
    have h9 := hbk.set 0 (.int .i64 ((k : Int) + 1))
    rw [List.length_append, List.length_singleton, HKL.out, show ((k + 1 : Nat) : Int) = (k : Int) + 1 by norm_cast]
    exact h9
  case done =>
    rintro D ys W hD hS hsh hK
    have hyl : ys.length = P.length := by
      have e : ys = Ar.told S := hS
      rw [e, HTD.out, List.length_map]; simp [lsP]
    rw [hyl] at hsh
    have bw : Below w.heap.size w W := HB2.out.trans (hsh.bel.mono (by omega))
    have e2 := (bw.cell (cell_lt HC1.out)).trans HC1.out
    have p3 := (HK3.out.kept (hsh.bel.block w.heap.size (by omega))).cell (i := 0) rfl
    have k4 := HK4.out.kept (hsh.bel.block (w.heap.size + 1) (by omega))
    have p4 := k4.cell (i := 0) rfl
    have f4 := k4.frozen 0
    have pi := hsh.num.cell (i := 0) rfl
    have HK4W := Lib.hid k4
    have HBW := Lib.hid bw
    have HKD := Lib.hid hK
    clear hyl hS hsh bw k4 hK
    go_wp2
    go_region
    have hDn : D ≠ w.heap.size + 1 := by omega
    have hDd : (W.setCell ⟨w.heap.size + 1, 0, none⟩ (.bool true)).drew.heap[D]? = some (.deferred (some [])) := (Below.heap_setCell W ⟨w.heap.size + 1, 0, none⟩ _ D hDn).trans HKD.out
    have hk4 : Blk (W.setCell ⟨w.heap.size + 1, 0, none⟩ (.bool true)).drew (w.heap.size + 1) [.bool true] 4 := HK4W.out.set 0 (.bool true)
    have hb4 : Below w.heap.size w (W.setCell ⟨w.heap.size + 1, 0, none⟩ (.bool true)).drew := (HBW.out.setCell (p := ⟨w.heap.size + 1, 0, none⟩) (by show w.heap.size ≤ w.heap.size + 1; omega) (.bool true)).trans ((Below.refl _ _).drew)
    generalize (W.setCell ⟨w.heap.size + 1, 0, none⟩ (.bool true)).drew = W4 at hDd hk4 hb4 ⊢
    have HR4 := Lib.hid (show Blk (W4.putObj D (.deferred none)) (w.heap.size + 1) [.bool true] 4 from hk4.kept (World.putObj_heap_other (Ne.symm hDn)))
    have HB4 := Lib.hid (hb4.grown (grownBy_putObj' W4 D (.deferred none)) hb4.size (fun q e => by cases e; omega))
    have HDD := Lib.hid hDd
    clear hDd hk4 hb4
    go_wp2
    refine ⟨by simp, .inl ⟨_, _, rfl, run_takeDeferred HDD.out, ?_⟩⟩
    refine ⟨_, res_show _ _ (w.heap.size + 1) true rfl (HR4.out.cell (i := 0) rfl), ?_⟩
    exact ⟨rfl, HB4.out⟩
  case stop =>
    rintro D c pre W hD hSp hF hK
    exact hF.elim
end Go.Proofs.YtagjjpmhacknpaaDoor

/- ArenaActs: the arena and the document's own, side by side; Alloc and Free by both. -/
set_option maxRecDepth 100000
namespace Go.Proofs.YtagjjpmhacknpaaDoor
open Go Go.RowKit Go.Shelf
attribute [local go_sem] Oper.semAt_some
structure AaM (K : Nat → Prop) (A m B n0 : Nat) (L L' : List Bl) (w W : World) : Prop where
  ex : ∃ x y P, HX x A B L n0 W ∧ MA y m B P W ∧ lsP P = L' ∧ (∀ b, y b → x b) ∧ (∀ b, K b → x b ∧ ¬ y b)
  bel : Below w.heap.size w W
section
variable {K : Nat → Prop} {A m B n0 : Nat} {L L' : List Bl} {w w1 w2 : World}
theorem AaM.after (h : AaM K A m B n0 L L' w w1) (hb : Below w1.heap.size w1 w2) : AaM K A m B n0 L L' w w2 := by
  obtain ⟨⟨x, y, P, h1, h2, h3, h4, h5⟩, hbel⟩ := h
  exact ⟨⟨x, y, P, h1.after hb, h2.below hb, h3, h4, h5⟩, hbel.trans (hb.mono hbel.size)⟩
/-- Behind a call of the code's arena. -/
theorem AaM.code {L2 : List Bl} (hn : w.heap.size ≤ n0) {x y : Nat → Prop} {P : List Rp} (h2 : MA y m B P w1) (h3 : lsP P = L') (h4 : ∀ b, y b → x b) (h5 : ∀ b, K b → x b ∧ ¬ y b) (hbel : Below w.heap.size w w1) (k : LX x A B L2 n0 w1 w2) : AaM K A m B n0 L2 L' w w2 ∧ ∀ b, K b → w2.heap[b]? = w1.heap[b]? :=
  ⟨⟨⟨x, y, P, k.at_, h2.same fun b hb => k.own b (h4 b hb), h3, h4, h5⟩, hbel.trans (k.below.mono hn)⟩, fun b hb => k.own b (h5 b hb).1⟩
/-- Behind an act of the document's own. -/
theorem AaM.model {P2 : List Rp} (hn : w.heap.size ≤ n0) {x y : Nat → Prop} {P : List Rp} (h1 : HX x A B L n0 w1) (h2 : MA y m B P w1) (h4 : ∀ b, y b → x b) (h5 : ∀ b, K b → x b ∧ ¬ y b) (hbel : Below w.heap.size w w1) (k : MRet y m B P2 w1 w2) : AaM K A m B n0 L (lsP P2) w w2 ∧ ∀ b, K b → w2.heap[b]? = w1.heap[b]? := by
  obtain ⟨k1, k2⟩ := k
  have hxm := h4 m h2.mine
  have hb : Below n0 w1 w2 := k2.below (fun b e => by rw [e]; exact h1.xlow m hxm) h1.low
  refine ⟨⟨⟨plus x w1 w2, plus y w1 w2, P2, h1.turn (fun q hq hx => k2.block q hq fun e => hx (e ▸ hxm)) hb fun q hq => ?_, k1, rfl, fun b hb => hb.imp (h4 b) id, fun b hb => ⟨.inl (h5 b hb).1, fun e => e.elim (h5 b hb).2 fun e => by have := h1.xlt b (h5 b hb).1; omega⟩⟩, hbel.trans (hb.mono hn)⟩, fun b hb => k2.block b (h1.xlt b (h5 b hb).1) fun e => (h5 b hb).2 (e ▸ h2.mine)⟩
  rcases hq with hq | hq
  · exact ⟨h1.xlow q hq, Nat.lt_of_lt_of_le (h1.xlt q hq) k2.size, .inl hq⟩
  · exact ⟨Nat.le_trans h1.low hq.1, hq.2, .inr (.inl hq.1)⟩
/-- A box of the law's own. -/
theorem AaM.box (h : AaM (fun _ => False) A m B n0 L L' w w1) (o : Obj) : AaM (fun b => b = w1.heap.size) A m B n0 L L' w (w1.alloc o) := by
  obtain ⟨⟨x, y, P, h1, h2, h3, h4, _⟩, hbel⟩ := h
  have hb : Below w1.heap.size w1 (w1.alloc o) := (Below.refl _ _).alloc (Nat.le_refl _) o
  exact ⟨⟨fun k => x k ∨ k = w1.heap.size, y, P, h1.mine o, h2.below hb, h3, fun b hb => .inl (h4 b hb), fun b hb => ⟨.inr hb, fun e => by have := h1.xlt b (h4 b e); omega⟩⟩, hbel.trans (hb.mono hbel.size)⟩
theorem AaM.bare (h : AaM K A m B n0 L L' w w1) : AaM (fun _ => False) A m B n0 L L' w w1 := by
  obtain ⟨⟨x, y, P, h1, h2, h3, h4, _⟩, hbel⟩ := h
  exact ⟨⟨x, y, P, h1, h2, h3, h4, fun b hb => hb.elim⟩, hbel⟩
end
/-- What Alloc does, of both. -/
inductive AlAct (B : Nat) (L : List Bl) (z : Int) : List Bl → Nat → Nat → Prop
  | big : Ar.costI z = 0 → AlAct B L z L 0 3
  | full : Ar.costI z ≠ 0 → B - sumC L < Ar.costI z → AlAct B L z L 0 4
  | new (L1 L2 : List Bl) (k : Nat) : z = (k : Int) → Ar.costI z ≠ 0 → Ar.costI z ≤ B - sumC L → L = L1 ++ L2 → Least L1 L2 → AlAct B L z (L1 ++ (L1.length + 1, Ar.zeros k) :: L2) (L1.length + 1) 0
theorem aa_alloc1 (K : Nat → Prop) (A m B n0 : Nat) (L : List Bl) (z : Int) (w W : World) (hn : w.heap.size ≤ n0) (h : AaM K A m B n0 L L w W) :
    Calls Tryd.prog 8 #[.pointer (some ⟨A, 0, none⟩), .int .i64 z] W fun e w' => ∃ (L2 : List Bl) (r er : Nat), e = .returned (.tuple #[.int .i64 (r : Int), .int .i64 (er : Int)]) ∧ AlAct B L z L2 r er ∧ AaM K A m B n0 L2 L w w' ∧ ∀ b, K b → w'.heap[b]? = W.heap[b]? := by
  have hsafe := h
  obtain ⟨⟨x, y, P, h1, h2, h3, h4, h5⟩, hbel⟩ := h
  refine (alloc_x x A B L n0 z W h1).mono fun e w' hk => ?_
  rcases hk with ⟨k1, he, hw⟩ | ⟨k1, k2, he, hw⟩ | ⟨k1, k2, k, L1, L2, hz, _, hL, hl, he, hx⟩
  · exact ⟨L, 0, 3, he, .big k1, hw ▸ hsafe, fun b _ => by rw [hw]⟩
  · exact ⟨L, 0, 4, he, .full k1 k2, hw ▸ hsafe, fun b _ => by rw [hw]⟩
  · exact ⟨_, _, 0, he, .new L1 L2 k hz k1 k2 hL hl, AaM.code hn h2 h3 h4 h5 hbel hx⟩
theorem least_k {L1 L2 : List Bl} {k : Nat} (hl : Least L1 L2) (hk : k ≤ (L1 ++ L2).length) (h1 : ∀ i (h : i < (L1 ++ L2).length), i < k → (L1 ++ L2)[i].1 = i + 1) (h2 : ∀ h : k < (L1 ++ L2).length, (L1 ++ L2)[k].1 ≠ k + 1) : k = L1.length := by
  rcases Nat.lt_trichotomy k L1.length with h | h | h
  · have := h2 (by rw [List.length_append]; omega)
    rw [List.getElem_append_left h] at this
    exact absurd (hl.1 k h) this
  · exact h
  · have hlt : L1.length < (L1 ++ L2).length := by omega
    have h3 := h1 L1.length hlt h
    rw [List.getElem_append_right (Nat.le_refl _)] at h3
    have := hl.2 _ (List.getElem_mem (by rw [List.length_append] at hlt; omega : L1.length - L1.length < L2.length))
    omega
theorem AaM.facts {K : Nat → Prop} {A m B n0 : Nat} {L L' : List Bl} {w W : World} (h : AaM K A m B n0 L L' w W) : sumC L ≤ B ∧ B ≤ 1048576 ∧ (∀ b ∈ L, b.2.length ≤ 4096) ∧ L.length ≤ 65536 ∧ L.Pairwise (fun x y => x.1 < y.1) := by
  obtain ⟨⟨x, y, P, h1, _⟩, _⟩ := h
  exact ⟨h1.sum_le.1, h1.sum_le.2, fun b hb => (h1.each.2 b hb).2, least_le (L1 := L) (L2 := []) (by rw [List.append_nil]; exact h1), h1.each.1⟩
theorem lsP_len (P : List Rp) : (lsP P).length = P.length := by simp [lsP]
theorem lsP_at {P : List Rp} {i : Nat} (h : i < P.length) : (lsP P)[i]'(by rw [lsP_len]; exact h) = P[i].2 := by simp [lsP]
theorem AlAct.facts {B : Nat} {L L2 : List Bl} {z : Int} {r er : Nat} (h : AlAct B L z L2 r er) : L.length ≤ L2.length := by
  cases h with
  | big _ => exact Nat.le_refl _
  | full _ _ => exact Nat.le_refl _
  | new L1 L3 k _ _ _ e _ => subst e; simp
theorem aa_alloc2 (K : Nat → Prop) (A m B n0 : Nat) (L L2 : List Bl) (z : Int) (r er : Nat) (w W : World) (hn : w.heap.size ≤ n0) (hz : -9223372036854775808 ≤ z ∧ z ≤ 9223372036854775807) (hs : sumC L ≤ B) (hB : B ≤ 1048576) (he4 : ∀ b ∈ L, b.2.length ≤ 4096) (hl : L.length ≤ 65536) (h : AaM K A m B n0 L2 L w W) (ha : AlAct B L z L2 r er) :
    Calls Tryd.prog 9 #[.pointer (some ⟨m, 0, none⟩), .int .i64 z] W fun e w' => e = .returned (.tuple #[.int .i64 (r : Int), .int .i64 (er : Int)]) ∧ AaM K A m B n0 L2 L2 w w' ∧ ∀ b, K b → w'.heap[b]? = W.heap[b]? := by
  have hsafe := h
  obtain ⟨⟨x, y, P, h1, h2, rfl, h4, h5⟩, hbel⟩ := h
  have hK : ∀ w', Below W.heap.size W w' → ∀ b, K b → w'.heap[b]? = W.heap[b]? := fun w' hb b hk => hb.block b (h1.xlt b (h5 b hk).1)
  refine (malloc_any y m B P z W h2 hz hB hs (by rw [lsP_len] at hl; omega) he4).mono fun e w' hk => ?_
  rcases hk with ⟨k1, he, hb⟩ | ⟨k1, k2, he, hb⟩ | ⟨k1, k2, k, rw_, hk, g1, g2, he, hR⟩
  · cases ha with
    | big _ => exact ⟨he, hsafe.after hb, hK w' hb⟩
    | full c _ => exact absurd k1 c
    | new _ _ _ _ c _ _ _ => exact absurd k1 c
  · cases ha with
    | big c => exact absurd c k1
    | full _ _ => exact ⟨he, hsafe.after hb, hK w' hb⟩
    | new _ _ _ _ _ c _ _ => omega
  · cases ha with
    | big c => exact absurd c k1
    | full _ c => omega
    | new L1 L3 kk hzk _ _ e hl2 =>
      have hkk : k = L1.length := least_k hl2 (by rw [← e, lsP_len]; exact hk) (fun i h hi => by
        have h9 : i < P.length := by rw [← e, lsP_len] at h; exact h
        have := g1 i h9 hi
        rw [← lsP_at h9] at this
        simpa [e] using this) (fun h => by
        have h9 : k < P.length := by rw [← e, lsP_len] at h; exact h
        have := g2 h9
        rw [← lsP_at h9] at this
        simpa [e] using this)
      have hm := AaM.model hn h1 h2 h4 h5 hbel hR
      have hls : lsP (P.take k ++ (rw_, (k + 1, Ar.zeros z.toNat)) :: P.drop k) = L1 ++ (L1.length + 1, Ar.zeros kk) :: L3 := by
        have e1 : (lsP P).take k = L1 := by rw [e, hkk, List.take_left' rfl]
        have e2 : (lsP P).drop k = L3 := by rw [e, hkk, List.drop_left' rfl]
        unfold lsP at e1 e2 ⊢
        rw [List.map_append, List.map_cons, List.map_take, List.map_drop, e1, e2, hkk, hzk, Int.toNat_natCast]
      rw [hls] at hm
      refine ⟨?_, hm⟩
      rw [he, hkk]
      rfl
/-- What Free does, of both. -/
inductive FrAct (L : List Bl) (z : Int) : List Bl → Nat → Prop
  | none : (∀ b ∈ L, (b.1 : Int) ≠ z) → FrAct L z L 5
  | one (L1 : List Bl) (b : Bl) (L2 : List Bl) : L = L1 ++ b :: L2 → (b.1 : Int) = z → FrAct L z (L1 ++ L2) 0
theorem aa_free1 (K : Nat → Prop) (A m B n0 : Nat) (L : List Bl) (z : Int) (w W : World) (hn : w.heap.size ≤ n0) (h : AaM K A m B n0 L L w W) :
    Calls Tryd.prog 10 #[.pointer (some ⟨A, 0, none⟩), .int .i64 z] W fun e w' => ∃ (L2 : List Bl) (er : Nat), e = .returned (.int .i64 (er : Int)) ∧ FrAct L z L2 er ∧ AaM K A m B n0 L2 L w w' ∧ ∀ b, K b → w'.heap[b]? = W.heap[b]? := by
  obtain ⟨⟨x, y, P, h1, h2, h3, h4, h5⟩, hbel⟩ := h
  refine (free_x x A B L n0 z W h1).mono fun e w' hk => ?_
  rcases hk with ⟨k1, he, hx⟩ | ⟨L1, b, L2, hL, hz, he, hx⟩
  · exact ⟨L, 5, he, .none k1, AaM.code hn h2 h3 h4 h5 hbel hx⟩
  · exact ⟨_, 0, he, .one L1 b L2 hL hz, AaM.code hn h2 h3 h4 h5 hbel hx⟩
theorem aa_free2 (K : Nat → Prop) (A m B n0 : Nat) (L L2 : List Bl) (z : Int) (er : Nat) (w W : World) (hn : w.heap.size ≤ n0) (hl : L.length ≤ 65536) (hsrt : L.Pairwise (fun x y => x.1 < y.1)) (h : AaM K A m B n0 L2 L w W) (ha : FrAct L z L2 er) :
    Calls Tryd.prog 11 #[.pointer (some ⟨m, 0, none⟩), .int .i64 z] W fun e w' => e = .returned (.int .i64 (er : Int)) ∧ AaM K A m B n0 L2 L2 w w' ∧ ∀ b, K b → w'.heap[b]? = W.heap[b]? := by
  have hsafe := h
  obtain ⟨⟨x, y, P, h1, h2, rfl, h4, h5⟩, hbel⟩ := h
  refine (mfree_any y m B P z W h2 (by rw [lsP_len] at hl; omega)).mono fun e w' hk => ?_
  rcases hk with ⟨he, k1, hw⟩ | ⟨he, P1, p, P2, rfl, hz, hR⟩
  · cases ha with
    | none _ => exact ⟨he, hw ▸ hsafe, fun b _ => by rw [hw]⟩
    | one L1 b L2 e c =>
      have hb : b ∈ lsP P := by rw [e]; simp
      obtain ⟨p, hp, rfl⟩ := List.mem_map.1 hb
      exact absurd c (k1 p hp)
  · cases ha with
    | none c => exact absurd hz (c p.2 (by simp [lsP]))
    | one L1 b L2 e c =>
      have e2 : lsP P1 ++ p.2 :: lsP P2 = L1 ++ b :: L2 := by rw [← e]; simp [lsP]
      have hs : (lsP P1 ++ p.2 :: lsP P2).Pairwise (fun x y => x.1 < y.1) := by rw [e2, ← e]; exact hsrt
      obtain ⟨q1, _, q2⟩ := srt_uniq hs e2 (by omega)
      have hm := AaM.model hn h1 h2 h4 h5 hbel hR
      have hls : lsP (P1 ++ P2) = L1 ++ L2 := by rw [← q1, ← q2]; simp [lsP]
      rw [hls] at hm
      exact ⟨he, hm⟩
end Go.Proofs.YtagjjpmhacknpaaDoor
