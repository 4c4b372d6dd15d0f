/- 4 texts put together: Hall, Told, Api, Awk. -/
import Derived.RangeFuncNested
import Derived.RangeFuncBound
import Derived.RangeFuncCalls
import Derived.RangeFuncLeaves
import Derived.Shelf.Abstract
import Derived.Shelf.RegionOpen
import Derived.OwnWalkIn
import Derived.TacticsInMore
import Derived.LoopNIn
import Derived.LoopIn
import Derived.Test.YtdbaocphglijbaaDoorJB5
import Derived.Test.YtdbaocphglijbaaDoorJB10
import Derived.Test.YtdbaocphglijbaaDoorJB12
import Derived.Test.YtdbaocphglijbaaDoorJB13
/- The table's own iterator: the handles that are used, and their places. -/
set_option maxRecDepth 100000
namespace Go.Proofs.YtdbaocphglijbaaDoor
open Go.RowKit Go.Shelf
attribute [local go_sem] Oper.semAt_some
namespace Ar
/-- The handles up to n that are used, and their places. -/
def tabl (S : St) (n : Nat) : List (Nat × Nat) := (List.range n).filterMap fun i => (PlaceOf S ((i + 1 : Nat) : Int)).map fun v => (i + 1, v)
theorem tabl_some {S : St} {n v : Nat} (h : PlaceOf S ((n + 1 : Nat) : Int) = some v) : tabl S (n + 1) = tabl S n ++ [(n + 1, v)] := by
  unfold tabl
  have h : PlaceOf S ((n : Int) + 1) = _ := h
  rw [List.range_succ, List.filterMap_append]
  simp [h]
theorem tabl_none {S : St} {n : Nat} (h : PlaceOf S ((n + 1 : Nat) : Int) = none) : tabl S (n + 1) = tabl S n := by
  unfold tabl
  have h : PlaceOf S ((n : Int) + 1) = _ := h
  rw [List.range_succ, List.filterMap_append]
  simp [h]
theorem tabl_pre (S : St) {n m : Nat} (h : n ≤ m) : tabl S n <+: tabl S m := by
  induction m with
  | zero => obtain rfl : n = 0 := by omega
            exact List.prefix_refl _
  | succ m ih =>
    by_cases e : n = m + 1
    · rw [e]
      exact List.prefix_refl _
    · refine (ih (by omega)).trans ?_
      cases hp : PlaceOf S ((m + 1 : Nat) : Int) with
      | none => rw [tabl_none hp]; exact List.prefix_refl _
      | some v => rw [tabl_some hp]; exact List.prefix_append _ _
theorem tabl_len (S : St) (n : Nat) : (tabl S n).length ≤ n := by
  unfold tabl
  exact Nat.le_trans (List.length_filterMap_le _ _) (by simp)
end Ar
theorem Blk.putD {W : World} {B D : Nat} {l : List Value} {t : TypeId} (h : Blk W B l t) {o : Obj} (hD : W.heap[D]? = some o) (ho : o.isCells = false) (o' : Obj) : Blk (W.putObj D o') B l t := by
  have hne : B ≠ D := fun e => by
    subst e
    rw [show W.heap[B]? = _ from h] at hD
    cases hD
    cases ho
  exact (World.putObj_heap_other hne).trans h
theorem ArE.putD {A : Nat} {L : Loc} {S : Ar.St} {f : Nat → Prop} {W : World} {D : Nat} (h : ArE A L S f W) {o : Obj} (hD : W.heap[D]? = some o) (ho : o.isCells = false) (o' : Obj) : ArE A L S f (W.putObj D o') :=
  ⟨h.box.putD hD ho o', h.mem.putD hD ho o', h.pl.putD hD ho o', h.us.putD hD ho o', h.nd.putD hD ho o', h.cap, h.cm, h.fA, h.fM, h.fP, h.fU, h.fN, fun k e => by have := h.fb k e; simpa [World.putObj] using this⟩
/-- What the iterators ask of a round: blocks from B on hold what they held, and the arena is as it was. -/
def KH (A : Nat) (L : Loc) (S : Ar.St) (B : Nat) (W W' : World) : Prop := (∀ k l t, B ≤ k → Blk W k l t → Blk W' k l t) ∧ ∀ f, ArE A L S f W → ArE A L S f W'
theorem kh_t {A : Nat} {L : Loc} {S : Ar.St} {B : Nat} {X Y Z : World} (h : KH A L S B X Y) (k : KH A L S B Y Z) : KH A L S B X Z := ⟨fun i l t hi b => k.1 i l t hi (h.1 i l t hi b), fun f a => k.2 f (h.2 f a)⟩
theorem kh_b {A : Nat} {L : Loc} {S : Ar.St} {B : Nat} {w : World} (W : World) (l : Nat) (o o' : Obj) (_ : w.heap.size ≤ l) (h : W.heap[l]? = some o) (hc : o.isCells = false) (_ : o.isWalk = false) : KH A L S B W (W.putObj l o') := ⟨fun _ _ _ _ b => b.putD h hc o', fun _ a => a.putD h hc o'⟩
theorem KH.below {A : Nat} {L : Loc} {S : Ar.St} {B : Nat} {W W' : World} (h : Below W.heap.size W W') : KH A L S B W W' := ⟨fun _ _ _ _ b => b.kept (h.block _ b.lt), fun _ a => a.below h⟩
theorem one_of {e : Ending} {A B : Prop} (h : (e = .returned (.bool true) ∧ A) ∨ (e = .returned (.bool false) ∧ B)) : ∃ b : Bool, e = .returned (.bool b) ∧ Hid ((b = true ∧ A) ∨ (b = false ∧ B)) :=
  h.elim (fun ⟨e, a⟩ => ⟨true, e, .inl ⟨rfl, a⟩⟩) (fun ⟨e, b⟩ => ⟨false, e, .inr ⟨rfl, b⟩⟩)
theorem roundIn_any {P : Program} {l1 k k' l f : Nat} {tmps : Array Value} {asg body : Code} {W : World} {R : Ending → World → Prop} (h : RoundIn Fence.wide k P l f tmps asg body W R) : RoundIn (Fence.wide.inRound l1) k' P l f tmps asg body W R :=
  ⟨h.1, fun c cs _ => h.2 c cs (room_wide _)⟩
def encHP (x : Nat × Nat) : Array Value := #[.int .i64 (x.1 : Int), .int .i64 (x.2 : Int)]
set_option maxHeartbeats 4000000 in
theorem all1_in (m l Bn A : Nat) (L : Loc) (S : Ar.St) (f : Nat → Prop) (hm : 1 ≤ m) (hs : Ar.Sane S) (J Jx : List (Nat × Nat) → World → Prop) (W : World) (hJ : OwnBk W.heap.size J)
    (hY : ∀ pre x W1, J pre W1 → pre.length < 1000000 → pre ++ [x] <+: Ar.tabl S S.pl.length → YieldAt Fence.wide (m - 1) Tryd.prog l (encHP x) W1 fun e W' =>
      (e = .returned (.bool true) ∧ J (pre ++ [x]) W' ∧ KH A L S Bn W1 W') ∨ (e = .returned (.bool false) ∧ Jx (pre ++ [x]) W'))
    (hB : Blk W Bn [.pointer (some ⟨A, 2, none⟩)] 125) (hA : ArE A L S f W) (h0 : J [] W) :
    CallsIn Fence.wide m Tryd.prog 104 #[.func (.yield l) #[] #[], .pointer (some ⟨Bn, 0, none⟩)] W fun e W' => (∃ v, e = .returned v) ∧
      ((∃ ys, ys = Ar.tabl S S.pl.length ∧ J ys W') ∨ (∃ pre, pre <+: Ar.tabl S S.pl.length ∧ Jx pre W')) := by
  have hJb : Hid (∀ (pre : List (Nat × Nat)) (W1 : World) (k : Nat), J pre W1 → J pre (W1.drewN k)) := Lib.hid (fun pre W1 k h => hJ _ _ _ none h (by
    have hb : Below W1.heap.size W1 (W1.drewN k) := ⟨rfl, rfl, rfl, Nat.le_refl _, fun _ _ => rfl⟩
    exact ⟨hb.os, hb.tape, hb.output, hb.size, fun k hk _ => hb.block k hk⟩) (fun r e => by cases e))
  have HY := Lib.hid hY
  have HA := Lib.hid hA
  have hpl := hs.pl
  have k0 := hB.cell (i := 0) rfl
  have k2 := hA.cells.2.2.1
  have HB := Lib.hid hB
  clear hY hA hB
  refine callsIn_of_wp Tryd.func104 rfl trivial ?_ rfl
  simp only [Tryd.ntmps104, List.size_toArray, List.length_cons, List.length_nil, Nat.reduceAdd, Nat.reduceSub, Array.replicate_succ, Array.replicate_zero, List.push_toArray, List.append_toArray, List.nil_append, List.cons_append]
  gi_wp2_with fail
  gi_loopw [11] (fun p wr => ∃ i : Nat, p = .int .i64 (i : Int) ∧ i ≤ S.pl.length ∧ Hid (J (Ar.tabl S i) wr) ∧ Hid (ArE A L S f wr) ∧ Hid (Blk wr Bn [.pointer (some ⟨A, 2, none⟩)] 125)) (fun p _ => S.pl.length + 1 - (intOf p).toNat)
  case atStart => exact ⟨0, rfl, Nat.zero_le _, Lib.hid h0, HA, HB⟩
  case round =>
    clear HA HB h0 k0 k2
    obtain ⟨i, rfl, hi, HJ, HA, HB⟩ := hrel
    by_cases hlt : i < S.pl.length
    · have k0 := HB.out.cell (i := 0) rfl
      have hpc := fun w' (hw : ArE A L S f w') => place_any A L S f ((i : Int) + 1) w' hw hs.pl hs.plus hs.us hs.place
      cases hq : Ar.PlaceOf S ((i : Int) + 1) with
      | none =>
        rw [hq] at hpc
        have HPL := Lib.hid hpc
        have HQ := Lib.hid (Ar.tabl_none (S := S) (n := i) hq)
        clear hpc hq
        gi_wp2_with (refine ⟨trivial, ?_⟩; gi_at_call 92; (refine (callsIn_wide.2 (HPL.out _ HA.out)).mono ?_); rintro e w' ⟨rfl, n, rfl⟩; unfold optV encI)
        refine ⟨(fun _ e => by cases e), ?_⟩
        gi_wp2_with fail
        go_roundw
        case rel => exact ⟨i + 1, by go_num, by omega, by rw [HQ.out]; exact Lib.hid (hJb.out _ _ _ HJ.out), Lib.hid (HA.out.drew _), Lib.hid (HB.out.drew _)⟩
        case measure => simp [intOf]; omega
      | some v =>
        rw [hq] at hpc
        have HPL := Lib.hid hpc
        have HQ := Lib.hid (Ar.tabl_some (S := S) (n := i) hq)
        have hyi := fun k => HY.out (Ar.tabl S i) (i + 1, v) (wr.drewN k) (hJb.out _ _ k HJ.out) (by have := Ar.tabl_len S i; omega) (by rw [← HQ.out]; exact Ar.tabl_pre S (by omega))
        have HYI := Lib.hid hyi
        clear hpc hq hyi
        gi_wp2_with (first
          | (refine ⟨trivial, ?_⟩; gi_at_call 92; (refine (callsIn_wide.2 (HPL.out _ HA.out)).mono ?_); rintro e w' ⟨rfl, n, rfl⟩; obtain ⟨fn, tmps, assign, body, hy, hR⟩ := HYI.out n; unfold optV encI; simp only [encHP, Int.natCast_add, Int.cast_ofNat_Int] at hy)
          | (refine hR.mono ?_; intro e W3 hor; obtain ⟨bb, rfl, hbb3⟩ := one_of hor))
        all_goals
          have hfin := hbb3.out
          clear hbb3 hor
        · rename_i hbt
          obtain rfl : bb = false := by cases bb <;> simp_all
          obtain ⟨_, hJx3⟩ := hfin.resolve_left (fun h => by cases h.1)
          refine bodyPost_ret (results_none rfl _ _ _) rfl ?_
          exact ⟨⟨_, rfl⟩, .inr ⟨_, by rw [← HQ.out]; exact Ar.tabl_pre S (by omega), hJx3⟩⟩
        · rename_i hbt
          obtain rfl : bb = true := by cases bb <;> simp_all
          obtain ⟨_, hJ3, hk3⟩ := hfin.resolve_right (fun h => by cases h.1)
          have HJ3 := Lib.hid hJ3
          go_roundw
          case rel => exact ⟨i + 1, by go_num, by omega, by rw [HQ.out]; exact HJ3, Lib.hid (hk3.2 _ (HA.out.drew _)), Lib.hid (hk3.1 _ _ _ (Nat.le_refl _) (HB.out.drew _))⟩
          case measure => simp [intOf]; omega
    · obtain rfl : i = S.pl.length := by omega
      have HJ4 := HJ.out
      gi_wp2_with fail
      go_end0
      exact ⟨⟨_, rfl⟩, .inl ⟨_, rfl, HJ4⟩⟩
theorem all_stops (m : Nat) (hm : 1 ≤ m) (Bn A : Nat) (L : Loc) (S : Ar.St) (f : Nat → Prop) (hs : Ar.Sane S) (w : World) (hB : Blk w Bn [.pointer (some ⟨A, 2, none⟩)] 125) (hA : ArE A L S f w) :
    SeqStopsB Fence.wide m Tryd.prog 104 #[.pointer (some ⟨Bn, 0, none⟩)] encHP (KH A L S Bn) (fun ys => ys = Ar.tabl S S.pl.length) (fun pre => pre <+: Ar.tabl S S.pl.length) 1000000 w :=
  fun l J Jx W hW hJ _ hY h0 => all1_in m l Bn A L S f hm hs J Jx W hJ (fun pre x W1 h1 hl hp => by
    obtain ⟨fn, tmps, assign, body, hy, hR⟩ := hY pre x W1 h1 hl hp
    exact ⟨fn, tmps, assign, body, hy, hR.mono fun e W' h => h.imp (fun h => ⟨h.1, h.2.1, h.2.2.1⟩) (fun h => ⟨h.1, h.2.1⟩)⟩) (hB.kept (hW.block _ hB.lt)) (hA.below hW) h0
set_option maxHeartbeats 1000000 in
theorem all_any (A : Nat) (w : World) :
    Calls Tryd.prog 94 #[.pointer (some ⟨A, 2, none⟩)] w fun e w' => e = .returned (.func (.func 104) #[] #[.pointer (some ⟨w.heap.size, 0, none⟩)]) ∧ w' = w.alloc (.cells #[.pointer (some ⟨A, 2, none⟩)] 125) := by
  go_enter Tryd.func94, Tryd.ntmps94
  go_wp2
  go_ret
  exact ⟨rfl, rfl⟩
end Go.Proofs.YtdbaocphglijbaaDoor

/- What Handles tells of an arena: its blocks in the order of their handles. -/
set_option maxRecDepth 100000
namespace Go.Proofs.YtdbaocphglijbaaDoor
namespace Ar
theorem tabl_mem {S : St} {n : Nat} {x : Nat × Nat} : x ∈ tabl S n ↔ ∃ i, i < n ∧ x.1 = i + 1 ∧ PlaceOf S ((i + 1 : Nat) : Int) = some x.2 := by
  unfold tabl
  rw [List.mem_filterMap]
  constructor
  · rintro ⟨i, hi, h⟩
    obtain ⟨v, hv, rfl⟩ := Option.map_eq_some_iff.1 h
    exact ⟨i, List.mem_range.1 hi, rfl, hv⟩
  · rintro ⟨i, hi, h1, h2⟩
    exact ⟨i, List.mem_range.2 hi, Option.map_eq_some_iff.2 ⟨x.2, h2, by rw [← h1]⟩⟩
theorem tabl_lt (S : St) : ∀ n, (tabl S n).Pairwise (fun x y => x.1 < y.1)
  | 0 => by simp [tabl]
  | n + 1 => by
    cases h : PlaceOf S ((n + 1 : Nat) : Int) with
    | none => rw [tabl_none h]; exact tabl_lt S n
    | some v =>
      rw [tabl_some h, List.pairwise_append]
      refine ⟨tabl_lt S n, List.pairwise_singleton _ _, fun x hx y hy => ?_⟩
      obtain ⟨i, hi, e, _⟩ := tabl_mem.1 hx
      rw [List.mem_singleton] at hy
      subst hy
      show x.1 < n + 1
      omega
theorem told_lt (S : St) (g : Nat × Nat → Nat × Nat) (hg : ∀ x, (g x).1 = x.1) (n : Nat) : ((tabl S n).map g).Pairwise (fun x y => x.1 < y.1) := by
  rw [List.pairwise_map]
  exact (tabl_lt S n).imp fun h => by rw [hg, hg]; exact h
/-- The places that are told are those of blocks. -/
theorem Inv.tabl {S : St} {pcs : List Pc} (I : Inv S pcs) {x : Nat × Nat} : x ∈ tabl S S.pl.length ↔ ∃ p, At pcs x.2 p ∧ p.free = false ∧ p.owner = x.1 := by
  rw [tabl_mem]
  constructor
  · rintro ⟨i, hi, h1, h2⟩
    rw [h1]
    exact (I.hn _ _).1 h2
  · rintro ⟨p, h1, h2, h3⟩
    have h := (I.hn x.1 x.2).2 ⟨p, h1, h2, h3⟩
    obtain ⟨k, e, hk, _, _⟩ := placeOf_some h
    exact ⟨k, hk, by omega, by rw [show ((k + 1 : Nat) : Int) = (x.1 : Int) by omega]; exact h⟩
/-- The head of a piece. -/
theorem Inv.head {S : St} {pcs : List Pc} (I : Inv S pcs) {v : Nat} {p : Pc} (h : At pcs v p) : (∃ a, headAt S.mem v = p.hd a) ∧ v + p.takes ≤ S.mem.length := by
  obtain ⟨rest, hm, hr⟩ := I.mem
  have hlen := I.len
  have hlim := I.lim
  have hok := I.ok p (at_mem h)
  obtain ⟨us, bs, rfl, rfl⟩ := at_split h
  rw [total_app] at hlen
  simp only [total] at hlen
  refine ⟨⟨lastT 0 us, ?_⟩, by omega⟩
  have e : S.mem = lay 0 us ++ (byte8 (p.hd (lastT 0 us)).word ++ p.data) ++ (lay p.takes bs ++ rest) := by
    rw [hm, lay_app]; simp only [lay]; unfold Pc.bytes; simp only [List.append_assoc]
  rw [e, ← lay_len 0 us]
  exact headAt_app _ _ _ _ (hd_fits (m := 0) hok (by omega) (lastT_le (by omega) (by omega)) rfl)
theorem Inv.told_place {S : St} {pcs : List Pc} (I : Inv S pcs) : ∀ x ∈ Ar.tabl S S.pl.length, x.2 + 8 ≤ S.mem.length := fun x hx => by
  obtain ⟨p, h1, _, _⟩ := I.tabl.1 hx
  have := (I.head h1).2
  have := (I.ok p (at_mem h1)).ge
  omega
/-- What Handles tells are the blocks. -/
theorem Inv.told {S : St} {pcs : List Pc} (I : Inv S pcs) {h n : Nat} : (h, n) ∈ (Ar.tabl S S.pl.length).map (fun x => (x.1, (headAt S.mem x.2).size)) ↔ ∃ q ∈ blocks pcs, q.owner = h ∧ q.size = n := by
  rw [List.mem_map]
  constructor
  · rintro ⟨x, hx, e⟩
    obtain ⟨p, h1, h2, h3⟩ := I.tabl.1 hx
    obtain ⟨⟨a, ha⟩, _⟩ := I.head h1
    simp only [Prod.mk.injEq] at e
    rw [ha] at e
    exact ⟨p, mem_blocks.2 ⟨at_mem h1, h2⟩, by omega, e.2⟩
  · rintro ⟨q, hq, h1, h2⟩
    obtain ⟨q1, q2⟩ := mem_blocks.1 hq
    obtain ⟨v, hv⟩ := at_of_mem q1
    obtain ⟨⟨a, ha⟩, _⟩ := I.head hv
    exact ⟨(h, v), I.tabl.2 ⟨q, hv, q2, h1⟩, by simp only; rw [ha]; show (h, q.size) = (h, n); rw [h2]⟩
end Ar
end Go.Proofs.YtdbaocphglijbaaDoor

/- The package's functions over an arena that holds these blocks. -/
set_option maxRecDepth 100000
namespace Go.Proofs.YtdbaocphglijbaaDoor
open Go.RowKit Go.Shelf
/-- A is an arena of so many bytes that holds these blocks. -/
def Hold (A B : Nat) (bs : List Ar.Pc) (f : Nat → Prop) (w : World) : Prop := ∃ L S pcs, ArE A L S f w ∧ Ar.Inv S pcs ∧ Ar.blocks pcs = bs ∧ S.mem.length = B
/-- A call has left it so. -/
structure Left_ (A B : Nat) (bs : List Ar.Pc) (f : Nat → Prop) (w w' : World) : Prop where
  trn : Trn f w w'
  hold : Hold A B bs (grow f w w') w'
theorem Left_.mk' {A B : Nat} {bs : List Ar.Pc} {f : Nat → Prop} {w w' : World} {L : Loc} {S : Ar.St} {pcs : List Ar.Pc} (h : Ars A L S f w w') (I : Ar.Inv S pcs) (hb : Ar.blocks pcs = bs) (hm : S.mem.length = B) : Left_ A B bs f w w' := ⟨h.trn, L, S, pcs, h.ar, I, hb, hm⟩
theorem Left_.below {A B : Nat} {bs : List Ar.Pc} {f : Nat → Prop} {w w' : World} (h : Hold A B bs f w) (hb : Below w.heap.size w w') : Left_ A B bs f w w' := by
  obtain ⟨L, S, pcs, a, I, e, m⟩ := h
  exact .mk' ((Ars.start a).below hb) I e m
/-- The block of a handle, among these. -/
theorem Ar.Inv.place {S : Ar.St} {pcs : List Ar.Pc} (I : Ar.Inv S pcs) (h : Int) : (Ar.PlaceOf S h = none ∧ ∀ q ∈ Ar.blocks pcs, (q.owner : Int) ≠ h) ∨ ∃ v q xs ys, Ar.PlaceOf S h = some v ∧ pcs = xs ++ q :: ys ∧ Ar.total xs = v ∧ q.free = false ∧ (q.owner : Int) = h ∧ q.Ok ∧ (Ar.headAt S.mem v).size = q.size ∧ v + 8 + q.data.length ≤ S.mem.length := by
  cases hp : Ar.PlaceOf S h with
  | none =>
    refine .inl ⟨rfl, fun q hq e => ?_⟩
    obtain ⟨q1, q2⟩ := Ar.mem_blocks.1 hq
    obtain ⟨v, hv⟩ := Ar.at_of_mem q1
    have := (I.hn q.owner v).2 ⟨q, hv, q2, rfl⟩
    rw [e, hp] at this
    cases this
  | some v =>
    obtain ⟨xs, q, ys, k, rfl, rfl, hf, hk, hz, _⟩ := I.block_pos hp
    obtain ⟨⟨a, ha⟩, hl⟩ := I.head (Ar.at_mid xs ys q)
    refine .inr ⟨_, q, xs, ys, rfl, rfl, rfl, hf, by rw [hk, hz], I.ok q (by simp), by rw [ha]; rfl, ?_⟩
    unfold Ar.Pc.takes at hl
    omega
theorem data_ge {q : Ar.Pc} (hq : q.Ok) (hf : q.free = false) : q.size ≤ q.data.length ∧ 8 ≤ q.data.length ∧ q.size ≤ 4096 := by
  obtain ⟨h1, h2⟩ := hq.bl hf
  have h3 := Ar.cost_ge q.size h1
  have h4 := hq.ge
  unfold Ar.Pc.takes at h2 h4
  omega
def AllocOk (A B : Nat) (bs : List Ar.Pc) (n : Int) (f : Nat → Prop) (w : World) (e : Ending) (w' : World) : Prop :=
  (Ar.costI n = 0 ∧ e = .returned (.tuple #[.int .i64 0, .int .i64 3]) ∧ w = w') ∨ (Ar.costI n ≠ 0 ∧ B - Ar.sumT bs < Ar.costI n ∧ e = .returned (.tuple #[.int .i64 0, .int .i64 4]) ∧ w = w') ∨
  (Ar.costI n ≠ 0 ∧ Ar.costI n ≤ B - Ar.sumT bs ∧ ∃ (h : Nat) (B1 B2 : List Ar.Pc) (b : Ar.Pc), e = .returned (.tuple #[.int .i64 (h : Int), .int .i64 0]) ∧ bs = B1 ++ B2 ∧ Left_ A B (B1 ++ b :: B2) f w w' ∧ (b.size : Int) = n ∧ IsNew b h b.size ∧ 1 ≤ h ∧ (∀ q ∈ bs, q.owner ≠ h) ∧ ∀ j, 1 ≤ j → j < h → ∃ q ∈ bs, q.owner = j)
theorem alloc_api (A B : Nat) (bs : List Ar.Pc) (f : Nat → Prop) (n : Int) (w : World) (hH : Hold A B bs f w) (hT : TabOk w) (hG : ¬ f 0) :
    Calls Tryd.prog 17 #[.pointer (some ⟨A, 0, none⟩), .int .i64 n] w (AllocOk A B bs n f w) := by
  obtain ⟨L, S, pcs, a, I, rfl, rfl⟩ := hH
  by_cases h0 : Ar.costI n = 0
  · exact (alloc_big _ n w h0).mono fun e w' h => .inl ⟨h0, h⟩
  · have hr : 0 ≤ n ∧ n ≤ 4096 := by
      unfold Ar.costI at h0
      by_cases h : 0 ≤ n ∧ n ≤ 4096
      · exact h
      · rw [if_neg h] at h0; exact absurd rfl h0
    obtain ⟨k, rfl⟩ : ∃ k : Nat, n = (k : Int) := ⟨n.toNat, by omega⟩
    have hk : k ≤ 4096 := by omega
    have hc : Ar.costI (k : Int) = Ar.cost k := by unfold Ar.costI; rw [if_pos hr, Int.toNat_natCast]
    have hu := I.used
    by_cases hl : S.mem.length - S.used < Ar.cost k
    · exact (alloc_full A L S f k _ w a I.sane hk rfl hl).mono fun e w' h => .inr (.inl ⟨h0, by rw [hc, ← hu]; exact hl, h⟩)
    · refine (alloc_any A L S pcs f k _ w a I hk rfl (by omega) hT hG).mono fun e w' h => .inr (.inr ?_)
      obtain ⟨h, L', S', pcs', B1, B2, b, he, hA, hI, hm, e1, e2, hN, g1, g2, g3⟩ := h
      exact ⟨h0, by rw [hc, ← hu]; omega, h, B1, B2, b, he, e1, .mk' hA hI e2 hm, by rw [hN.size], ⟨hN.free, hN.own, rfl, by rw [hN.size]; exact hN.zero⟩, g1, g2, g3⟩
set_option maxHeartbeats 1000000 in
theorem free_none (v : Value) (h : Int) (w : World) (hb : Calls Tryd.prog 58 #[v, .int .i64 h] w fun e w' => e = .returned (.tuple #[.int .i64 0, .bool false]) ∧ ∃ n, w' = w.drewN n) :
    Calls Tryd.prog 19 #[v, .int .i64 h] w fun e w' => e = .returned (.int .i64 5) ∧ ∃ n, w' = w.drewN n := by
  have HB := Lib.hid hb
  clear hb
  go_enter Tryd.func19, Tryd.ntmps19
  go_wp2_with (go_at_call 58; (refine HB.out.mono ?_); rintro e w' ⟨rfl, n, rfl⟩)
  go_ret
  exact ⟨rfl, _, rfl⟩
def FreeOk (A B : Nat) (bs : List Ar.Pc) (h : Int) (f : Nat → Prop) (w : World) (e : Ending) (w' : World) : Prop :=
  ((∀ q ∈ bs, (q.owner : Int) ≠ h) ∧ e = .returned (.int .i64 5) ∧ Below w.heap.size w w') ∨ (∃ B1 q B2, bs = B1 ++ q :: B2 ∧ (q.owner : Int) = h ∧ e = .returned (.int .i64 0) ∧ Left_ A B (B1 ++ B2) f w w')
theorem free_api (A B : Nat) (bs : List Ar.Pc) (f : Nat → Prop) (h : Int) (w : World) (hH : Hold A B bs f w) :
    Calls Tryd.prog 19 #[.pointer (some ⟨A, 0, none⟩), .int .i64 h] w (FreeOk A B bs h f w) := by
  obtain ⟨L, S, pcs, a, I, rfl, rfl⟩ := hH
  rcases I.place h with ⟨h1, h2⟩ | ⟨v, q, xs, ys, h1, _⟩
  · exact (free_none _ h w (block_none A L S f h w a I.sane h1)).mono fun e w' ⟨he, n, hw⟩ => .inl ⟨h2, he, by rw [hw]; exact below_dr w n⟩
  · refine (free_any A L S pcs f h v w a I h1).mono fun e w' ⟨he, L', S', pcs', B1, B2, p, hA, hI, hm, e1, e2, e3⟩ => .inr ⟨B1, p, B2, e1, e3, he, .mk' hA hI e2 hm⟩
def SizeOk (bs : List Ar.Pc) (h : Int) (w : World) (e : Ending) (w' : World) : Prop :=
  Below w.heap.size w w' ∧ (((∀ q ∈ bs, (q.owner : Int) ≠ h) ∧ e = .returned (.tuple #[.int .i64 0, .bool false])) ∨ ∃ q ∈ bs, (q.owner : Int) = h ∧ e = .returned (.tuple #[.int .i64 (q.size : Int), .bool true]))
theorem size_api (A B : Nat) (bs : List Ar.Pc) (f : Nat → Prop) (h : Int) (w : World) (hH : Hold A B bs f w) :
    Calls Tryd.prog 32 #[.pointer (some ⟨A, 0, none⟩), .int .i64 h] w (SizeOk bs h w) := by
  obtain ⟨L, S, pcs, a, I, rfl, rfl⟩ := hH
  rcases I.place h with ⟨h1, h2⟩ | ⟨v, q, xs, ys, h1, rfl, rfl, hf, ho, hok, hsz, hlen⟩
  · exact (size_none A L S f h w a I.sane h1).mono fun e w' ⟨he, n, hw⟩ => ⟨by rw [hw]; exact below_dr w n, .inl ⟨h2, he⟩⟩
  · exact (size_some A L S f h _ _ w a I.sane h1 (by omega) rfl).mono fun e w' ⟨he, hb⟩ => ⟨hb, .inr ⟨q, Ar.mem_blocks.2 ⟨by simp, hf⟩, ho, by rw [he, hsz]⟩⟩
theorem used_api (A B : Nat) (bs : List Ar.Pc) (f : Nat → Prop) (w : World) (hH : Hold A B bs f w) : Calls Tryd.prog 31 #[.pointer (some ⟨A, 0, none⟩)] w fun e w' => e = .returned (.int .i64 (Ar.sumT bs : Int)) ∧ w = w' := by
  obtain ⟨L, S, pcs, a, I, rfl, rfl⟩ := hH
  rw [← I.used]
  exact used_any A L S f w a
theorem left_api (A B : Nat) (bs : List Ar.Pc) (f : Nat → Prop) (w : World) (hH : Hold A B bs f w) : Calls Tryd.prog 29 #[.pointer (some ⟨A, 0, none⟩)] w fun e w' => e = .returned (.int .i64 ((B - Ar.sumT bs : Nat) : Int)) ∧ w = w' := by
  obtain ⟨L, S, pcs, a, I, rfl, rfl⟩ := hH
  rw [← I.used]
  exact left_any A L S f w a I.sane.mem I.sane.used
theorem compact_api (A B : Nat) (bs : List Ar.Pc) (f : Nat → Prop) (w : World) (hH : Hold A B bs f w) : Calls Tryd.prog 25 #[.pointer (some ⟨A, 0, none⟩)] w fun e w' => e = .returned (.int .i64 ((B - Ar.sumT bs : Nat) : Int)) ∧ Left_ A B bs f w w' := by
  obtain ⟨L, S, pcs, a, I, rfl, rfl⟩ := hH
  rw [← I.used]
  exact (compact_any A L S pcs f w a I).mono fun e w' ⟨he, L', S', pcs', hA, hI, e1, hm⟩ => ⟨he, .mk' hA hI e1 hm⟩
def ReadOk (bs : List Ar.Pc) (h at_ n : Int) (w : World) (e : Ending) (w' : World) : Prop :=
  Below w.heap.size w w' ∧ (((∀ q ∈ bs, (q.owner : Int) ≠ h) ∧ e = .returned (.tuple #[.slice none 0 0, .int .i64 5])) ∨ ∃ q ∈ bs, (q.owner : Int) = h ∧
    ((¬ Within q.size at_ n ∧ e = .returned (.tuple #[.slice none 0 0, .int .i64 1])) ∨ (Within q.size at_ n ∧ ∃ v l, l = (q.data.drop at_.toNat).take n.toNat ∧ e = .returned (.tuple #[v, .int .i64 0]) ∧ w'.ownsRow w.heap.size 5 1 v l.length (l.map encB))))
theorem read_api (A B : Nat) (bs : List Ar.Pc) (f : Nat → Prop) (h at_ n : Int) (w : World) (hH : Hold A B bs f w)
    (hI1 : -9223372036854775808 ≤ at_) (hI2 : at_ ≤ 9223372036854775807) (hI3 : -9223372036854775808 ≤ n) (hI4 : n ≤ 9223372036854775807) :
    Calls Tryd.prog 21 #[.pointer (some ⟨A, 0, none⟩), .int .i64 h, .int .i64 at_, .int .i64 n] w (ReadOk bs h at_ n w) := by
  obtain ⟨L, S, pcs, a, I, rfl, rfl⟩ := hH
  rcases I.place h with ⟨h1, h2⟩ | ⟨v, q, xs, ys, h1, rfl, rfl, hf, ho, hok, hsz, hlen⟩
  · exact (read_err _ h at_ n 5 w ((span_none A L S f h at_ n w a I.sane h1).mono fun e w' ⟨he, k, hw⟩ => ⟨he, by rw [hw]; exact below_dr w k⟩)).mono fun e w' ⟨he, hb⟩ => ⟨hb, .inl ⟨h2, he⟩⟩
  · have hq : q ∈ Ar.blocks (xs ++ q :: ys) := Ar.mem_blocks.2 ⟨by simp, hf⟩
    obtain ⟨d1, d2, d3⟩ := data_ge hok hf
    by_cases hw : Within q.size at_ n
    · obtain ⟨w1, w2, w3, w4⟩ := id hw
      obtain ⟨i, rfl⟩ : ∃ i : Nat, at_ = (i : Int) := ⟨at_.toNat, by omega⟩
      obtain ⟨m, rfl⟩ : ∃ m : Nat, n = (m : Int) := ⟨n.toNat, by omega⟩
      have hg := read_good A L S f h i m _ _ w a I.sane h1 hsz (by omega) (by omega) (by omega)
      rw [I.bytes i m (by omega)] at hg
      exact hg.mono fun e w' ⟨v, he, hr, hb⟩ => ⟨hb, .inr ⟨q, hq, ho, .inr ⟨hw, v, _, by simp only [Int.toNat_natCast], he, hr⟩⟩⟩
    · exact (read_err _ h at_ n 1 w (span_bad A L S f h at_ n _ _ w a I.sane h1 hsz (by omega) (by omega) hw hI1 hI2 hI3 hI4)).mono fun e w' ⟨he, hb⟩ => ⟨hb, .inr ⟨q, hq, ho, .inl ⟨hw, he⟩⟩⟩
def WriteOk (A B : Nat) (bs : List Ar.Pc) (h at_ : Int) (l : List UInt8) (f : Nat → Prop) (w : World) (e : Ending) (w' : World) : Prop :=
  ((∀ q ∈ bs, (q.owner : Int) ≠ h) ∧ e = .returned (.int .i64 5) ∧ Below w.heap.size w w') ∨ ∃ B1 q B2, bs = B1 ++ q :: B2 ∧ (q.owner : Int) = h ∧
    ((¬ Within q.size at_ l.length ∧ e = .returned (.int .i64 1) ∧ Below w.heap.size w w') ∨ (Within q.size at_ l.length ∧ e = .returned (.int .i64 0) ∧ Left_ A B (B1 ++ { q with data := Ar.put q.data at_.toNat l } :: B2) f w w'))
theorem write_api (A B : Nat) (bs : List Ar.Pc) (f : Nat → Prop) (h at_ : Int) (b : Value) (l : List UInt8) (w : World) (hH : Hold A B bs f w) (hb : RdB b l w) (hl : l.length ≤ 1048576)
    (hI1 : -9223372036854775808 ≤ at_) (hI2 : at_ ≤ 9223372036854775807) :
    Calls Tryd.prog 23 #[.pointer (some ⟨A, 0, none⟩), .int .i64 h, .int .i64 at_, b] w (WriteOk A B bs h at_ l f w) := by
  obtain ⟨L, S, pcs, a, I, rfl, rfl⟩ := hH
  rcases I.place h with ⟨h1, h2⟩ | ⟨v, q, xs, ys, h1, rfl, rfl, hf, ho, hok, hsz, hlen⟩
  · exact (write_err _ b l h at_ 5 w hb hl ((span_none A L S f h at_ _ w a I.sane h1).mono fun e w' ⟨he, k, hw⟩ => ⟨he, by rw [hw]; exact below_dr w k⟩)).mono fun e w' ⟨he, hb⟩ => .inl ⟨h2, he, hb⟩
  · have hbl : Ar.blocks (xs ++ q :: ys) = Ar.blocks xs ++ q :: Ar.blocks ys := by rw [Ar.blocks_app, Ar.blocks_block ys hf]
    obtain ⟨d1, d2, d3⟩ := data_ge hok hf
    by_cases hw : Within q.size at_ l.length
    · obtain ⟨w1, w2, w3, w4⟩ := id hw
      obtain ⟨i, rfl⟩ : ∃ i : Nat, at_ = (i : Int) := ⟨at_.toNat, by omega⟩
      have hg := write_good A L S f h i b l _ _ w a I.sane hb h1 hsz (by omega) (by omega) (by omega)
      have hput := I.put_ i l (by omega)
      have hdl := Ar.put_len q.data i l (by omega)
      have hinv := I.data hf (Ar.put q.data i l) hdl
      rw [hput] at hg
      refine hg.mono fun e w' ⟨he, hA⟩ => .inr ⟨_, q, _, hbl, ho, .inr ⟨hw, he, ?_⟩⟩
      rw [Int.toNat_natCast]
      refine .mk' hA hinv (by rw [Ar.blocks_app, Ar.blocks_block (p := { q with data := Ar.put q.data i l }) ys hf]) ?_
      show (Ar.put _ _ _).length = _
      rw [Ar.put_len _ _ _ (by rw [hdl]; omega)]
    · exact (write_err _ b l h at_ 1 w hb hl (span_bad A L S f h at_ _ _ _ w a I.sane h1 hsz (by omega) (by omega) hw hI1 hI2 (by omega) (by omega))).mono fun e w' ⟨he, hb⟩ => .inr ⟨_, q, _, hbl, ho, .inl ⟨hw, he, hb⟩⟩
def NewOk (B : Nat) (w : World) (e : Ending) (w' : World) : Prop := ∃ A, e = .returned (.tuple #[.pointer (some ⟨A, 0, none⟩), .int .i64 0]) ∧ Hold A B [] (fun j => w.heap.size ≤ j ∧ j < w'.heap.size) w' ∧ Below w.heap.size w w'
theorem new_api (B : Nat) (w : World) (h1 : 1024 ≤ B) (h2 : B ≤ 1048576) : Calls Tryd.prog 15 #[.int .i64 (B : Int)] w (NewOk B w) := by
  obtain ⟨pcs, hI, hb, hm⟩ := Ar.new_inv B h1 h2
  exact (new_any B w h1 h2).mono fun e w' ⟨A, L, he, hA, hbl⟩ => ⟨A, he, ⟨L, _, pcs, hA, hI, hb, hm⟩, hbl⟩
end Go.Proofs.YtdbaocphglijbaaDoor

/- awake: what the document fixes. -/
set_option maxRecDepth 100000
namespace Go.Proofs.YtdbaocphglijbaaDoor
open Go.RowKit Go.Shelf
/-- An arena whose memory lies from n0 on. -/
def HoldA (A B : Nat) (bs : List Ar.Pc) (n0 : Nat) (w : World) : Prop := Hold A B bs (fun j => n0 ≤ j ∧ j < w.heap.size) w ∧ n0 ≤ w.heap.size
theorem HoldA.left {A B : Nat} {bs bs' : List Ar.Pc} {n0 : Nat} {w w' : World} (h : HoldA A B bs n0 w) (k : Left_ A B bs' (fun j => n0 ≤ j ∧ j < w.heap.size) w w') : HoldA A B bs' n0 w' ∧ Below n0 w w' := by
  obtain ⟨L, S, pcs, a, I, e, m⟩ := k.hold
  have hs := k.trn.size
  have h2 := h.2
  exact ⟨⟨⟨L, S, pcs, a.wide (fun j e => e.elim (fun e => ⟨e.1, Nat.lt_of_lt_of_le e.2 hs⟩) (fun e => ⟨Nat.le_trans h2 e.1, e.2⟩)) (fun j e => e.2), I, e, m⟩, Nat.le_trans h2 hs⟩, k.trn.below (fun j e => e.1) h2⟩
theorem HoldA.below {A B : Nat} {bs : List Ar.Pc} {n0 : Nat} {w w' : World} (h : HoldA A B bs n0 w) (hb : Below w.heap.size w w') : HoldA A B bs n0 w' := (h.left (Left_.below h.1 hb)).1
theorem TabOk.below {n0 : Nat} {w w' : World} (h : TabOk w) (hn : 0 < n0) (hb : Below n0 w w') : TabOk w' :=
  fun j hj => (World.cell?_of_block (a := ⟨0, j, none⟩) (hb.block _ hn)).trans (h j hj)
theorem aw_alloc (A n0 : Nat) (w : World) (h : HoldA A 1024 [] n0 w) (hT : TabOk w) (hn : 0 < n0) :
    Calls Tryd.prog 17 #[.pointer (some ⟨A, 0, none⟩), .int .i64 9] w fun e w' => e = .returned (.tuple #[.int .i64 1, .int .i64 0]) ∧ (∃ b, HoldA A 1024 [b] n0 w' ∧ IsNew b 1 9) ∧ Below n0 w w' := by
  refine (alloc_api A 1024 [] _ 9 w h.1 hT (fun e => by omega)).mono fun e w' hk => ?_
  rcases hk with ⟨h1, _⟩ | ⟨_, h1, _⟩ | ⟨_, _, i, B1, B2, b, he, e1, hL, hz, hN, g1, _, g3⟩
  · exact absurd h1 (by decide)
  · exact absurd h1 (by decide)
  · obtain ⟨rfl, rfl⟩ := List.append_eq_nil_iff.1 e1.symm
    have hi : i = 1 := by
      apply Classical.byContradiction
      intro hne
      obtain ⟨q, hq, _⟩ := g3 1 (Nat.le_refl _) (by omega)
      cases hq
    subst hi
    have hz9 : b.size = 9 := by omega
    rw [hz9] at hN
    obtain ⟨k1, k2⟩ := h.left hL
    exact ⟨he, ⟨b, k1, hN⟩, k2⟩
theorem take9 {l : List UInt8} (h : l.take 9 = Ar.zeros 9) : 9 ≤ l.length ∧ (Ar.put l 1 [97, 98, 99]).take 5 = [0, 97, 98, 99, 0] := by
  have hl : 9 ≤ l.length := by have := congrArg List.length h; simp [Ar.zeros] at this; omega
  refine ⟨hl, ?_⟩
  rw [← List.take_append_drop 9 l, h]
  rfl
theorem aw_write (A n0 : Nat) (b : Ar.Pc) (v : Value) (w : World) (h : HoldA A 1024 [b] n0 w) (hN : IsNew b 1 9) (hv : RdB v [97, 98, 99] w) :
    Calls Tryd.prog 23 #[.pointer (some ⟨A, 0, none⟩), .int .i64 1, .int .i64 1, v] w fun e w' => e = .returned (.int .i64 0) ∧ (∃ q, HoldA A 1024 [q] n0 w' ∧ q.owner = 1 ∧ q.size = 9 ∧ q.data.take 5 = [0, 97, 98, 99, 0]) ∧ Below n0 w w' := by
  refine (write_api A 1024 [b] _ 1 1 v [97, 98, 99] w h.1 hv (by decide) (by decide) (by decide)).mono fun e w' hk => ?_
  rcases hk with ⟨h1, _⟩ | ⟨B1, q, B2, e1, ho, h1⟩
  · exact absurd (show (b.owner : Int) = 1 by rw [hN.own]; rfl) (h1 b (List.mem_singleton.2 rfl))
  · obtain ⟨rfl, rfl, rfl⟩ : B1 = [] ∧ q = b ∧ B2 = [] := by
      cases B1 with
      | nil => simp at e1; exact ⟨rfl, e1.1.symm, e1.2⟩
      | cons x r => simp at e1
    rcases h1 with ⟨h1, _⟩ | ⟨_, he, hL⟩
    · exact absurd (show Within q.size 1 3 by rw [hN.size]; exact ⟨by decide, by decide, by decide, by decide⟩) h1
    · obtain ⟨k1, k2⟩ := h.left hL
      have hz := hN.zero
      exact ⟨he, ⟨_, k1, hN.own, hN.size, (take9 hz).2⟩, k2⟩
theorem aw_read (A n0 : Nat) (q : Ar.Pc) (w : World) (h : HoldA A 1024 [q] n0 w) (h1 : q.owner = 1) (h2 : q.size = 9) (h3 : q.data.take 5 = [0, 97, 98, 99, 0]) :
    Calls Tryd.prog 21 #[.pointer (some ⟨A, 0, none⟩), .int .i64 1, .int .i64 0, .int .i64 5] w fun e w' => (∃ v, e = .returned (.tuple #[v, .int .i64 0]) ∧ w'.ownsRow w.heap.size 5 1 v 5 (([0, 97, 98, 99, 0] : List UInt8).map encB)) ∧ Below w.heap.size w w' := by
  refine (read_api A 1024 [q] _ 1 0 5 w h.1 (by decide) (by decide) (by decide) (by decide)).mono fun e w' hk => ?_
  obtain ⟨hb, hk⟩ := hk
  refine ⟨?_, hb⟩
  rcases hk with ⟨g1, _⟩ | ⟨q', hq, ho, hk⟩
  · exact absurd (show (q.owner : Int) = 1 by rw [h1]; rfl) (g1 q (List.mem_singleton.2 rfl))
  · rw [List.mem_singleton] at hq
    subst hq
    rcases hk with ⟨g1, _⟩ | ⟨_, v, l, hl, he, hr⟩
    · exact absurd (show Within q'.size 0 5 by rw [h2]; exact ⟨by decide, by decide, by decide, by decide⟩) g1
    · have : l = [0, 97, 98, 99, 0] := by rw [hl]; exact h3
      subst this
      exact ⟨v, he, hr⟩
theorem aw_size (A n0 : Nat) (q : Ar.Pc) (w : World) (h : HoldA A 1024 [q] n0 w) (h1 : q.owner = 1) (h2 : q.size = 9) :
    Calls Tryd.prog 32 #[.pointer (some ⟨A, 0, none⟩), .int .i64 1] w fun e w' => e = .returned (.tuple #[.int .i64 9, .bool true]) ∧ Below w.heap.size w w' := by
  refine (size_api A 1024 [q] _ 1 w h.1).mono fun e w' hk => ?_
  obtain ⟨hb, hk⟩ := hk
  refine ⟨?_, hb⟩
  rcases hk with ⟨g1, _⟩ | ⟨q', hq, ho, he⟩
  · exact absurd (show (q.owner : Int) = 1 by rw [h1]; rfl) (g1 q (List.mem_singleton.2 rfl))
  · rw [List.mem_singleton] at hq
    subst hq
    rw [he, h2]
    rfl
theorem sum32 {S : Ar.St} {pcs : List Ar.Pc} {q : Ar.Pc} (I : Ar.Inv S pcs) (e : Ar.blocks pcs = [q]) (h2 : q.size = 9) : Ar.sumT [q] = 32 := by
  have hq : q ∈ Ar.blocks pcs := by rw [e]; exact List.mem_singleton.2 rfl
  obtain ⟨q1, q2⟩ := Ar.mem_blocks.1 hq
  have h3 := ((I.ok q q1).bl q2).2
  rw [h2] at h3
  have h4 : Ar.sumT [q] = q.takes := by simp [Ar.sumT]
  rw [h4, ← h3]
  decide
theorem HoldA.sum {A n0 : Nat} {q : Ar.Pc} {w : World} (h : HoldA A 1024 [q] n0 w) (h2 : q.size = 9) : Ar.sumT [q] = 32 := by
  obtain ⟨⟨L, S, pcs, a, I, e, m⟩, _⟩ := h
  exact sum32 I e h2
theorem aw_used (A n0 : Nat) (q : Ar.Pc) (w : World) (h : HoldA A 1024 [q] n0 w) (h2 : q.size = 9) : Calls Tryd.prog 31 #[.pointer (some ⟨A, 0, none⟩)] w fun e w' => e = .returned (.int .i64 32) ∧ w = w' := by
  have := used_api A 1024 [q] _ w h.1
  rw [h.sum h2] at this
  exact this
theorem aw_left (A n0 : Nat) (q : Ar.Pc) (w : World) (h : HoldA A 1024 [q] n0 w) (h2 : q.size = 9) : Calls Tryd.prog 29 #[.pointer (some ⟨A, 0, none⟩)] w fun e w' => e = .returned (.int .i64 992) ∧ w = w' := by
  have := left_api A 1024 [q] _ w h.1
  rw [h.sum h2] at this
  exact this
theorem aw_compact (A n0 : Nat) (q : Ar.Pc) (w : World) (h : HoldA A 1024 [q] n0 w) (h2 : q.size = 9) : Calls Tryd.prog 25 #[.pointer (some ⟨A, 0, none⟩)] w fun e w' => e = .returned (.int .i64 992) ∧ Below n0 w w' := by
  have := compact_api A 1024 [q] _ w h.1
  rw [h.sum h2] at this
  exact this.mono fun e w' ⟨he, hL⟩ => ⟨he, (h.left hL).2⟩
theorem aw_new (w : World) : Calls Tryd.prog 15 #[.int .i64 1024] w fun e w' => ∃ A, e = .returned (.tuple #[.pointer (some ⟨A, 0, none⟩), .int .i64 0]) ∧ HoldA A 1024 [] w.heap.size w' ∧ Below w.heap.size w w' :=
  (new_api 1024 w (by decide) (by decide)).mono fun e w' ⟨A, he, hH, hb⟩ => ⟨A, he, ⟨hH, hb.size⟩, hb⟩
end Go.Proofs.YtdbaocphglijbaaDoor
