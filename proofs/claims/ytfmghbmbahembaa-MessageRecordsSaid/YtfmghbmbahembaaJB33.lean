/- A reader of a message: the body. -/
import Derived.Test.YtfmghbmbahembaaJB7
import Derived.Test.YtfmghbmbahembaaJB32
/- A reader of a message: the body. -/
namespace Go.Proofs.Ytfmghbmbahembaa
open Go.RowKit Go.Shelf
attribute [local go_sem] Oper.semAt_some

theorem ownK_of_block {α : Type} {enc : α → List Value} {k : Nat} {e : TypeId} {base : Nat} {v : Value} {l : List α} {W W' : World} (h : OwnK enc k e base v l W) (hb : ∀ g, v.ownBlock = some g → g < W.heap.size → W'.heap[g]? = W.heap[g]?) : OwnK enc k e base v l W' := by
  refine ⟨h.1, ?_⟩
  rcases h.2 with hn | ⟨g, cap, cur, rfl, hbg, hgb, r⟩
  · exact .inl hn
  · exact .inr ⟨g, cap, cur, rfl, hbg, (hb g rfl (blk_lt hgb)).trans hgb, r⟩
theorem ownK_base {α : Type} {enc : α → List Value} {k : Nat} {e : TypeId} {base : Nat} {v : Value} {l : List α} {W : World} (h : OwnK enc k e base v l W) {g : Nat} (hg : v.ownBlock = some g) : base ≤ g := by
  rcases h.2 with ⟨rfl, _⟩ | ⟨g', cap, cur, rfl, hbg, _⟩
  · cases hg
  · cases hg; exact hbg
theorem ownK_turn {α : Type} {enc : α → List Value} {k : Nat} {e : TypeId} {base B : Nat} {v : Value} {l : List α} {W W' : World} (h : OwnK enc k e base v l W) (ht : Turn (Only B) W W') (hB : B < base) : OwnK enc k e base v l W' :=
  ownK_of_block h fun g hg hlt => ht.block g hlt (fun e => by have := ownK_base h hg; rw [show g = B from e] at this; omega)
theorem ownK_set {α : Type} {enc : α → List Value} {k : Nat} {e : TypeId} {base R i : Nat} {v u : Value} {l : List α} {W : World} (h : OwnK enc k e base v l W) (hR : R < base) : OwnK enc k e base v l (W.setCell ⟨R, i, none⟩ u) :=
  ownK_of_block h fun g hg _ => Below.heap_setCell W ⟨R, i, none⟩ u g (fun e => by have := ownK_base h hg; rw [show g = R from e] at this; omega)

theorem len1 {α : Type} (l : List α) (x : α) : (l ++ [x]).length = l.length + 1 := by simp
/-- The message's cells while it is read. -/
def bodyCells (b : List UInt8) (vq va vn vd : Value) (ed : Bool) (z : Int) : List Value := [.int .i64 (Ms.hdOf b).id, .bool (Ms.hdOf b).resp, .int .i64 (Ms.hdOf b).opc, .bool (Ms.hdOf b).auth, .bool (Ms.hdOf b).cut, .bool (Ms.hdOf b).des, .bool (Ms.hdOf b).avl, .int .i64 (Ms.hdOf b).code, vq, va, vn, vd, .bool ed, .int .i64 z]
def QInv (b : List UInt8) (n : Nat) (qs : List Ms.Q) (s : Option Nat) (T : Option (List Ms.Q × Nat)) : Prop := (cQs b n s).map (fun x => (qs ++ x.1, x.2)) = T
theorem qInv_step {b : List UInt8} {n : Nat} {qs : List Ms.Q} {s : Option Nat} {T : Option (List Ms.Q × Nat)} (h : QInv b (n + 1) qs s T) : QInv b n (qs ++ [cQ b s]) (cQTo b s) T := by
  rw [← h]; unfold QInv; simp only [cQs, Option.map_map]
  congr 1
  funext x
  simp
theorem qInv_end {b : List UInt8} {qs : List Ms.Q} {s : Option Nat} {T : Option (List Ms.Q × Nat)} (h : QInv b 0 qs s T) : T = s.map fun p => (qs, p) := by
  rw [← h]; simp only [cQs, Option.map_map]
  congr 1
  funext x
  simp

/-- The section so far. -/
def InI (b : List UInt8) (i n : Nat) (l : List Rd.RR) (s : Option Nat) (ed : Bool) (z : Int) (T : Option Ms.St) : Prop := (s.bind fun p => cSec b i n ⟨p, ed, z, l⟩) = T
theorem inI_none {b : List UInt8} {i n : Nat} {l : List Rd.RR} {ed : Bool} {z : Int} {T : Option Ms.St} (h : InI b i n l none ed z T) : T = none := h.symm
theorem inI_end {b : List UInt8} {i : Nat} {l : List Rd.RR} {s : Option Nat} {ed : Bool} {z : Int} {T : Option Ms.St} (h : InI b i 0 l s ed z T) : T = s.map fun p => ⟨p, ed, z, l⟩ := by
  rw [← h]; cases s <;> rfl
theorem cRec_eq (b : List UInt8) (i : Nat) (st : Ms.St) {r : Rd.RR} {q : Nat} (h : recGood b (some st.at') = some (r, q)) : cRec b i st = if r.typ = 41 then (if i = 2 ∧ r.name = [0] ∧ st.edns = false then some ⟨q, true, r.cls, st.acc⟩ else none)
    else (if Rd.check r = true then some ⟨q, st.edns, st.esz, st.acc ++ [r]⟩ else none) := by unfold cRec; rw [h]
theorem inI_opt {b : List UInt8} {i n p : Nat} {l : List Rd.RR} {s5 : Option Nat} {ed : Bool} {z : Int} {T : Option Ms.St} {r : Rd.RR} {ok : Bool} (h : InI b i (n + 1) l (some p) ed z T) (hc : Comes (recGood b (some p)) r s5) (ht : r.typ = 41)
    (hok : ok = true ↔ i = 2 ∧ r.name = [0] ∧ ed = false) : InI b i n l (after ok s5) true r.cls T := by
  rw [← h]
  unfold InI
  simp only [Option.bind_some, cSec]
  cases hg : recGood b (some p) with
  | none =>
    rw [hc.2 hg]
    have : cRec b i ⟨p, ed, z, l⟩ = none := by unfold cRec; simp only; rw [hg]
    rw [this]
    cases ok <;> rfl
  | some x =>
    obtain ⟨y, q⟩ := x
    obtain ⟨rfl, rfl⟩ := hc.1 y q hg
    rw [cRec_eq b i ⟨p, ed, z, l⟩ hg, if_pos ht]
    cases ok with
    | true => rw [if_pos (hok.1 rfl)]; rfl
    | false => rw [if_neg (fun e => by cases hok.2 e)]; rfl
theorem inI_rec {b : List UInt8} {i n p : Nat} {l : List Rd.RR} {s5 : Option Nat} {ed : Bool} {z : Int} {T : Option Ms.St} {r : Rd.RR} (h : InI b i (n + 1) l (some p) ed z T) (hc : Comes (recGood b (some p)) r s5) (ht : r.typ ≠ 41) : InI b i n (l ++ [r]) (after (Rd.check r) s5) ed z T := by
  rw [← h]
  unfold InI
  simp only [Option.bind_some, cSec]
  cases hg : recGood b (some p) with
  | none =>
    rw [hc.2 hg]
    have : cRec b i ⟨p, ed, z, l⟩ = none := by unfold cRec; simp only; rw [hg]
    rw [this]
    unfold after
    split <;> rfl
  | some x =>
    obtain ⟨y, q⟩ := x
    obtain ⟨rfl, rfl⟩ := hc.1 y q hg
    rw [cRec_eq b i ⟨p, ed, z, l⟩ hg, if_neg ht]
    cases hk : Rd.check r with
    | true => rfl
    | false => rfl
theorem few_end {l : List Rd.RR} {s : Option Nat} {ed : Bool} {z : Int} : few (s.map fun p => ⟨p, ed, z, l⟩) = (after (decide (l.length ≤ 64)) s).map fun p => (⟨p, ed, z, l⟩ : Ms.St) := by
  unfold few
  cases s with
  | none => unfold after; split <;> rfl
  | some p =>
    simp only [Option.map_some, Option.bind_some]
    by_cases h : l.length ≤ 64
    · rw [if_pos h, decide_eq_true h]; rfl
    · rw [if_neg h, decide_eq_false h]; rfl
/-- The sections so far. -/
def SecInv (b : List UInt8) (qs : List Ms.Q) (i : Nat) (s : Option Nat) (ed : Bool) (z : Int) (va vn vd : Value) (l0 l1 l2 : List Rd.RR) (X : Option Ms.M) : Prop := match i with
  | 0 => va = .slice none 0 0 ∧ vn = .slice none 0 0 ∧ vd = .slice none 0 0 ∧ l0 = [] ∧ l1 = [] ∧ l2 = [] ∧ X = s.bind fun p => tail0 b qs ⟨p, ed, z, []⟩
  | 1 => vn = .slice none 0 0 ∧ vd = .slice none 0 0 ∧ l1 = [] ∧ l2 = [] ∧ X = s.bind fun p => tail1 b qs l0 ⟨p, ed, z, []⟩
  | 2 => vd = .slice none 0 0 ∧ l2 = [] ∧ X = s.bind fun p => tail2 b qs l0 l1 ⟨p, ed, z, []⟩
  | _ => X = s.bind fun p => tail3 b qs l0 l1 ⟨p, ed, z, l2⟩
theorem sec_next {α : Type} {b : List UInt8} {i c : Nat} {s s2 : Option Nat} {ed ed2 : Bool} {z z2 : Int} {l : List Rd.RR} {T : Option Ms.St} {f : Ms.St → Option α} {X : Option α} (hX : X = s.bind fun p => (few (cSec b i c ⟨p, ed, z, []⟩)).bind f)
    (hT : InI b i c [] s ed z T) (hE : T = s2.map fun p => ⟨p, ed2, z2, l⟩) : X = (after (decide (l.length ≤ 64)) s2).bind fun p => f ⟨p, ed2, z2, l⟩ := by
  have h1 : X = (few T).bind f := by
    rw [hX, ← hT]
    cases s <;> rfl
  rw [h1, hE, few_end]
  generalize after _ _ = s3
  cases s3 <;> rfl
/-- What the body comes to. -/
def BodyRet (B : Nat) (b : List UInt8) (bv : Value) (X : Option Ms.M) (w : World) (e : Ending) (w' : World) : Prop := ∃ m vq va vn vd s', e = .returned (msgV m vq va vn vd) ∧ Lists m vq va vn vd w' ∧ Turn (Only B) w w' ∧ RdS B b bv s' w' ∧ (∀ y, X = some y → m = y ∧ s' ≠ none) ∧ (X = none → s' = none)

set_option maxRecDepth 100000 in
set_option maxHeartbeats 40000000 in
theorem dbody_any (B : Nat) (b : List UInt8) (bv : Value) (w : World) (h : RdS B b bv (some 12) w) (hcap : CapOk bv) (hlen : b.length ≤ 4096) (hq : tw b 4 ≤ 4) :
    Calls Try.prog 27 #[.pointer (some ⟨B, 0, none⟩), msgV (Ms.hdOf b) (.slice none 0 0) (.slice none 0 0) (.slice none 0 0) (.slice none 0 0), countsV b] w (BodyRet B b bv (cBody b) w) := by
  have CN := Lib.hid (fun s W (hr : RdS B b bv s W) => dname_any B b bv s W hr hcap (by omega))
  have C2 := Lib.hid (fun s W (hr : RdS B b bv s W) => dtwo_any B b bv s W hr hcap (by omega))
  have hB0 : Bod B b bv (some 12) (some 12) w w.heap.size (((w.alloc (.cells (bodyCells b (.slice none 0 0) (.slice none 0 0) (.slice none 0 0) (.slice none 0 0) false 0).toArray 27)).alloc (.cells (cnt b 4).toArray 61)).alloc (.cells msg0.toArray 27)) (w.heap.size + 3) (bodyCells b (.slice none 0 0) (.slice none 0 0) (.slice none 0 0) (.slice none 0 0) false 0) (((w.alloc (.cells (bodyCells b (.slice none 0 0) (.slice none 0 0) (.slice none 0 0) (.slice none 0 0) false 0).toArray 27)).alloc (.cells (cnt b 4).toArray 61)).alloc (.cells msg0.toArray 27)) := by
    have m4 := Mine.new h (Turn.refl _ _) (bodyCells b (.slice none 0 0) (.slice none 0 0) (.slice none 0 0) (.slice none 0 0) false 0) 27 rfl (by simp [bodyCells])
    have m5 := Block.new (w.alloc (.cells (bodyCells b (.slice none 0 0) (.slice none 0 0) (.slice none 0 0) (.slice none 0 0) false 0).toArray 27)) (cnt b 4).toArray 61
    have m6 := Block.new ((w.alloc (.cells (bodyCells b (.slice none 0 0) (.slice none 0 0) (.slice none 0 0) (.slice none 0 0) false 0).toArray 27)).alloc (.cells (cnt b 4).toArray 61)) msg0.toArray 27
    rw [World.size_alloc] at m5
    rw [World.size_alloc, World.size_alloc] at m6
    exact ⟨h, (m4.below ((Below.refl _ _).alloc (Nat.le_refl _) _)).below ((Below.refl _ _).alloc (Nat.le_refl _) _), m5.alloc _, m6, by omega, by rw [World.size_alloc, World.size_alloc, World.size_alloc]; omega, fun _ _ _ _ => rfl⟩
  have hsz0 : (((w.alloc (.cells (bodyCells b (.slice none 0 0) (.slice none 0 0) (.slice none 0 0) (.slice none 0 0) false 0).toArray 27)).alloc (.cells (cnt b 4).toArray 61)).alloc (.cells msg0.toArray 27)).heap.size = w.heap.size + 3 := by rw [World.size_alloc, World.size_alloc, World.size_alloc]
  have hz6 := zeroMsg ((w.alloc (.cells (bodyCells b (.slice none 0 0) (.slice none 0 0) (.slice none 0 0) (.slice none 0 0) false 0).toArray 27)).alloc (.cells (cnt b 4).toArray 61))
  obtain ⟨X, hX⟩ : ∃ X, cBody b = X := ⟨_, rfl⟩
  rw [hX]
  unfold cBody at hX
  obtain ⟨T, hT⟩ : ∃ T, cQs b (tw b 4) (some 12) = T := ⟨_, rfl⟩
  rw [hT] at hX
  have HQ : Hid (QInv b (tw b 4) [] (some 12) T) := Lib.hid (by rw [← hT]; unfold QInv; simp)
  have HX := Lib.hid hX
  have hc6 := tw_le b 6
  have hc8 := tw_le b 8
  have hc10 := tw_le b 10
  obtain ⟨q, hqq⟩ : ∃ q, tw b 4 = q := ⟨_, rfl⟩
  rw [hqq] at hq HQ
  have HQQ := Lib.hid hqq
  clear h hX hT hqq
  rw [cnt_four, HQQ.out] at hz6
  have e1 : msgV (Ms.hdOf b) (.slice none 0 0) (.slice none 0 0) (.slice none 0 0) (.slice none 0 0) = .agg (bodyCells b (.slice none 0 0) (.slice none 0 0) (.slice none 0 0) (.slice none 0 0) false 0).toArray := rfl
  rw [e1]
  unfold countsV
  rw [HQQ.out]
  simp only [bodyCells, msg0] at hz6 ⊢
  go_enter Try.func27, Try.ntmps27
  go_wp2_with fail
  clear hz6
  simp only [cnt_four, HQQ.out] at hB0 hsz0
  simp only [bodyCells, msg0] at hB0 hsz0
  generalize World.alloc _ _ = W0 at hB0 hsz0 ⊢
  obtain ⟨R, hR⟩ : ∃ R, w.heap.size = R := ⟨_, rfl⟩
  rw [hR] at hB0 hsz0 ⊢
  replace hB0 : Bod B b bv (some 12) (some 12) w R W0 (R + 3) (bodyCells b (.slice none 0 0) (.slice none 0 0) (.slice none 0 0) (.slice none 0 0) false 0) W0 := hB0
  have HB0 := Lib.hid hB0
  have HSZ0 := Lib.hid hsz0
  have HRW := Lib.hid hR
  have hBR := hB0.B_lt
  clear hB0 hsz0 hR
  go_loopw [13] (fun i wr => ∃ (k : Nat) (qs : List Ms.Q) (vq : Value) (s : Option Nat), i = .int .i64 (k : Int) ∧ k ≤ q ∧ qs.length = k ∧ Hid (OwnK encQ 3 47 (R + 3) vq qs wr) ∧ Hid (Bod B b bv (some 12) s w R W0 (R + 3) (bodyCells b vq (.slice none 0 0) (.slice none 0 0) (.slice none 0 0) false 0) wr) ∧ Hid (QInv b (q - k) qs s T)) (fun i _ => q + 1 - (intOf i).toNat)
  case atStart => exact ⟨0, [], _, _, rfl, by omega, rfl, Lib.hid (ownK_nil _ _ _ _ _), HB0, HQ⟩
  case round =>
    obtain ⟨k, qs, vq, s, rfl, hk, hqs, ho, hb, hi⟩ := hrel
    by_cases hlt : k < q
    · have HI2 : Hid (QInv b (q - (k + 1)) (qs ++ [cQ b s]) (cQTo b s) T) := Lib.hid (by
        have := hi.out
        rw [show q - k = (q - (k + 1)) + 1 by omega] at this
        exact qInv_step this)
      have c8 := hb.out.m4.blk.cell (i := 8) (v := vq) rfl
      have D1 := Lib.hid (CN.out s _ hb.out.drew.m4.rd)
      have D2 := Lib.hid (C2.out (nameTo b s))
      have D3 := Lib.hid (C2.out (twoTo b (nameTo b s)))
      have hnl := nameAt_len b s
      have HE : Hid (cQ b s = ⟨nameAt b s, (twoAt b (nameTo b s) : Int), (twoAt b (twoTo b (nameTo b s)) : Int)⟩) := Lib.hid rfl
      have HE2 : Hid (cQTo b s = twoTo b (twoTo b (nameTo b s))) := Lib.hid rfl
      rw [HE.out, HE2.out] at HI2
      clear HE HE2
      generalize twoAt b (twoTo b (nameTo b s)) = cc at D3 HI2
      generalize twoTo b (twoTo b (nameTo b s)) = s3 at D3 HI2
      generalize twoAt b (nameTo b s) = tt at D2 HI2
      generalize twoTo b (nameTo b s) = s2 at D2 D3
      generalize nameAt b s = nn at D1 HI2 hnl
      generalize nameTo b s = s1 at D1 D2
      go_wp2_with fail
      go_region_law (first
          | (go_simp; go_at_call 58; (with_reducible refine D1.out.mono ?_); rintro e5 w5 ⟨rfl, t5, h5⟩; have B5 := Lib.hid (hb.out.drew.then t5 h5); have O5 := Lib.hid (ownK_turn (ownK_below ho.out (Below.refl _ _).drew) t5 (by omega)); have c85 := B5.out.m4.blk.cell (i := 8) (v := vq) rfl; clear t5 h5)
          | (go_simp; go_at_call 56; (with_reducible refine (D2.out _ B5.out.m4.rd).mono ?_); rintro e6 w6 ⟨rfl, t6, h6⟩; have B6 := Lib.hid (B5.out.then t6 h6); have O6 := Lib.hid (ownK_turn O5.out t6 (by omega)); have c86 := B6.out.m4.blk.cell (i := 8) (v := vq) rfl; clear t6 h6)
          | (go_simp; go_at_call 56; (with_reducible refine (D3.out _ B6.out.m4.rd).mono ?_); rintro e7 w7 ⟨rfl, t7, h7⟩; have B7 := Lib.hid (B6.out.then t7 h7); have O7 := Lib.hid (ownK_turn O6.out t7 (by omega)); have c87 := B7.out.m4.blk.cell (i := 8) (v := vq) rfl; have c877 := fun o => (B7.out.alloc o).m4.blk.cell (i := 8) (v := vq) rfl; clear t7 h7)
          | (refine step_ap1 encQ 3 encQ_len (by omega) encQ_one 24 47 _ 32 Try.underlying24 infoQ rfl (by omega) (by rfl) (.tmp 16) (.tmp 24) (by rfl) (R + 3) vq qs (by rfl) (ownK_alloc O7.out _) w7.heap.size ⟨nn, (tt : Int), (cc : Int)⟩ (by rfl) (Block.new _ _ _) (by omega) ((B7.out.alloc _).his) ?_; intro v8 w8 ho8 hg8 hv8; obtain ⟨ao8, cap8, rfl, _⟩ := ownK_form ho8; have B8 := Lib.hid ((B7.out.alloc _).apd (by omega) (ownK_alloc O7.out _) hg8); have O8 := Lib.hid ho8; have c88 := B8.out.m4.blk.cell (i := 8) (v := vq) rfl; have f88 := B8.out.m4.blk.frozen 8;  clear ho8 hg8 hv8))
      all_goals
        go_wp2_with fail
        go_roundw
        case rel => exact ⟨k + 1, qs ++ [⟨nn, (tt : Int), (cc : Int)⟩], _, s3, by go_num, by omega, by rw [List.length_append, hqs]; rfl, Lib.hid (by have := O8.out; rw [len1, hqs] at this; exact ownK_set this (by omega)), Lib.hid (B8.out.set 8 _ rfl), HI2⟩
        case measure => simp [intOf]; omega
    · have hTE : T = s.map fun p => (qs, p) := qInv_end (by have := hi.out; rw [show q - k = 0 by omega] at this; exact this)
      have HS0 : Hid (X = s.bind fun p => tail0 b qs ⟨p, false, 0, []⟩) := Lib.hid (by rw [← HX.out, hTE]; cases s <;> rfl)
      have CR := Lib.hid (fun s W (hr : RdS B b bv s W) => drec_any B b bv s W hr hcap (by omega))
      have RQ := Lib.hid (readQ_own ho.out)
      have B1 := Lib.hid hb.out.again
      clear hTE HQ HX HQQ hi HB0 HSZ0 C2 CN hqs
      go_wp2_with fail
      go_loopw [32] (fun iv wr2 => ∃ (i0 : Nat) (s : Option Nat) (ed : Bool) (z : Int) (va vn vd : Value) (l0 l1 l2 : List Rd.RR), iv = .int .i64 (i0 : Int) ∧ i0 ≤ 3 ∧ Hid (Bod B b bv (some 12) s w R wr2 wr2.heap.size (bodyCells b vq va vn vd ed z) wr2) ∧ Hid (ReadQ vq qs wr2) ∧ Hid (ReadR va l0 wr2) ∧ Hid (ReadR vn l1 wr2) ∧ Hid (ReadR vd l2 wr2) ∧ Hid (SecInv b qs i0 s ed z va vn vd l0 l1 l2 X)) (fun iv _ => 4 - (intOf iv).toNat)
      case atStart => exact ⟨0, s, false, 0, _, _, _, [], [], [], rfl, by omega, B1, RQ, Lib.hid (readR_nil _), Lib.hid (readR_nil _), Lib.hid (readR_nil _), Lib.hid ⟨rfl, rfl, rfl, rfl, rfl, rfl, HS0.out⟩⟩
      case round =>
        clear B1 RQ HS0 hb ho
        obtain ⟨i0, s, ed, z, va, vn, vd, l0, l1, l2, rfl, hi0, hb, hrq, hra, hrn, hrd, hsi⟩ := hrel
        have hcase : i0 = 0 ∨ i0 = 1 ∨ i0 = 2 ∨ i0 = 3 := by omega
        rcases hcase with rfl | rfl | rfl | rfl
        · obtain ⟨rfl, rfl, rfl, rfl, rfl, rfl, hX0⟩ := hsi.out
          have HX0 := Lib.hid hX0
          clear hX0 hsi
          obtain ⟨W1, rfl⟩ : ∃ W1, W1 = wr := ⟨_, rfl⟩
          obtain ⟨Hi, hHi⟩ : ∃ n, W1.heap.size = n := ⟨_, rfl⟩
          rw [hHi] at hb
          have hHi3 : R + 2 < Hi := hb.out.lt
          have HHI := Lib.hid hHi
          obtain ⟨T2, hT2⟩ : ∃ T, InI b 0 (tw b 6) [] s ed z T := ⟨_, rfl⟩
          have HT2 := Lib.hid hT2
          have HHR : Hid (RdS B b bv s W1) := Lib.hid hb.out.m4.rd
          have HHM := Lib.hid hb.out.m4.blk
          clear hHi hT2
          simp only [show ((0 : Nat) : Int) = 0 from rfl]
          have ix := fun W => idx_p0 W (.pointer (some ⟨R, 9, none⟩)) (.pointer (some ⟨R, 10, none⟩)) (.pointer (some ⟨R, 11, none⟩))
          go_wp2_with fail
          clear ix
          go_loopw [9] (fun jv wr2 => ∃ (j : Nat) (l : List Rd.RR) (v : Value) (s : Option Nat) (ed : Bool) (z : Int), jv = .int .i64 (j : Int) ∧ j ≤ tw b 6 ∧ l.length ≤ j ∧ Hid (OwnK encRR 5 45 Hi v l wr2) ∧ Hid (Bod B b bv (some 12) s w R W1 Hi (bodyCells b vq v (.slice none 0 0) (.slice none 0 0) ed z) wr2) ∧ Hid (InI b 0 (tw b 6 - j) l s ed z T2)) (fun jv _ => tw b 6 + 1 - (intOf jv).toNat)
          case atStart => exact ⟨0, [], _, s, ed, z, rfl, by omega, by simp, Lib.hid (ownK_nil _ _ _ _ _), hb, HT2⟩
          case round =>
            obtain ⟨j, l, v, s1, ed1, z1, rfl, hj, hl, ho, hb1, hi1⟩ := hrel
            have d1 := hb1.out.m5.cell (i := 1) (v := .int .i64 (tw b 6 : Int)) rfl
            clear hb
            by_cases hlt : j < tw b 6 ∧ s1 ≠ none
            · obtain ⟨hlt, hne⟩ := hlt
              obtain ⟨p, rfl⟩ : ∃ p, s1 = some p := Option.ne_none_iff_exists'.1 hne
              have hi2 := hi1.out
              rw [show tw b 6 - j = (tw b 6 - (j + 1)) + 1 by omega] at hi2
              have HI2 := Lib.hid hi2
              have e2 := hb1.out.m4.rd.here.cell (i := 2) (v := .int .i64 0) rfl
              have D := Lib.hid (CR.out (some p) _ hb1.out.m4.rd)
              clear hi2 hne
              go_wp2_with fail
              refine D.out.mono ?_
              rintro e5 w5 ⟨⟨rn, rt, rc, rl, rd⟩, s5, rfl, hrn, hrd, t5, h5, hcm⟩
              have HCM := Lib.hid hcm
              have B5 := Lib.hid (hb1.out.then t5 h5)
              have O5 := Lib.hid (ownK_turn ho.out t5 (by omega))
              have B6 := Lib.hid (B5.out.alloc (.cells #[.string ⟨rn.toArray⟩, .int .i64 rt, .int .i64 rc, .int .i64 rl, .string ⟨rd.toArray⟩] 45))
              have O6 := Lib.hid (ownK_alloc O5.out (.cells #[.string ⟨rn.toArray⟩, .int .i64 rt, .int .i64 rc, .int .i64 rl, .string ⟨rd.toArray⟩] 45))
              have K6 := Lib.hid (Block.new w5 #[.string ⟨rn.toArray⟩, .int .i64 rt, .int .i64 rc, .int .i64 rl, .string ⟨rd.toArray⟩] 45)
              have hA5 : Hi ≤ w5.heap.size := B5.out.his
              simp only at hrn hrd
              simp only [rrV]
              clear t5 h5 hcm d1 e2 D
              by_cases t41 : rt = 41
              · have g41 : ((rt : Int) == 41) = true := by rw [t41]; rfl
                have HT41 := Lib.hid t41
                clear t41

                have D6 := Lib.hid (dmust_any B b bv s5 false _ B6.out.m4.rd)
                go_wp2_with fail
                refine D6.out.mono ?_
                rintro e6 w6 ⟨rfl, t6, h6⟩
                have HI3 : Hid (InI b 0 (tw b 6 - (j + 1)) l (after false s5) true rc T2) := Lib.hid (inI_opt (r := ⟨rn, rt, rc, rl, rd⟩) HI2.out HCM.out HT41.out (by simp))

                have B7 := Lib.hid (B6.out.then t6 h6)
                have O7 := Lib.hid (ownK_turn O6.out t6 (by omega))
                have K7 := Lib.hid (K6.out.turn t6 (by omega))
                have a2 := K7.out.cell (i := 2) (v := .int .i64 rc) rfl
                have r12 := B7.out.m4.blk.cell (i := 12) (v := .bool ed1) rfl
                have r13 := B7.out.m4.blk.cell (i := 13) (v := .int .i64 z1) rfl
                have f12 := B7.out.m4.blk.frozen 12
                have f13 := B7.out.m4.blk.frozen 13
                have n25 : w5.heap.size ≠ R := by omega
                clear t6 h6
                go_wp2_with fail
                go_region
                all_goals
                  go_wp2_with fail
                  go_roundw
                  case rel => exact ⟨j + 1, l, v, _, true, rc, by go_num, by omega, by omega, Lib.hid (by first | exact ownK_set (ownK_set (ownK_below O7.out (Below.refl _ _).drew) (by omega)) (by omega) | exact ownK_below (ownK_set (ownK_set O7.out (by omega)) (by omega)) (Below.refl _ _).drew), Lib.hid (by first | exact ((B7.out.drew.set 12 (.bool true) rfl).set 13 (.int .i64 rc) rfl) | exact ((B7.out.set 12 (.bool true) rfl).set 13 (.int .i64 rc) rfl).drew | exact ((B7.out.set 13 (.int .i64 rc) rfl).set 12 (.bool true) rfl).drew), HI3⟩
                  case measure => simp [intOf]; omega

              · have g41 : ((rt : Int) == 41) = false := by rw [beq_eq_false_iff_ne]; exact t41
                have HT41 := Lib.hid t41
                have D6 := Lib.hid (fun W => check_any ⟨rn, rt, rc, rl, rd⟩ W (by simp only; omega) (by simp only; omega))
                simp only [rrV] at D6
                clear t41
                obtain ⟨ok, hok⟩ : ∃ ok, Rd.check ⟨rn, rt, rc, rl, rd⟩ = ok := ⟨_, rfl⟩
                rw [hok] at D6
                have HI3 : Hid (InI b 0 (tw b 6 - (j + 1)) (l ++ [⟨rn, rt, rc, rl, rd⟩]) (after ok s5) ed1 z1 T2) := Lib.hid (by rw [← hok]; exact inI_rec HI2.out HCM.out HT41.out)
                clear hok
                go_wp2_with fail
                refine (D6.out _).mono ?_
                rintro e6 w6 ⟨rfl, b6⟩
                have B7 := Lib.hid (B6.out.below b6)
                have O7 := Lib.hid (ownK_below O6.out b6)
                have K7 := Lib.hid (K6.out.below b6)
                clear b6
                go_wp2_with fail
                refine (dmust_any B b bv s5 ok _ B7.out.m4.rd).mono ?_
                rintro e7 w7 ⟨rfl, t7, h7⟩
                have B8 := Lib.hid (B7.out.then t7 h7)
                have O8 := Lib.hid (ownK_turn O7.out t7 (by omega))
                have K8 := Lib.hid (K7.out.turn t7 (by omega))
                clear t7 h7
                have a0 := K8.out.cell (i := 0) (v := .string ⟨rn.toArray⟩) rfl
                have a1 := K8.out.cell (i := 1) (v := .int .i64 rt) rfl
                have a2 := K8.out.cell (i := 2) (v := .int .i64 rc) rfl
                have a3 := K8.out.cell (i := 3) (v := .int .i64 rl) rfl
                have a4 := K8.out.cell (i := 4) (v := .string ⟨rd.toArray⟩) rfl
                have r9 := B8.out.m4.blk.cell (i := 9) (v := v) rfl
                have r9a := fun o => (B8.out.alloc o).m4.blk.cell (i := 9) (v := v) rfl
                go_wp2_with fail
                go_region_law (first
                  | (refine step_ap1 encRR 5 encRR_len (by omega) encRR_one 25 45 _ 56 Try.underlying25 infoRR rfl (by omega) (by rfl) (.tmp 81) (.tmp 83) (by rfl) Hi v l (by rfl) (ownK_below (ownK_alloc O8.out _) (Below.refl _ _).drew) w7.heap.size ⟨rn, rt, rc, rl, rd⟩ (by rfl) ((Block.new w7 _ _).below (Below.refl _ _).drew) (by omega) ((B8.out.alloc _).drew.his) ?_; intro v9 w9 ho9 hg9 hv9; obtain ⟨ao9, cap9, rfl, _⟩ := ownK_form ho9; have B9 := Lib.hid ((B8.out.alloc _).drew.apd (by omega) (ownK_below (ownK_alloc O8.out _) (Below.refl _ _).drew) hg9); have O9 := Lib.hid ho9; have r99 := B9.out.m4.blk.cell (i := 9) (v := v) rfl; have f99 := B9.out.m4.blk.frozen 9; clear ho9 hg9 hv9))
                all_goals
                  go_wp2_with fail
                  go_roundw
                  case rel => exact ⟨j + 1, l ++ [⟨rn, rt, rc, rl, rd⟩], _, _, ed1, z1, by go_num, by omega, by rw [len1]; omega, Lib.hid (by have := O9.out; rw [len1] at this; exact ownK_set this (by omega)), Lib.hid (B9.out.set 9 _ rfl), HI3⟩
                  case measure => simp [intOf]; omega
            · have HE : Hid (T2 = s1.map fun p => ⟨p, ed1, z1, l⟩) := Lib.hid (by
                cases s1 with
                | none => exact inI_none hi1.out
                | some p =>
                  have := hi1.out
                  have hge : ¬ j < tw b 6 := fun h => hlt ⟨h, by simp⟩
                  rw [show tw b 6 - j = 0 by omega] at this
                  exact inI_end this)
              obtain ⟨ao, cap, rfl, _⟩ := ownK_form ho.out
              have r9 := hb1.out.m4.blk.cell (i := 9) (v := .slice ao l.length cap) rfl
              have hq1 : isStr vq = false := by obtain ⟨_, _, e, _⟩ := hrq.out.form; rw [e]; rfl
              have HNO : Hid ((bodyCells b vq (.slice none 0 0) (.slice none 0 0) (.slice none 0 0) ed z).all (fun v => !isStr v) = true) := Lib.hid (by simp only [bodyCells, List.all_cons, List.all_nil, hq1]; rfl)
              obtain ⟨ok, hok⟩ : ∃ ok, decide (l.length ≤ 64) = ok := ⟨_, rfl⟩
              have hoki : decide ((l.length : Int) ≤ 64) = ok := by rw [← hok, decide_eq_decide]; omega
              have hnx := sec_next (f := fun st => tail1 b qs st.acc st) HX0.out HT2.out HE.out
              rw [hok] at hnx
              have HNX := Lib.hid hnx
              clear hok hq1 hnx
              by_cases hjc : j < tw b 6
              · obtain rfl : s1 = none := by
                  cases s1 with
                  | none => rfl
                  | some p => exact absurd ⟨hjc, by simp⟩ hlt
                obtain ⟨q5, hB5, _⟩ := RdS.bad hb1.out.m4.rd
                have e2 := hB5.cell (i := 2) (v := .int .i64 2) rfl
                clear hlt hB5
                go_wp2_with fail
                refine (dmust_any B b bv none ok _ hb1.out.m4.rd).mono ?_
                rintro e8 w8 ⟨rfl, t8, h8⟩
                have B8 := Lib.hid (hb1.out.then t8 h8)
                have O8 := Lib.hid (ownK_turn ho.out t8 (by omega))
                clear t8 h8
                go_wp2_with fail
                go_roundw
                case rel => exact ⟨1, _, ed1, z1, _, _, _, l, [], [], by go_num, by omega, Lib.hid (B8.out.again), Lib.hid (past_Q B8.out HHI.out HHR.out HHM.out HNO.out hrq.out), Lib.hid (readR_own O8.out), Lib.hid (readR_nil _), Lib.hid (readR_nil _), Lib.hid ⟨rfl, rfl, rfl, rfl, HNX.out⟩⟩
                case measure => simp [intOf]
              · clear hlt
                go_wp2_with fail
                refine (dmust_any B b bv s1 ok _ hb1.out.m4.rd).mono ?_
                rintro e8 w8 ⟨rfl, t8, h8⟩
                have B8 := Lib.hid (hb1.out.then t8 h8)
                have O8 := Lib.hid (ownK_turn ho.out t8 (by omega))
                clear t8 h8
                go_wp2_with fail
                go_roundw
                case rel => exact ⟨1, _, ed1, z1, _, _, _, l, [], [], by go_num, by omega, Lib.hid (B8.out.again), Lib.hid (past_Q B8.out HHI.out HHR.out HHM.out HNO.out hrq.out), Lib.hid (readR_own O8.out), Lib.hid (readR_nil _), Lib.hid (readR_nil _), Lib.hid ⟨rfl, rfl, rfl, rfl, HNX.out⟩⟩
                case measure => simp [intOf]

        · obtain ⟨rfl, rfl, rfl, rfl, hX0⟩ := hsi.out
          have HX0 := Lib.hid hX0
          clear hX0 hsi
          obtain ⟨W1, rfl⟩ : ∃ W1, W1 = wr := ⟨_, rfl⟩
          obtain ⟨Hi, hHi⟩ : ∃ n, W1.heap.size = n := ⟨_, rfl⟩
          rw [hHi] at hb
          have hHi3 : R + 2 < Hi := hb.out.lt
          have HHI := Lib.hid hHi
          obtain ⟨T2, hT2⟩ : ∃ T, InI b 1 (tw b 8) [] s ed z T := ⟨_, rfl⟩
          have HT2 := Lib.hid hT2
          have HHR : Hid (RdS B b bv s W1) := Lib.hid hb.out.m4.rd
          have HHM := Lib.hid hb.out.m4.blk
          clear hHi hT2
          simp only [show ((1 : Nat) : Int) = 1 from rfl]
          have ix := fun W => idx_p1 W (.pointer (some ⟨R, 9, none⟩)) (.pointer (some ⟨R, 10, none⟩)) (.pointer (some ⟨R, 11, none⟩))
          go_wp2_with fail
          clear ix
          go_loopw [9] (fun jv wr2 => ∃ (j : Nat) (l : List Rd.RR) (v : Value) (s : Option Nat) (ed : Bool) (z : Int), jv = .int .i64 (j : Int) ∧ j ≤ tw b 8 ∧ l.length ≤ j ∧ Hid (OwnK encRR 5 45 Hi v l wr2) ∧ Hid (Bod B b bv (some 12) s w R W1 Hi (bodyCells b vq va v (.slice none 0 0) ed z) wr2) ∧ Hid (InI b 1 (tw b 8 - j) l s ed z T2)) (fun jv _ => tw b 8 + 1 - (intOf jv).toNat)
          case atStart => exact ⟨0, [], _, s, ed, z, rfl, by omega, by simp, Lib.hid (ownK_nil _ _ _ _ _), hb, HT2⟩
          case round =>
            obtain ⟨j, l, v, s1, ed1, z1, rfl, hj, hl, ho, hb1, hi1⟩ := hrel
            have d1 := hb1.out.m5.cell (i := 2) (v := .int .i64 (tw b 8 : Int)) rfl
            clear hb
            by_cases hlt : j < tw b 8 ∧ s1 ≠ none
            · obtain ⟨hlt, hne⟩ := hlt
              obtain ⟨p, rfl⟩ : ∃ p, s1 = some p := Option.ne_none_iff_exists'.1 hne
              have hi2 := hi1.out
              rw [show tw b 8 - j = (tw b 8 - (j + 1)) + 1 by omega] at hi2
              have HI2 := Lib.hid hi2
              have e2 := hb1.out.m4.rd.here.cell (i := 2) (v := .int .i64 0) rfl
              have D := Lib.hid (CR.out (some p) _ hb1.out.m4.rd)
              clear hi2 hne
              go_wp2_with fail
              refine D.out.mono ?_
              rintro e5 w5 ⟨⟨rn, rt, rc, rl, rd⟩, s5, rfl, hrn, hrd, t5, h5, hcm⟩
              have HCM := Lib.hid hcm
              have B5 := Lib.hid (hb1.out.then t5 h5)
              have O5 := Lib.hid (ownK_turn ho.out t5 (by omega))
              have B6 := Lib.hid (B5.out.alloc (.cells #[.string ⟨rn.toArray⟩, .int .i64 rt, .int .i64 rc, .int .i64 rl, .string ⟨rd.toArray⟩] 45))
              have O6 := Lib.hid (ownK_alloc O5.out (.cells #[.string ⟨rn.toArray⟩, .int .i64 rt, .int .i64 rc, .int .i64 rl, .string ⟨rd.toArray⟩] 45))
              have K6 := Lib.hid (Block.new w5 #[.string ⟨rn.toArray⟩, .int .i64 rt, .int .i64 rc, .int .i64 rl, .string ⟨rd.toArray⟩] 45)
              have hA5 : Hi ≤ w5.heap.size := B5.out.his
              simp only at hrn hrd
              simp only [rrV]
              clear t5 h5 hcm d1 e2 D
              by_cases t41 : rt = 41
              · have g41 : ((rt : Int) == 41) = true := by rw [t41]; rfl
                have HT41 := Lib.hid t41
                clear t41

                have D6 := Lib.hid (dmust_any B b bv s5 false _ B6.out.m4.rd)
                go_wp2_with fail
                refine D6.out.mono ?_
                rintro e6 w6 ⟨rfl, t6, h6⟩
                have HI3 : Hid (InI b 1 (tw b 8 - (j + 1)) l (after false s5) true rc T2) := Lib.hid (inI_opt (r := ⟨rn, rt, rc, rl, rd⟩) HI2.out HCM.out HT41.out (by simp))

                have B7 := Lib.hid (B6.out.then t6 h6)
                have O7 := Lib.hid (ownK_turn O6.out t6 (by omega))
                have K7 := Lib.hid (K6.out.turn t6 (by omega))
                have a2 := K7.out.cell (i := 2) (v := .int .i64 rc) rfl
                have r12 := B7.out.m4.blk.cell (i := 12) (v := .bool ed1) rfl
                have r13 := B7.out.m4.blk.cell (i := 13) (v := .int .i64 z1) rfl
                have f12 := B7.out.m4.blk.frozen 12
                have f13 := B7.out.m4.blk.frozen 13
                have n25 : w5.heap.size ≠ R := by omega
                clear t6 h6
                go_wp2_with fail
                go_region
                all_goals
                  go_wp2_with fail
                  go_roundw
                  case rel => exact ⟨j + 1, l, v, _, true, rc, by go_num, by omega, by omega, Lib.hid (by first | exact ownK_set (ownK_set (ownK_below O7.out (Below.refl _ _).drew) (by omega)) (by omega) | exact ownK_below (ownK_set (ownK_set O7.out (by omega)) (by omega)) (Below.refl _ _).drew), Lib.hid (by first | exact ((B7.out.drew.set 12 (.bool true) rfl).set 13 (.int .i64 rc) rfl) | exact ((B7.out.set 12 (.bool true) rfl).set 13 (.int .i64 rc) rfl).drew | exact ((B7.out.set 13 (.int .i64 rc) rfl).set 12 (.bool true) rfl).drew), HI3⟩
                  case measure => simp [intOf]; omega

              · have g41 : ((rt : Int) == 41) = false := by rw [beq_eq_false_iff_ne]; exact t41
                have HT41 := Lib.hid t41
                have D6 := Lib.hid (fun W => check_any ⟨rn, rt, rc, rl, rd⟩ W (by simp only; omega) (by simp only; omega))
                simp only [rrV] at D6
                clear t41
                obtain ⟨ok, hok⟩ : ∃ ok, Rd.check ⟨rn, rt, rc, rl, rd⟩ = ok := ⟨_, rfl⟩
                rw [hok] at D6
                have HI3 : Hid (InI b 1 (tw b 8 - (j + 1)) (l ++ [⟨rn, rt, rc, rl, rd⟩]) (after ok s5) ed1 z1 T2) := Lib.hid (by rw [← hok]; exact inI_rec HI2.out HCM.out HT41.out)
                clear hok
                go_wp2_with fail
                refine (D6.out _).mono ?_
                rintro e6 w6 ⟨rfl, b6⟩
                have B7 := Lib.hid (B6.out.below b6)
                have O7 := Lib.hid (ownK_below O6.out b6)
                have K7 := Lib.hid (K6.out.below b6)
                clear b6
                go_wp2_with fail
                refine (dmust_any B b bv s5 ok _ B7.out.m4.rd).mono ?_
                rintro e7 w7 ⟨rfl, t7, h7⟩
                have B8 := Lib.hid (B7.out.then t7 h7)
                have O8 := Lib.hid (ownK_turn O7.out t7 (by omega))
                have K8 := Lib.hid (K7.out.turn t7 (by omega))
                clear t7 h7
                have a0 := K8.out.cell (i := 0) (v := .string ⟨rn.toArray⟩) rfl
                have a1 := K8.out.cell (i := 1) (v := .int .i64 rt) rfl
                have a2 := K8.out.cell (i := 2) (v := .int .i64 rc) rfl
                have a3 := K8.out.cell (i := 3) (v := .int .i64 rl) rfl
                have a4 := K8.out.cell (i := 4) (v := .string ⟨rd.toArray⟩) rfl
                have r9 := B8.out.m4.blk.cell (i := 10) (v := v) rfl
                have r9a := fun o => (B8.out.alloc o).m4.blk.cell (i := 10) (v := v) rfl
                go_wp2_with fail
                go_region_law (first
                  | (refine step_ap1 encRR 5 encRR_len (by omega) encRR_one 25 45 _ 56 Try.underlying25 infoRR rfl (by omega) (by rfl) (.tmp 81) (.tmp 83) (by rfl) Hi v l (by rfl) (ownK_below (ownK_alloc O8.out _) (Below.refl _ _).drew) w7.heap.size ⟨rn, rt, rc, rl, rd⟩ (by rfl) ((Block.new w7 _ _).below (Below.refl _ _).drew) (by omega) ((B8.out.alloc _).drew.his) ?_; intro v9 w9 ho9 hg9 hv9; obtain ⟨ao9, cap9, rfl, _⟩ := ownK_form ho9; have B9 := Lib.hid ((B8.out.alloc _).drew.apd (by omega) (ownK_below (ownK_alloc O8.out _) (Below.refl _ _).drew) hg9); have O9 := Lib.hid ho9; have r99 := B9.out.m4.blk.cell (i := 10) (v := v) rfl; have f99 := B9.out.m4.blk.frozen 10; clear ho9 hg9 hv9))
                all_goals
                  go_wp2_with fail
                  go_roundw
                  case rel => exact ⟨j + 1, l ++ [⟨rn, rt, rc, rl, rd⟩], _, _, ed1, z1, by go_num, by omega, by rw [len1]; omega, Lib.hid (by have := O9.out; rw [len1] at this; exact ownK_set this (by omega)), Lib.hid (B9.out.set 10 _ rfl), HI3⟩
                  case measure => simp [intOf]; omega
            · have HE : Hid (T2 = s1.map fun p => ⟨p, ed1, z1, l⟩) := Lib.hid (by
                cases s1 with
                | none => exact inI_none hi1.out
                | some p =>
                  have := hi1.out
                  have hge : ¬ j < tw b 8 := fun h => hlt ⟨h, by simp⟩
                  rw [show tw b 8 - j = 0 by omega] at this
                  exact inI_end this)
              obtain ⟨ao, cap, rfl, _⟩ := ownK_form ho.out
              have r9 := hb1.out.m4.blk.cell (i := 10) (v := .slice ao l.length cap) rfl
              have hq1 : isStr vq = false := by obtain ⟨_, _, e, _⟩ := hrq.out.form; rw [e]; rfl
              have ha1 : isStr va = false := by obtain ⟨_, _, e, _⟩ := hra.out.form; rw [e]; rfl
              have HNO : Hid ((bodyCells b vq va (.slice none 0 0) (.slice none 0 0) ed z).all (fun v => !isStr v) = true) := Lib.hid (by simp only [bodyCells, List.all_cons, List.all_nil, hq1, ha1]; rfl)
              obtain ⟨ok, hok⟩ : ∃ ok, decide (l.length ≤ 64) = ok := ⟨_, rfl⟩
              have hoki : decide ((l.length : Int) ≤ 64) = ok := by rw [← hok, decide_eq_decide]; omega
              have hnx := sec_next (f := fun st => tail2 b qs l0 st.acc st) HX0.out HT2.out HE.out
              rw [hok] at hnx
              have HNX := Lib.hid hnx
              clear hok hq1 ha1 hnx
              by_cases hjc : j < tw b 8
              · obtain rfl : s1 = none := by
                  cases s1 with
                  | none => rfl
                  | some p => exact absurd ⟨hjc, by simp⟩ hlt
                obtain ⟨q5, hB5, _⟩ := RdS.bad hb1.out.m4.rd
                have e2 := hB5.cell (i := 2) (v := .int .i64 2) rfl
                clear hlt hB5
                go_wp2_with fail
                refine (dmust_any B b bv none ok _ hb1.out.m4.rd).mono ?_
                rintro e8 w8 ⟨rfl, t8, h8⟩
                have B8 := Lib.hid (hb1.out.then t8 h8)
                have O8 := Lib.hid (ownK_turn ho.out t8 (by omega))
                clear t8 h8
                go_wp2_with fail
                go_roundw
                case rel => exact ⟨2, _, ed1, z1, _, _, _, l0, l, [], by go_num, by omega, Lib.hid (B8.out.again), Lib.hid (past_Q B8.out HHI.out HHR.out HHM.out HNO.out hrq.out), Lib.hid (past_R B8.out HHI.out HHR.out HHM.out HNO.out hra.out), Lib.hid (readR_own O8.out), Lib.hid (readR_nil _), Lib.hid ⟨rfl, rfl, HNX.out⟩⟩
                case measure => simp [intOf]
              · clear hlt
                go_wp2_with fail
                refine (dmust_any B b bv s1 ok _ hb1.out.m4.rd).mono ?_
                rintro e8 w8 ⟨rfl, t8, h8⟩
                have B8 := Lib.hid (hb1.out.then t8 h8)
                have O8 := Lib.hid (ownK_turn ho.out t8 (by omega))
                clear t8 h8
                go_wp2_with fail
                go_roundw
                case rel => exact ⟨2, _, ed1, z1, _, _, _, l0, l, [], by go_num, by omega, Lib.hid (B8.out.again), Lib.hid (past_Q B8.out HHI.out HHR.out HHM.out HNO.out hrq.out), Lib.hid (past_R B8.out HHI.out HHR.out HHM.out HNO.out hra.out), Lib.hid (readR_own O8.out), Lib.hid (readR_nil _), Lib.hid ⟨rfl, rfl, HNX.out⟩⟩
                case measure => simp [intOf]

        · obtain ⟨rfl, rfl, hX0⟩ := hsi.out
          have HX0 := Lib.hid hX0
          clear hX0 hsi
          obtain ⟨W1, rfl⟩ : ∃ W1, W1 = wr := ⟨_, rfl⟩
          obtain ⟨Hi, hHi⟩ : ∃ n, W1.heap.size = n := ⟨_, rfl⟩
          rw [hHi] at hb
          have hHi3 : R + 2 < Hi := hb.out.lt
          have HHI := Lib.hid hHi
          obtain ⟨T2, hT2⟩ : ∃ T, InI b 2 (tw b 10) [] s ed z T := ⟨_, rfl⟩
          have HT2 := Lib.hid hT2
          have HHR : Hid (RdS B b bv s W1) := Lib.hid hb.out.m4.rd
          have HHM := Lib.hid hb.out.m4.blk
          clear hHi hT2
          simp only [show ((2 : Nat) : Int) = 2 from rfl]
          have ix := fun W => idx_p2 W (.pointer (some ⟨R, 9, none⟩)) (.pointer (some ⟨R, 10, none⟩)) (.pointer (some ⟨R, 11, none⟩))
          go_wp2_with fail
          clear ix
          go_loopw [9] (fun jv wr2 => ∃ (j : Nat) (l : List Rd.RR) (v : Value) (s : Option Nat) (ed : Bool) (z : Int), jv = .int .i64 (j : Int) ∧ j ≤ tw b 10 ∧ l.length ≤ j ∧ Hid (OwnK encRR 5 45 Hi v l wr2) ∧ Hid (Bod B b bv (some 12) s w R W1 Hi (bodyCells b vq va vn v ed z) wr2) ∧ Hid (InI b 2 (tw b 10 - j) l s ed z T2)) (fun jv _ => tw b 10 + 1 - (intOf jv).toNat)
          case atStart => exact ⟨0, [], _, s, ed, z, rfl, by omega, by simp, Lib.hid (ownK_nil _ _ _ _ _), hb, HT2⟩
          case round =>
            obtain ⟨j, l, v, s1, ed1, z1, rfl, hj, hl, ho, hb1, hi1⟩ := hrel
            have d1 := hb1.out.m5.cell (i := 3) (v := .int .i64 (tw b 10 : Int)) rfl
            clear hb
            by_cases hlt : j < tw b 10 ∧ s1 ≠ none
            · obtain ⟨hlt, hne⟩ := hlt
              obtain ⟨p, rfl⟩ : ∃ p, s1 = some p := Option.ne_none_iff_exists'.1 hne
              have hi2 := hi1.out
              rw [show tw b 10 - j = (tw b 10 - (j + 1)) + 1 by omega] at hi2
              have HI2 := Lib.hid hi2
              have e2 := hb1.out.m4.rd.here.cell (i := 2) (v := .int .i64 0) rfl
              have D := Lib.hid (CR.out (some p) _ hb1.out.m4.rd)
              clear hi2 hne
              go_wp2_with fail
              refine D.out.mono ?_
              rintro e5 w5 ⟨⟨rn, rt, rc, rl, rd⟩, s5, rfl, hrn, hrd, t5, h5, hcm⟩
              have HCM := Lib.hid hcm
              have B5 := Lib.hid (hb1.out.then t5 h5)
              have O5 := Lib.hid (ownK_turn ho.out t5 (by omega))
              have B6 := Lib.hid (B5.out.alloc (.cells #[.string ⟨rn.toArray⟩, .int .i64 rt, .int .i64 rc, .int .i64 rl, .string ⟨rd.toArray⟩] 45))
              have O6 := Lib.hid (ownK_alloc O5.out (.cells #[.string ⟨rn.toArray⟩, .int .i64 rt, .int .i64 rc, .int .i64 rl, .string ⟨rd.toArray⟩] 45))
              have K6 := Lib.hid (Block.new w5 #[.string ⟨rn.toArray⟩, .int .i64 rt, .int .i64 rc, .int .i64 rl, .string ⟨rd.toArray⟩] 45)
              have hA5 : Hi ≤ w5.heap.size := B5.out.his
              simp only at hrn hrd
              simp only [rrV]
              clear t5 h5 hcm d1 e2 D
              by_cases t41 : rt = 41
              · have g41 : ((rt : Int) == 41) = true := by rw [t41]; rfl
                have HT41 := Lib.hid t41
                clear t41

                by_cases hnm : rn = [0]
                · subst hnm
                  cases ed1 with
                  | true =>
                    have r120 := B5.out.m4.blk.cell (i := 12) (v := .bool true) rfl
                    have r121 := fun o => (B5.out.alloc o).m4.blk.cell (i := 12) (v := .bool true) rfl
                    have D6 := Lib.hid (dmust_any B b bv s5 false _ B6.out.m4.rd)
                    go_wp2_with fail
                    refine D6.out.mono ?_
                    rintro e6 w6 ⟨rfl, t6, h6⟩
                    clear r120 r121
                    have HI3 : Hid (InI b 2 (tw b 10 - (j + 1)) l (after false s5) true rc T2) := Lib.hid (inI_opt (r := ⟨[0], rt, rc, rl, rd⟩) HI2.out HCM.out HT41.out (by simp))
                    have B7 := Lib.hid (B6.out.then t6 h6)
                    have O7 := Lib.hid (ownK_turn O6.out t6 (by omega))
                    have K7 := Lib.hid (K6.out.turn t6 (by omega))
                    have a2 := K7.out.cell (i := 2) (v := .int .i64 rc) rfl
                    have r12 := B7.out.m4.blk.cell (i := 12) (v := .bool true) rfl
                    have r13 := B7.out.m4.blk.cell (i := 13) (v := .int .i64 z1) rfl
                    have f12 := B7.out.m4.blk.frozen 12
                    have f13 := B7.out.m4.blk.frozen 13
                    have n25 : w5.heap.size ≠ R := by omega
                    clear t6 h6
                    go_wp2_with fail
                    go_region
                    all_goals
                      go_wp2_with fail
                      go_roundw
                      case rel => exact ⟨j + 1, l, v, _, true, rc, by go_num, by omega, by omega, Lib.hid (by first | exact ownK_set (ownK_set (ownK_below O7.out (Below.refl _ _).drew) (by omega)) (by omega) | exact ownK_below (ownK_set (ownK_set O7.out (by omega)) (by omega)) (Below.refl _ _).drew), Lib.hid (by first | exact ((B7.out.drew.set 12 (.bool true) rfl).set 13 (.int .i64 rc) rfl) | exact ((B7.out.set 12 (.bool true) rfl).set 13 (.int .i64 rc) rfl).drew | exact ((B7.out.set 13 (.int .i64 rc) rfl).set 12 (.bool true) rfl).drew), HI3⟩
                      case measure => simp [intOf]; omega

                  | false =>
                    have r120 := B5.out.m4.blk.cell (i := 12) (v := .bool false) rfl
                    have r121 := fun o => (B5.out.alloc o).m4.blk.cell (i := 12) (v := .bool false) rfl
                    have D6 := Lib.hid (dmust_any B b bv s5 true _ B6.out.m4.rd)
                    go_wp2_with fail
                    refine D6.out.mono ?_
                    rintro e6 w6 ⟨rfl, t6, h6⟩
                    clear r120 r121
                    have HI3 : Hid (InI b 2 (tw b 10 - (j + 1)) l (after true s5) true rc T2) := Lib.hid (inI_opt (r := ⟨[0], rt, rc, rl, rd⟩) HI2.out HCM.out HT41.out (by simp))
                    have B7 := Lib.hid (B6.out.then t6 h6)
                    have O7 := Lib.hid (ownK_turn O6.out t6 (by omega))
                    have K7 := Lib.hid (K6.out.turn t6 (by omega))
                    have a2 := K7.out.cell (i := 2) (v := .int .i64 rc) rfl
                    have r12 := B7.out.m4.blk.cell (i := 12) (v := .bool false) rfl
                    have r13 := B7.out.m4.blk.cell (i := 13) (v := .int .i64 z1) rfl
                    have f12 := B7.out.m4.blk.frozen 12
                    have f13 := B7.out.m4.blk.frozen 13
                    have n25 : w5.heap.size ≠ R := by omega
                    clear t6 h6
                    go_wp2_with fail
                    go_region
                    all_goals
                      go_wp2_with fail
                      go_roundw
                      case rel => exact ⟨j + 1, l, v, _, true, rc, by go_num, by omega, by omega, Lib.hid (by first | exact ownK_set (ownK_set (ownK_below O7.out (Below.refl _ _).drew) (by omega)) (by omega) | exact ownK_below (ownK_set (ownK_set O7.out (by omega)) (by omega)) (Below.refl _ _).drew), Lib.hid (by first | exact ((B7.out.drew.set 12 (.bool true) rfl).set 13 (.int .i64 rc) rfl) | exact ((B7.out.set 12 (.bool true) rfl).set 13 (.int .i64 rc) rfl).drew | exact ((B7.out.set 13 (.int .i64 rc) rfl).set 12 (.bool true) rfl).drew), HI3⟩
                      case measure => simp [intOf]; omega

                · have hd : decide (rn = [0]) = false := decide_eq_false hnm
                  have HNM := Lib.hid hnm
                  clear hnm
                  have r120 := B5.out.m4.blk.cell (i := 12) (v := .bool ed1) rfl
                  have r121 := fun o => (B5.out.alloc o).m4.blk.cell (i := 12) (v := .bool ed1) rfl
                  have D6 := Lib.hid (dmust_any B b bv s5 false _ B6.out.m4.rd)
                  go_wp2_with fail
                  refine D6.out.mono ?_
                  rintro e6 w6 ⟨rfl, t6, h6⟩
                  clear hd r120 r121
                  have HI3 : Hid (InI b 2 (tw b 10 - (j + 1)) l (after false s5) true rc T2) := Lib.hid (inI_opt (r := ⟨rn, rt, rc, rl, rd⟩) HI2.out HCM.out HT41.out (by have := HNM.out; simp [this]))
                  have B7 := Lib.hid (B6.out.then t6 h6)
                  have O7 := Lib.hid (ownK_turn O6.out t6 (by omega))
                  have K7 := Lib.hid (K6.out.turn t6 (by omega))
                  have a2 := K7.out.cell (i := 2) (v := .int .i64 rc) rfl
                  have r12 := B7.out.m4.blk.cell (i := 12) (v := .bool ed1) rfl
                  have r13 := B7.out.m4.blk.cell (i := 13) (v := .int .i64 z1) rfl
                  have f12 := B7.out.m4.blk.frozen 12
                  have f13 := B7.out.m4.blk.frozen 13
                  have n25 : w5.heap.size ≠ R := by omega
                  clear t6 h6
                  go_wp2_with fail
                  go_region
                  all_goals
                    go_wp2_with fail
                    go_roundw
                    case rel => exact ⟨j + 1, l, v, _, true, rc, by go_num, by omega, by omega, Lib.hid (by first | exact ownK_set (ownK_set (ownK_below O7.out (Below.refl _ _).drew) (by omega)) (by omega) | exact ownK_below (ownK_set (ownK_set O7.out (by omega)) (by omega)) (Below.refl _ _).drew), Lib.hid (by first | exact ((B7.out.drew.set 12 (.bool true) rfl).set 13 (.int .i64 rc) rfl) | exact ((B7.out.set 12 (.bool true) rfl).set 13 (.int .i64 rc) rfl).drew | exact ((B7.out.set 13 (.int .i64 rc) rfl).set 12 (.bool true) rfl).drew), HI3⟩
                    case measure => simp [intOf]; omega
              · have g41 : ((rt : Int) == 41) = false := by rw [beq_eq_false_iff_ne]; exact t41
                have HT41 := Lib.hid t41
                have D6 := Lib.hid (fun W => check_any ⟨rn, rt, rc, rl, rd⟩ W (by simp only; omega) (by simp only; omega))
                simp only [rrV] at D6
                clear t41
                obtain ⟨ok, hok⟩ : ∃ ok, Rd.check ⟨rn, rt, rc, rl, rd⟩ = ok := ⟨_, rfl⟩
                rw [hok] at D6
                have HI3 : Hid (InI b 2 (tw b 10 - (j + 1)) (l ++ [⟨rn, rt, rc, rl, rd⟩]) (after ok s5) ed1 z1 T2) := Lib.hid (by rw [← hok]; exact inI_rec HI2.out HCM.out HT41.out)
                clear hok
                go_wp2_with fail
                refine (D6.out _).mono ?_
                rintro e6 w6 ⟨rfl, b6⟩
                have B7 := Lib.hid (B6.out.below b6)
                have O7 := Lib.hid (ownK_below O6.out b6)
                have K7 := Lib.hid (K6.out.below b6)
                clear b6
                go_wp2_with fail
                refine (dmust_any B b bv s5 ok _ B7.out.m4.rd).mono ?_
                rintro e7 w7 ⟨rfl, t7, h7⟩
                have B8 := Lib.hid (B7.out.then t7 h7)
                have O8 := Lib.hid (ownK_turn O7.out t7 (by omega))
                have K8 := Lib.hid (K7.out.turn t7 (by omega))
                clear t7 h7
                have a0 := K8.out.cell (i := 0) (v := .string ⟨rn.toArray⟩) rfl
                have a1 := K8.out.cell (i := 1) (v := .int .i64 rt) rfl
                have a2 := K8.out.cell (i := 2) (v := .int .i64 rc) rfl
                have a3 := K8.out.cell (i := 3) (v := .int .i64 rl) rfl
                have a4 := K8.out.cell (i := 4) (v := .string ⟨rd.toArray⟩) rfl
                have r9 := B8.out.m4.blk.cell (i := 11) (v := v) rfl
                have r9a := fun o => (B8.out.alloc o).m4.blk.cell (i := 11) (v := v) rfl
                go_wp2_with fail
                go_region_law (first
                  | (refine step_ap1 encRR 5 encRR_len (by omega) encRR_one 25 45 _ 56 Try.underlying25 infoRR rfl (by omega) (by rfl) (.tmp 81) (.tmp 83) (by rfl) Hi v l (by rfl) (ownK_below (ownK_alloc O8.out _) (Below.refl _ _).drew) w7.heap.size ⟨rn, rt, rc, rl, rd⟩ (by rfl) ((Block.new w7 _ _).below (Below.refl _ _).drew) (by omega) ((B8.out.alloc _).drew.his) ?_; intro v9 w9 ho9 hg9 hv9; obtain ⟨ao9, cap9, rfl, _⟩ := ownK_form ho9; have B9 := Lib.hid ((B8.out.alloc _).drew.apd (by omega) (ownK_below (ownK_alloc O8.out _) (Below.refl _ _).drew) hg9); have O9 := Lib.hid ho9; have r99 := B9.out.m4.blk.cell (i := 11) (v := v) rfl; have f99 := B9.out.m4.blk.frozen 11; clear ho9 hg9 hv9))
                all_goals
                  go_wp2_with fail
                  go_roundw
                  case rel => exact ⟨j + 1, l ++ [⟨rn, rt, rc, rl, rd⟩], _, _, ed1, z1, by go_num, by omega, by rw [len1]; omega, Lib.hid (by have := O9.out; rw [len1] at this; exact ownK_set this (by omega)), Lib.hid (B9.out.set 11 _ rfl), HI3⟩
                  case measure => simp [intOf]; omega
            · have HE : Hid (T2 = s1.map fun p => ⟨p, ed1, z1, l⟩) := Lib.hid (by
                cases s1 with
                | none => exact inI_none hi1.out
                | some p =>
                  have := hi1.out
                  have hge : ¬ j < tw b 10 := fun h => hlt ⟨h, by simp⟩
                  rw [show tw b 10 - j = 0 by omega] at this
                  exact inI_end this)
              obtain ⟨ao, cap, rfl, _⟩ := ownK_form ho.out
              have r9 := hb1.out.m4.blk.cell (i := 11) (v := .slice ao l.length cap) rfl
              have hq1 : isStr vq = false := by obtain ⟨_, _, e, _⟩ := hrq.out.form; rw [e]; rfl
              have ha1 : isStr va = false := by obtain ⟨_, _, e, _⟩ := hra.out.form; rw [e]; rfl
              have hn1 : isStr vn = false := by obtain ⟨_, _, e, _⟩ := hrn.out.form; rw [e]; rfl
              have HNO : Hid ((bodyCells b vq va vn (.slice none 0 0) ed z).all (fun v => !isStr v) = true) := Lib.hid (by simp only [bodyCells, List.all_cons, List.all_nil, hq1, ha1, hn1]; rfl)
              obtain ⟨ok, hok⟩ : ∃ ok, decide (l.length ≤ 64) = ok := ⟨_, rfl⟩
              have hoki : decide ((l.length : Int) ≤ 64) = ok := by rw [← hok, decide_eq_decide]; omega
              have hnx := sec_next (f := fun st => tail3 b qs l0 l1 st) HX0.out HT2.out HE.out
              rw [hok] at hnx
              have HNX := Lib.hid hnx
              clear hok hq1 ha1 hn1 hnx
              by_cases hjc : j < tw b 10
              · obtain rfl : s1 = none := by
                  cases s1 with
                  | none => rfl
                  | some p => exact absurd ⟨hjc, by simp⟩ hlt
                obtain ⟨q5, hB5, _⟩ := RdS.bad hb1.out.m4.rd
                have e2 := hB5.cell (i := 2) (v := .int .i64 2) rfl
                clear hlt hB5
                go_wp2_with fail
                refine (dmust_any B b bv none ok _ hb1.out.m4.rd).mono ?_
                rintro e8 w8 ⟨rfl, t8, h8⟩
                have B8 := Lib.hid (hb1.out.then t8 h8)
                have O8 := Lib.hid (ownK_turn ho.out t8 (by omega))
                clear t8 h8
                go_wp2_with fail
                go_roundw
                case rel => exact ⟨3, _, ed1, z1, _, _, _, l0, l1, l, by go_num, by omega, Lib.hid (B8.out.again), Lib.hid (past_Q B8.out HHI.out HHR.out HHM.out HNO.out hrq.out), Lib.hid (past_R B8.out HHI.out HHR.out HHM.out HNO.out hra.out), Lib.hid (past_R B8.out HHI.out HHR.out HHM.out HNO.out hrn.out), Lib.hid (readR_own O8.out), HNX⟩
                case measure => simp [intOf]
              · clear hlt
                go_wp2_with fail
                refine (dmust_any B b bv s1 ok _ hb1.out.m4.rd).mono ?_
                rintro e8 w8 ⟨rfl, t8, h8⟩
                have B8 := Lib.hid (hb1.out.then t8 h8)
                have O8 := Lib.hid (ownK_turn ho.out t8 (by omega))
                clear t8 h8
                go_wp2_with fail
                go_roundw
                case rel => exact ⟨3, _, ed1, z1, _, _, _, l0, l1, l, by go_num, by omega, Lib.hid (B8.out.again), Lib.hid (past_Q B8.out HHI.out HHR.out HHM.out HNO.out hrq.out), Lib.hid (past_R B8.out HHI.out HHR.out HHM.out HNO.out hra.out), Lib.hid (past_R B8.out HHI.out HHR.out HHM.out HNO.out hrn.out), Lib.hid (readR_own O8.out), HNX⟩
                case measure => simp [intOf]

        · have hX0 : X = s.bind fun p => tail3 b qs l0 l1 ⟨p, ed, z, l2⟩ := hsi.out
          obtain ⟨aoq, capq, rfl, _⟩ := hrq.out.form
          obtain ⟨aoa, capa, rfl, _⟩ := hra.out.form
          obtain ⟨aon, capn, rfl, _⟩ := hrn.out.form
          obtain ⟨aod, capd, rfl, _⟩ := hrd.out.form
          obtain ⟨p, e, hB, hp, hs⟩ := hb.out.m4.rd.ex
          obtain ⟨ao, cap, rfl, _⟩ := hb.out.m4.rd.read.form
          obtain ⟨ok, hok⟩ : ∃ ok, ((p : Int) == (b.length : Int)) = ok := ⟨_, rfl⟩
          have hfin : (∀ y, X = some y → ({ Ms.hdOf b with qs := qs, an := l0, ns := l1, ad := l2, edns := ed, size := z } : Ms.M) = y ∧ after ok s ≠ none) ∧ (X = none → after ok s = none) := by
            rw [hX0]
            rcases hs with ⟨rfl, _⟩ | ⟨rfl, _⟩
            · simp only [Option.bind_some, tail3]
              by_cases hpl : p = b.length
              · obtain rfl : ok = true := by rw [← hok, hpl]; simp
                rw [if_pos hpl]
                exact ⟨fun y hy => by cases hy; exact ⟨rfl, by simp [after]⟩, fun hy => by cases hy⟩
              · obtain rfl : ok = false := by rw [← hok, beq_eq_false_iff_ne]; omega
                rw [if_neg hpl]
                exact ⟨fun y hy => (by cases hy), fun _ => rfl⟩
            · exact ⟨fun y hy => (by cases hy), fun _ => by unfold after; split <;> rfl⟩
          have HF := Lib.hid hfin
          have c0 := keep_cell (Below.refl _ wr).drew (hB.cell (i := 0) (v := .slice ao b.length cap) rfl)
          have c1 := keep_cell (Below.refl _ wr).drew (hB.cell (i := 1) (v := .int .i64 (p : Int)) rfl)
          have C := Lib.hid (dmust_any B b _ s ok _ hb.out.drew.m4.rd)
          clear hX0 hsi hB hs hfin
          go_wp2_with fail
          refine wp_region_still_tail 11 (by kernel_rfl) (by kernel_rfl) ?_
          simp only [List.take_succ_cons, List.take_zero, List.drop_succ_cons, List.drop_zero]
          repeat (with_reducible refine wpStill_step (fun K hK => ?_); go_simp; with_reducible refine hK _ ?_; clear hK K)
          with_reducible refine wpStill_nil ?_
          go_wp2_with fail
          refine C.out.mono ?_
          rintro e8 w8 ⟨rfl, t8, h8⟩
          have B8 := Lib.hid (hb.out.drew.then t8 h8)
          have hQ8 := Lib.hid (past_Q (hb.out.again.drew.then t8 h8) rfl hb.out.m4.rd hb.out.m4.blk rfl hrq.out)
          have hA8 := Lib.hid (past_R (hb.out.again.drew.then t8 h8) rfl hb.out.m4.rd hb.out.m4.blk rfl hra.out)
          have hN8 := Lib.hid (past_R (hb.out.again.drew.then t8 h8) rfl hb.out.m4.rd hb.out.m4.blk rfl hrn.out)
          have hD8 := Lib.hid (past_R (hb.out.again.drew.then t8 h8) rfl hb.out.m4.rd hb.out.m4.blk rfl hrd.out)
          have F0 : Hid (Fill B b (.slice ao b.length cap) (after ok s) w (R + 2) w8 msg0 w8) := Lib.hid ⟨⟨B8.out.m6, B8.out.m4.rd, B8.out.m4.tn, rfl, by decide, by omega, by have := B8.out.m4.own; omega⟩, rfl, fun _ _ => rfl⟩
          clear c0 c1 t8 h8 hok
          have c0 := B8.out.m4.blk.cell (i := 0) (v := .int .i64 (Ms.hdOf b).id) rfl
          have c1 := B8.out.m4.blk.cell (i := 1) (v := .bool (Ms.hdOf b).resp) rfl
          have c2 := B8.out.m4.blk.cell (i := 2) (v := .int .i64 (Ms.hdOf b).opc) rfl
          have c3 := B8.out.m4.blk.cell (i := 3) (v := .bool (Ms.hdOf b).auth) rfl
          have c4 := B8.out.m4.blk.cell (i := 4) (v := .bool (Ms.hdOf b).cut) rfl
          have c5 := B8.out.m4.blk.cell (i := 5) (v := .bool (Ms.hdOf b).des) rfl
          have c6 := B8.out.m4.blk.cell (i := 6) (v := .bool (Ms.hdOf b).avl) rfl
          have c7 := B8.out.m4.blk.cell (i := 7) (v := .int .i64 (Ms.hdOf b).code) rfl
          have c8 := B8.out.m4.blk.cell (i := 8) (v := .slice aoq qs.length capq) rfl
          have c9 := B8.out.m4.blk.cell (i := 9) (v := .slice aoa l0.length capa) rfl
          have c10 := B8.out.m4.blk.cell (i := 10) (v := .slice aon l1.length capn) rfl
          have c11 := B8.out.m4.blk.cell (i := 11) (v := .slice aod l2.length capd) rfl
          have c12 := B8.out.m4.blk.cell (i := 12) (v := .bool ed) rfl
          have c13 := B8.out.m4.blk.cell (i := 13) (v := .int .i64 z) rfl
          have d0 := B8.out.m6.cell (i := 0) (v := .int .i64 0) rfl
          have f0 := B8.out.m6.frozen 0
          have d1 := B8.out.m6.cell (i := 1) (v := .bool false) rfl
          have f1 := B8.out.m6.frozen 1
          have d2 := B8.out.m6.cell (i := 2) (v := .int .i64 0) rfl
          have f2 := B8.out.m6.frozen 2
          have d3 := B8.out.m6.cell (i := 3) (v := .bool false) rfl
          have f3 := B8.out.m6.frozen 3
          have d4 := B8.out.m6.cell (i := 4) (v := .bool false) rfl
          have f4 := B8.out.m6.frozen 4
          have d5 := B8.out.m6.cell (i := 5) (v := .bool false) rfl
          have f5 := B8.out.m6.frozen 5
          have d6 := B8.out.m6.cell (i := 6) (v := .bool false) rfl
          have f6 := B8.out.m6.frozen 6
          have d7 := B8.out.m6.cell (i := 7) (v := .int .i64 0) rfl
          have f7 := B8.out.m6.frozen 7
          have d8 := B8.out.m6.cell (i := 8) (v := .slice none 0 0) rfl
          have f8 := B8.out.m6.frozen 8
          have d9 := B8.out.m6.cell (i := 9) (v := .slice none 0 0) rfl
          have f9 := B8.out.m6.frozen 9
          have d10 := B8.out.m6.cell (i := 10) (v := .slice none 0 0) rfl
          have f10 := B8.out.m6.frozen 10
          have d11 := B8.out.m6.cell (i := 11) (v := .slice none 0 0) rfl
          have f11 := B8.out.m6.frozen 11
          have d12 := B8.out.m6.cell (i := 12) (v := .bool false) rfl
          have f12 := B8.out.m6.frozen 12
          have d13 := B8.out.m6.cell (i := 13) (v := .int .i64 0) rfl
          have f13 := B8.out.m6.frozen 13
          simp only [show R + 1 + 1 = R + 2 from rfl]
          go_wp2_with fail
          have F9 := ((((((((((((((F0.out.set 0 (.int .i64 (Ms.hdOf b).id) rfl rfl).set 1 (.bool (Ms.hdOf b).resp) rfl rfl).set 2 (.int .i64 (Ms.hdOf b).opc) rfl rfl).set 3 (.bool (Ms.hdOf b).auth) rfl rfl).set 4 (.bool (Ms.hdOf b).cut) rfl rfl).set 5 (.bool (Ms.hdOf b).des) rfl rfl).set 6 (.bool (Ms.hdOf b).avl) rfl rfl).set 7 (.int .i64 (Ms.hdOf b).code) rfl rfl).set 8 (.slice aoq qs.length capq) rfl rfl).set 9 (.slice aoa l0.length capa) rfl rfl).set 10 (.slice aon l1.length capn) rfl rfl).set 11 (.slice aod l2.length capd) rfl rfl).set 12 (.bool ed) rfl rfl).set 13 (.int .i64 z) rfl rfl)
          simp only [msg0, List.set_cons_zero, List.set_cons_succ] at F9
          clear c0 d0 f0 c1 d1 f1 c2 d2 f2 c3 d3 f3 c4 d4 f4 c5 d5 f5 c6 d6 f6 c7 d7 f7 c8 d8 f8 c9 d9 f9 c10 d10 f10 c11 d11 f11 c12 d12 f12 c13 d13 f13
          generalize World.setCell _ _ _ = W9 at F9 ⊢
          have a0 := F9.m.blk.cell (i := 0) (v := .int .i64 (Ms.hdOf b).id) rfl
          have a1 := F9.m.blk.cell (i := 1) (v := .bool (Ms.hdOf b).resp) rfl
          have a2 := F9.m.blk.cell (i := 2) (v := .int .i64 (Ms.hdOf b).opc) rfl
          have a3 := F9.m.blk.cell (i := 3) (v := .bool (Ms.hdOf b).auth) rfl
          have a4 := F9.m.blk.cell (i := 4) (v := .bool (Ms.hdOf b).cut) rfl
          have a5 := F9.m.blk.cell (i := 5) (v := .bool (Ms.hdOf b).des) rfl
          have a6 := F9.m.blk.cell (i := 6) (v := .bool (Ms.hdOf b).avl) rfl
          have a7 := F9.m.blk.cell (i := 7) (v := .int .i64 (Ms.hdOf b).code) rfl
          have a8 := F9.m.blk.cell (i := 8) (v := .slice aoq qs.length capq) rfl
          have a9 := F9.m.blk.cell (i := 9) (v := .slice aoa l0.length capa) rfl
          have a10 := F9.m.blk.cell (i := 10) (v := .slice aon l1.length capn) rfl
          have a11 := F9.m.blk.cell (i := 11) (v := .slice aod l2.length capd) rfl
          have a12 := F9.m.blk.cell (i := 12) (v := .bool ed) rfl
          have a13 := F9.m.blk.cell (i := 13) (v := .int .i64 z) rfl
          refine bodyPost_ret (v := msgV { Ms.hdOf b with qs := qs, an := l0, ns := l1, ad := l2, edns := ed, size := z } (.slice aoq qs.length capq) (.slice aoa l0.length capa) (.slice aon l1.length capn) (.slice aod l2.length capd)) (by simp [results, Try.results27, go_sem, a0, a1, a2, a3, a4, a5, a6, a7, a8, a9, a10, a11, a12, a13, msgV]) rfl ⟨_, _, _, _, _, after ok s, rfl, ⟨fill_Q F0.out.m.blk F0.out.str F9.oth hQ8.out, fill_R F0.out.m.blk F0.out.str F9.oth hA8.out, fill_R F0.out.m.blk F0.out.str F9.oth hN8.out, fill_R F0.out.m.blk F0.out.str F9.oth hD8.out⟩, F9.m.tn, F9.m.rd, HF.out⟩
end Go.Proofs.Ytfmghbmbahembaa
