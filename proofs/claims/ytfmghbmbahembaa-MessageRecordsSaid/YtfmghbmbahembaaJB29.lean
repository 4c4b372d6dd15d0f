/- 2 texts put together: RdrD, RdrR. -/
import Derived.Deep.RegionHeld3
import Derived.Test.YtfmghbmbahembaaJB8
import Derived.Test.YtfmghbmbahembaaJB26
import Derived.Test.YtfmghbmbahembaaJB28
/- A reader of a message: a record's data. -/
namespace Go.Proofs.Ytfmghbmbahembaa
open Go.RowKit Go.Shelf
attribute [local go_sem] Oper.semAt_some

set_option maxRecDepth 100000 in
set_option maxHeartbeats 400000 in
theorem layout_any (t : Int) (w : World) : Calls Try.prog 93 #[.int .i64 t] w fun e w' => e = .returned (.tuple #[.int .i64 ((Rd.layD t).1 : Int), .int .i64 ((Rd.layD t).2.1 : Int)]) ∧ Below w.heap.size w w' := by
  have hLV := layV_D t
  obtain ⟨⟨a, n, c⟩, hx⟩ : ∃ x, Rd.layD t = x := ⟨_, rfl⟩
  rw [hx] at hLV ⊢
  simp only at hLV ⊢
  have HLV := Lib.hid hLV
  clear hLV hx
  go_enter Try.func93, Try.ntmps93
  go_wp2_with fail
  refine (layoutOf_any t _).mono ?_
  rintro e w1 ⟨rfl, b1⟩
  rw [HLV.out]
  simp only [layL]
  go_wp2_with fail
  go_quiet (fail)
  go_wp2_with fail
  go_ret2
  exact ⟨rfl, below_drewN (b1.alloc b1.size _) _⟩

/-! ### What is told -/
def bytesAt (b : List UInt8) (s : Option Nat) (k : Nat) : List UInt8 := match s with
  | some p => if p + k ≤ b.length then (b.drop p).take k else []
  | none => []
theorem bytesAt_len (b : List UInt8) (s : Option Nat) (k : Nat) : (bytesAt b s k).length ≤ k := by
  unfold bytesAt
  split
  · split
    · exact List.length_take_le _ _
    · simp
  · simp
theorem dbytes_any (B : Nat) (b : List UInt8) (bv : Value) (s : Option Nat) (k : Nat) (w : World) (h : RdS B b bv s w) (hcap : CapOk bv) (hlen : b.length ≤ 100000) :
    Calls Try.prog 89 #[.pointer (some ⟨B, 0, none⟩), .int .i64 (k : Int)] w (BytesRet B b bv (bytesAt b s k) (numTo b s k) w) := by
  cases s with
  | some p =>
    by_cases hp : p + k ≤ b.length
    · have e1 : bytesAt b (some p) k = (b.drop p).take k := if_pos hp
      have e2 : numTo b (some p) k = some (p + k) := if_pos hp
      rw [e1, e2]
      exact dbytes_yes B b bv p k w h hcap hlen hp
    · have e1 : bytesAt b (some p) k = [] := if_neg hp
      have e2 : numTo b (some p) k = none := if_neg hp
      rw [e1, e2]
      exact dbytes_no B b bv (some p) k w h hlen (fun q hq => by cases hq; exact .inr (by omega))
  | none => exact dbytes_no B b bv none k w h hlen (fun q hq => by cases hq)
theorem nameAt_len (b : List UInt8) (s : Option Nat) : (nameAt b s).length ≤ 255 := by
  cases s with
  | none => simp [nameAt]
  | some p =>
    cases hg : Wn.get b (p : Int) with
    | none => rw [nameAt_no hg]; simp
    | some x => rw [nameAt_yes hg]; exact Wn.get_len hg
/-- So many names, one behind the other. -/
def namesAt (b : List UInt8) : Nat → Option Nat → List UInt8 × Option Nat
  | 0, s => ([], s)
  | n + 1, s => (nameAt b s ++ (namesAt b n (nameTo b s)).1, (namesAt b n (nameTo b s)).2)
def NamesInv (b : List UInt8) (n : Nat) (S : List UInt8) (s : Option Nat) (T : List UInt8 × Option Nat) : Prop := (S ++ (namesAt b n s).1, (namesAt b n s).2) = T
theorem namesInv_step {b : List UInt8} {n : Nat} {S : List UInt8} {s : Option Nat} {T : List UInt8 × Option Nat} (h : NamesInv b (n + 1) S s T) : NamesInv b n (S ++ nameAt b s) (nameTo b s) T := by
  rw [← h]; unfold NamesInv; simp only [namesAt, List.append_assoc]
theorem namesInv_end {b : List UInt8} {S : List UInt8} {s : Option Nat} {T : List UInt8 × Option Nat} (h : NamesInv b 0 S s T) : T = (S, s) := by
  rw [← h]; simp only [namesAt, List.append_nil]
/-- A record's data, and where it ends, if all is well. -/
def dataGood (b : List UInt8) (t : Int) (sz p : Nat) : Option (List UInt8 × Nat) :=
  (namesAt b (Rd.layD t).2.1 (numTo b (some p) (Rd.layD t).1)).2.bind fun q =>
    if q ≤ p + sz ∧ p + sz ≤ b.length then some (bytesAt b (some p) (Rd.layD t).1 ++ (namesAt b (Rd.layD t).2.1 (numTo b (some p) (Rd.layD t).1)).1 ++ (b.drop q).take (p + sz - q), p + sz) else none
/-- What comes of an act that may fail. -/
def Comes {α : Type} (X : Option (α × Nat)) (x : α) (s' : Option Nat) : Prop := (∀ y q, X = some (y, q) → x = y ∧ s' = some q) ∧ (X = none → s' = none)
theorem comes_some {α : Type} (x : α) (q : Nat) : Comes (some (x, q)) x (some q) := ⟨fun y q h => by cases h; exact ⟨rfl, rfl⟩, fun h => by cases h⟩
theorem comes_none {α : Type} (x : α) : Comes (none : Option (α × Nat)) x none := ⟨fun y q h => (by cases h), fun _ => rfl⟩
def DataRet (B : Nat) (b : List UInt8) (bv : Value) (X : Option (List UInt8 × Nat)) (w : World) (e : Ending) (w' : World) : Prop := ∃ d s', e = .returned (.string ⟨d.toArray⟩) ∧ d.length ≤ 90000 ∧ Turn (Only B) w w' ∧ RdS B b bv s' w' ∧ Comes X d s'

set_option maxRecDepth 100000 in
set_option maxHeartbeats 2000000 in
theorem ddata_any (B : Nat) (b : List UInt8) (bv : Value) (s : Option Nat) (t : Int) (sz : Nat) (w : World) (h : RdS B b bv s w) (hcap : CapOk bv) (hlen : b.length ≤ 20000) (hsz : sz ≤ 65535) :
    Calls Try.prog 78 #[.pointer (some ⟨B, 0, none⟩), .int .i64 t, .int .i64 (sz : Int)] w (DataRet B b bv (s.bind (dataGood b t sz)) w) := by
  obtain ⟨p, e, hB, ha, hs⟩ := h.ex
  have hb := Rd.layD_bounds t
  have hX : ∀ y, (namesAt b (Rd.layD t).2.1 (numTo b s (Rd.layD t).1)) = y → (s.bind (dataGood b t sz)) = y.2.bind fun q => if q ≤ p + sz ∧ p + sz ≤ b.length then some (bytesAt b s (Rd.layD t).1 ++ y.1 ++ (b.drop q).take (p + sz - q), p + sz) else none := fun y hy => by
    subst hy
    rcases hs with ⟨hs, _⟩ | ⟨hs, _⟩
    · subst hs; rfl
    · subst hs
      have : ∀ n, (namesAt b n none).2 = none := fun n => by
        induction n with
        | zero => rfl
        | succ n ih => exact ih
      have h2 : numTo b none (Rd.layD t).1 = none := rfl
      rw [h2, this]; rfl
  have CL := Lib.hid (fun W => layout_any t W)
  obtain ⟨⟨a, n, c⟩, hx⟩ : ∃ x, Rd.layD t = x := ⟨_, rfl⟩
  rw [hx] at hb hX CL
  simp only at hb hX CL
  obtain ⟨ha16, hn2⟩ := hb
  obtain ⟨T, hT⟩ : ∃ T, namesAt b n (numTo b s a) = T := ⟨_, rfl⟩
  have HX := Lib.hid (hX T hT)
  have HI : Hid (NamesInv b n [] (numTo b s a) T) := Lib.hid (by rw [← hT]; unfold NamesInv; rw [List.nil_append])
  generalize s.bind (dataGood b t sz) = X at HX ⊢
  have hl0 := bytesAt_len b s a
  have CB := Lib.hid (fun W (hr : RdS B b bv s W) => dbytes_any B b bv s a W hr hcap (by omega))
  generalize bytesAt b s a = L at HX hl0 CB
  generalize numTo b s a = s0 at CB HI
  have CN := Lib.hid (fun s W (hr : RdS B b bv s W) => dname_any B b bv s W hr hcap (by omega))
  have CE := Lib.hid (fun q k W (hr : RdS B b bv (some q) W) hk => dbytes_yes B b bv q k W hr hcap (by omega) hk)
  have CF := Lib.hid (fun s n W (hr : RdS B b bv s W) hk => dbytes_no B b bv s n W hr (by omega) hk)
  have HH := Lib.hid h
  have hc1 := hB.cell (i := 1) (v := .int .i64 (p : Int)) rfl
  have HB := Lib.hid hB
  clear h hB hs hX hx hT hcap
  go_enter Try.func78, Try.ntmps78
  go_wp2_with fail
  refine (CL.out _).mono ?_
  rintro e1 w1 ⟨rfl, b1⟩
  have HH1 := Lib.hid (HH.out.below b1)
  have HT1 : Hid (Turn (Only B) w w1) := Lib.hid (Turn.of_below b1)
  clear hc1 b1
  go_wp2_with fail
  refine (CB.out _ HH1.out).mono ?_
  rintro e2 w2 ⟨v2, rfl, r2, t2, h2⟩
  have hcv := run_read_str r2
  have HT2 := Lib.hid (HT1.out.then t2)
  have HH2 := Lib.hid h2
  clear r2 t2 h2
  go_wp2_with fail
  clear hcv
  go_loopw [10, 27] (fun d i wr => ∃ (j : Nat) (S : List UInt8) (s : Option Nat), d = .string ⟨(L ++ S).toArray⟩ ∧ i = .int .i64 (j : Int) ∧ j ≤ n ∧ S.length ≤ 255 * j ∧ Hid (NamesInv b (n - j) S s T) ∧ Hid (Turn (Only B) w wr) ∧ Hid (RdS B b bv s wr)) (fun _ i _ => n + 1 - (intOf i).toNat)
  case atStart => exact ⟨0, [], s0, by rw [List.append_nil], rfl, by omega, by simp, HI, HT2, HH2⟩
  case round =>
    obtain ⟨j, S, s1, rfl, rfl, hj, hS, hi, ht, hh⟩ := hrel
    by_cases hlt : j < n
    · have HI2 : Hid (NamesInv b (n - (j + 1)) (S ++ nameAt b s1) (nameTo b s1) T) := Lib.hid (by
        have := hi.out
        rw [show n - j = (n - (j + 1)) + 1 by omega] at this
        exact namesInv_step this)
      have hnl := nameAt_len b s1
      have CN1 := Lib.hid (CN.out s1 _ hh.out)
      generalize nameAt b s1 = nm at HI2 hnl CN1
      generalize nameTo b s1 = s2 at HI2 CN1
      have happ := app_bytes (L ++ S) nm
      go_wp2_with fail
      refine CN1.out.mono ?_
      rintro e3 w3 ⟨rfl, t3, h3⟩
      have HT3 := Lib.hid (ht.out.then t3)
      have HH3 := Lib.hid h3
      clear t3 h3
      go_wp2_with fail
      go_roundw
      case rel => exact ⟨j + 1, S ++ nm, s2, by first | rfl | rw [List.append_assoc], by go_num, by omega, by rw [List.length_append]; omega, HI2, HT3, HH3⟩
      case measure => simp [intOf]; omega
    · obtain rfl : j = n := by omega
      have hend : T = (S, s1) := namesInv_end (by have := hi.out; rw [Nat.sub_self] at this; exact this)
      obtain ⟨q, e3, hB3, hq, hs3⟩ := hh.out.ex
      have hc3 := hB3.cell (i := 1) (v := .int .i64 (q : Int)) rfl
      have key : ∃ (M : List UInt8) (s4 : Option Nat), M.length ≤ 65535 ∧ (∀ W, RdS B b bv s1 W → Calls Try.prog 89 #[.pointer (some ⟨B, 0, none⟩), .int .i64 ((p : Int) + (sz : Int) - (q : Int))] W (BytesRet B b bv M s4 W)) ∧ Comes X (L ++ S ++ M) s4 := by
        rw [HX.out, hend]
        rcases hs3 with ⟨hs3, _⟩ | ⟨hs3, _⟩
        · subst hs3
          simp only [Option.bind_some]
          by_cases hqq : q ≤ p + sz ∧ p + sz ≤ b.length
          · rw [if_pos hqq]
            refine ⟨(b.drop q).take (p + sz - q), some (p + sz), by rw [List.length_take]; omega, fun W hr => ?_, comes_some _ _⟩
            have := CE.out q (p + sz - q) W hr (by omega)
            rw [show ((p + sz - q : Nat) : Int) = (p : Int) + (sz : Int) - (q : Int) by omega, show q + (p + sz - q) = p + sz by omega] at this
            exact this
          · rw [if_neg hqq]
            exact ⟨[], none, by simp, fun W hr => CF.out _ _ W hr (fun q' h' => by cases h'; omega), comes_none _⟩
        · subst hs3
          exact ⟨[], none, by simp, fun W hr => CF.out _ _ W hr (fun q' h' => by cases h'), comes_none _⟩
      obtain ⟨M, s4, hM, hC, hcome⟩ := key
      have HC := Lib.hid (hC _ hh.out)
      have HCM := Lib.hid hcome
      have happ := app_bytes (L ++ S) M
      clear hend hB3 hs3 hC hcome
      go_wp2_with fail
      refine HC.out.mono ?_
      rintro e4 w4 ⟨v4, rfl, r4, t4, h4⟩
      have hcv := run_read_str r4
      have HT4 := Lib.hid (ht.out.then t4)
      have HH4 := Lib.hid h4
      clear r4 t4 h4 hc3
      go_wp2_with fail
      go_ret
      exact ⟨L ++ (S ++ M), s4, rfl, by rw [List.length_append, List.length_append]; omega, HT4.out, HH4.out, by rw [← List.append_assoc]; exact HCM.out⟩
end Go.Proofs.Ytfmghbmbahembaa

/- A reader of a message: a record. -/
namespace Go.Proofs.Ytfmghbmbahembaa
open Go.RowKit Go.Shelf
attribute [local go_sem] Oper.semAt_some

/-! ### What lies in memory of the call's own, beside a reader -/
theorem Block.turn {W W' : World} {B R : Nat} {cs : Array Value} {t : TypeId} (h : Block W R cs t) (ht : Turn (Only B) W W') (hne : R ≠ B) : Block W' R cs t := (ht.block R h.lt hne).trans h
theorem since_alloc {B : Nat} {w W : World} (h : Turn (Only B) w W) (o : Obj) : Turn (Only B) w (W.alloc o) := h.then (Turn.of_below ((Below.refl _ W).alloc (Nat.le_refl _) o))
theorem since_set {B R i : Nat} {w W : World} {cs : Array Value} {t : TypeId} (h : Turn (Only B) w W) (hb : Block W R cs t) (hs : cs.size ≠ 1) (hR : w.heap.size ≤ R) (v : Value) : Turn (Only B) w (W.setCell ⟨R, i, none⟩ v) :=
  h.trans (turn_setCell (f := grow (Only B) w W) (show W.heap[R]? = some (.cells _ _ (0, 0)) from hb) hs (.inr ⟨hR, hb.lt⟩) i v)
theorem RdS.turnAlloc {B : Nat} {b : List UInt8} {bv : Value} {s : Option Nat} {W : World} (h : RdS B b bv s W) (o : Obj) : RdS B b bv s (W.alloc o) := h.below ((Below.refl _ W).alloc (Nat.le_refl _) o)
/-- Bytes don't lie in a block of another type. -/
theorem readB_block {R i : Nat} {l : List UInt8} {v u : Value} {cs : Array Value} {t : TypeId} {W : World} (hv : ReadB v l W) (hB : Block W R cs t) (hcs : ∀ (j : Nat) (z : Int), cs[j]? ≠ some (.int .u8 z)) : ReadB v l (W.setCell ⟨R, i, none⟩ u) := by
  obtain ⟨ao, cap, rfl, hc⟩ := hv.form
  refine ⟨ao, cap, rfl, fun j hj => ?_⟩
  obtain ⟨g, off, e', c⟩ := hc j hj
  refine ⟨g, off, e', ?_⟩
  have hne : g ≠ R := by
    rintro rfl
    have c' : cs[off + j]? = some (encB l[j]) := by
      have : W.cell? ⟨g, off + j, none⟩ = cs[off + j]? := by
        show (match W.heap[g]? with | some (.cells c _ _) => c[off + j]? | _ => none) = _
        rw [show W.heap[g]? = _ from hB]
      rw [← this]; exact c
    exact hcs _ _ c'
  rw [World.cell?_of_block (a := ⟨g, off + j, none⟩) (Below.heap_setCell W ⟨R, i, none⟩ u g hne)]
  exact c
theorem RdS.other {B R i : Nat} {b : List UInt8} {bv u : Value} {s : Option Nat} {cs : Array Value} {t : TypeId} {W : World} (h : RdS B b bv s W) (hB : Block W R cs t) (hne : R ≠ B) (hcs : ∀ (j : Nat) (z : Int), cs[j]? ≠ some (.int .u8 z)) : RdS B b bv s (W.setCell ⟨R, i, none⟩ u) := by
  obtain ⟨at', e, h1, h2, h3⟩ := h.ex
  exact ⟨⟨at', e, h1.other (fun h => hne h.symm) i u, h2, h3⟩, readB_block h.read hB hcs⟩
def isU8 : Value → Bool
  | .int .u8 _ => true
  | _ => false
theorem no_u8 {cs : List Value} (h : cs.all (fun v => !isU8 v) = true) (j : Nat) (z : Int) : cs.toArray[j]? ≠ some (.int .u8 z) := by
  intro e
  rw [List.getElem?_toArray] at e
  have := List.all_eq_true.1 h _ (List.mem_of_getElem? e)
  simp [isU8] at this

/-- A block of the call's own beside a reader. -/
structure Mine (B : Nat) (b : List UInt8) (bv : Value) (s : Option Nat) (w : World) (R : Nat) (t : TypeId) (cs : List Value) (W : World) : Prop where
  blk : Block W R cs.toArray t
  rd : RdS B b bv s W
  tn : Turn (Only B) w W
  no : cs.all (fun v => !isU8 v) = true
  more : cs.length ≠ 1
  ne : R ≠ B
  own : w.heap.size ≤ R
theorem Mine.set {B : Nat} {b : List UInt8} {bv : Value} {s : Option Nat} {w : World} {R : Nat} {t : TypeId} {cs : List Value} {W : World} (h : Mine B b bv s w R t cs W) (i : Nat) (v : Value) (hv : isU8 v = false) : Mine B b bv s w R t (cs.set i v) (W.setCell ⟨R, i, none⟩ v) where
  blk := by have := h.blk.set i v; rwa [List.setIfInBounds_toArray] at this
  rd := h.rd.other h.blk h.ne (no_u8 h.no)
  tn := since_set h.tn h.blk (by simpa using h.more) h.own v
  no := by
    rw [List.all_eq_true]
    intro x hx
    rcases List.mem_or_eq_of_mem_set hx with hx | rfl
    · exact List.all_eq_true.1 h.no x hx
    · rw [hv]; rfl
  more := by rw [List.length_set]; exact h.more
  ne := h.ne
  own := h.own

/-! ### A record -/
def ttlOf (n : Int) : Int := if 2147483648 ≤ n then 0 else n
def recGood (b : List UInt8) (s : Option Nat) : Option (Rd.RR × Nat) :=
  let s1 := nameTo b s
  let s2 := twoTo b s1
  let s3 := twoTo b s2
  let s4 := numTo b s3 4
  let s5 := twoTo b s4
  (s5.bind (dataGood b (twoAt b s1 : Int) (twoAt b s4))).map fun x => (⟨nameAt b s, (twoAt b s1 : Int), (twoAt b s2 : Int), ttlOf (numAt b s3 4 : Int), x.1⟩, x.2)
def RecRet (B : Nat) (b : List UInt8) (bv : Value) (X : Option (Rd.RR × Nat)) (w : World) (e : Ending) (w' : World) : Prop := ∃ r s', e = .returned (rrV r) ∧ r.name.length ≤ 255 ∧ r.data.length ≤ 90000 ∧ Turn (Only B) w w' ∧ RdS B b bv s' w' ∧ Comes X r s'
theorem twoAt_le (b : List UInt8) (s : Option Nat) : twoAt b s ≤ 65535 := by
  unfold twoAt
  cases s with
  | none => simp
  | some p =>
    simp only [Option.bind_some]
    cases h : Ms.two? b p with
    | none => simp
    | some v => exact (Ms.two_le h).1
theorem numAt_lt (b : List UInt8) (s : Option Nat) : numAt b s 4 < 4294967296 := by
  cases s with
  | none => simp [numAt]
  | some p =>
    unfold numAt
    simp only
    split
    · have h := numL_lt _ ((b.drop p).take 4) rfl
      have hl : ((b.drop p).take 4).length = 4 := by rw [List.length_take, List.length_drop]; omega
      rw [hl] at h
      exact h
    · omega
theorem recCome {D : Option (List UInt8 × Nat)} {d : List UInt8} {s' : Option Nat} (h : Comes D d s') (f : List UInt8 → Rd.RR) : Comes (D.map fun x => (f x.1, x.2)) (f d) s' := by
  cases D with
  | none => exact ⟨fun y q e => (by cases e), fun _ => h.2 rfl⟩
  | some x =>
    obtain ⟨rfl, rfl⟩ := h.1 x.1 x.2 rfl
    exact comes_some _ _
theorem zeroRR (w : World) : (zeroValue 45).run Try.prog w = .ok (.agg #[.string ⟨#[]⟩, .int .i64 0, .int .i64 0, .int .i64 0, .string ⟨#[]⟩]) w := by kernel_rfl

set_option maxRecDepth 100000 in
set_option maxHeartbeats 4000000 in
theorem drec_any (B : Nat) (b : List UInt8) (bv : Value) (s : Option Nat) (w : World) (h : RdS B b bv s w) (hcap : CapOk bv) (hlen : b.length ≤ 20000) :
    Calls Try.prog 59 #[.pointer (some ⟨B, 0, none⟩)] w (RecRet B b bv (recGood b s) w) := by
  have CN := Lib.hid (fun W (hr : RdS B b bv s W) => dname_any B b bv s W hr hcap (by omega))
  have hn := nameAt_len b s
  have C1 := Lib.hid (fun W (hr : RdS B b bv (nameTo b s) W) => dtwo_any B b bv _ W hr hcap (by omega))
  have C2 := Lib.hid (fun W (hr : RdS B b bv (twoTo b (nameTo b s)) W) => dtwo_any B b bv _ W hr hcap (by omega))
  have C3 := Lib.hid (fun W (hr : RdS B b bv (twoTo b (twoTo b (nameTo b s))) W) => dnum_any B b bv _ 4 W hr hcap (by omega) (by decide))
  have C4 := Lib.hid (fun W (hr : RdS B b bv (numTo b (twoTo b (twoTo b (nameTo b s))) 4) W) => dtwo_any B b bv _ W hr hcap (by omega))
  have hsz := twoAt_le b (numTo b (twoTo b (twoTo b (nameTo b s))) 4)
  have C5 := Lib.hid (fun W (hr : RdS B b bv (twoTo b (numTo b (twoTo b (twoTo b (nameTo b s))) 4)) W) => ddata_any B b bv _ (twoAt b (nameTo b s) : Int) (twoAt b (numTo b (twoTo b (twoTo b (nameTo b s))) 4)) W hr hcap hlen hsz)
  have ht := twoAt_le b (nameTo b s)
  have hc := twoAt_le b (twoTo b (nameTo b s))
  obtain ⟨X, hX⟩ : ∃ X, recGood b s = X := ⟨_, rfl⟩
  rw [hX]
  unfold recGood at hX
  simp only at hX
  generalize (twoTo b (numTo b (twoTo b (twoTo b (nameTo b s))) 4)).bind (dataGood b (twoAt b (nameTo b s) : Int) (twoAt b (numTo b (twoTo b (twoTo b (nameTo b s))) 4))) = D at hX C5
  generalize twoTo b (numTo b (twoTo b (twoTo b (nameTo b s))) 4) = s5 at C4 C5
  generalize twoAt b (numTo b (twoTo b (twoTo b (nameTo b s))) 4) = sz at C4 C5 hsz
  generalize numTo b (twoTo b (twoTo b (nameTo b s))) 4 = s4 at C3 C4
  generalize (numAt b (twoTo b (twoTo b (nameTo b s))) 4 : Int) = tt at C3 hX
  generalize twoTo b (twoTo b (nameTo b s)) = s3 at C2 C3
  generalize twoAt b (twoTo b (nameTo b s)) = c at C2 hX hc
  generalize twoTo b (nameTo b s) = s2 at C1 C2
  generalize twoAt b (nameTo b s) = t at C1 C5 hX ht
  generalize nameTo b s = s1 at CN C1
  generalize nameAt b s = n at CN hX hn
  have HX := Lib.hid hX
  have hBlt := h.lt
  have HH := Lib.hid h
  have hz := zeroRR w
  clear h hX hcap
  have HR0 : Hid (Block (w.alloc (.cells #[.string ⟨#[]⟩, .int .i64 0, .int .i64 0, .int .i64 0, .string ⟨#[]⟩] 45)) w.heap.size #[.string ⟨#[]⟩, .int .i64 0, .int .i64 0, .int .i64 0, .string ⟨#[]⟩] 45) := Lib.hid (Block.new _ _ _)
  have HT0 : Hid (Turn (Only B) w (w.alloc (.cells #[.string ⟨#[]⟩, .int .i64 0, .int .i64 0, .int .i64 0, .string ⟨#[]⟩] 45))) := Lib.hid (since_alloc (Turn.refl _ _) _)
  go_enter Try.func59, Try.ntmps59
  go_wp2_with fail
  refine (CN.out _ (HH.out.turnAlloc _)).mono ?_
  obtain ⟨R, hR⟩ : ∃ R, w.heap.size = R := ⟨_, rfl⟩
  rw [hR] at HR0 ⊢
  have hRB : R ≠ B := by omega
  have hRw : w.heap.size ≤ R := by omega
  clear hR hz
  rintro e1 w1 ⟨rfl, t1, h1⟩
  replace HR0 := Lib.hid (HR0.out.turn t1 hRB)
  replace HT0 := Lib.hid (HT0.out.then t1)
  replace HH := Lib.hid h1
  clear t1 h1
  go_wp2_with fail
  refine (C1.out _ HH.out).mono ?_
  rintro e2 w2 ⟨rfl, t1, h1⟩
  replace HR0 := Lib.hid (HR0.out.turn t1 hRB)
  replace HT0 := Lib.hid (HT0.out.then t1)
  replace HH := Lib.hid h1
  clear t1 h1
  go_wp2_with fail
  refine (C2.out _ HH.out).mono ?_
  rintro e3 w3 ⟨rfl, t1, h1⟩
  replace HR0 := Lib.hid (HR0.out.turn t1 hRB)
  replace HT0 := Lib.hid (HT0.out.then t1)
  replace HH := Lib.hid h1
  clear t1 h1
  go_wp2_with fail
  refine (C3.out _ HH.out).mono ?_
  rintro e4 w4 ⟨rfl, t1, h1⟩
  replace HR0 := Lib.hid (HR0.out.turn t1 hRB)
  replace HT0 := Lib.hid (HT0.out.then t1)
  replace HH := Lib.hid h1
  clear t1 h1
  clear hc
  by_cases hge : 2147483648 ≤ tt
  · have HTL := Lib.hid (show ttlOf tt = 0 from if_pos hge)
    have hd : decide (2147483648 ≤ tt) = true := decide_eq_true hge
    clear hge
    go_wp2_with fail
    obtain ⟨W5, hW5⟩ : ∃ W5, w4.alloc (.cells #[.string ⟨n.toArray⟩, .int .i64 (t : Int), .int .i64 (c : Int), .int .i64 0, .string ⟨#[]⟩] 45) = W5 := ⟨_, rfl⟩
    have K5 : Block W5 w4.heap.size #[.string ⟨n.toArray⟩, .int .i64 (t : Int), .int .i64 (c : Int), .int .i64 0, .string ⟨#[]⟩] 45 := by rw [← hW5]; exact Block.new _ _ _
    have HR5 : Hid (Block W5 R #[.string ⟨#[]⟩, .int .i64 0, .int .i64 0, .int .i64 0, .string ⟨#[]⟩] 45) := Lib.hid (by rw [← hW5]; exact HR0.out.alloc _)
    have HT5 : Hid (Turn (Only B) w W5) := Lib.hid (by rw [← hW5]; exact since_alloc HT0.out _)
    have HH5 : Hid (RdS B b bv s4 W5.drew) := Lib.hid (RdS.below (by rw [← hW5]; exact HH.out.turnAlloc _) (Below.refl _ _).drew)
    have hX5 : w.heap.size ≤ w4.heap.size := HT0.out.size
    have hXB : w4.heap.size ≠ B := by omega
    have hXR : w4.heap.size ≠ R := by have := HR0.out.lt; omega
    rw [hW5]
    obtain ⟨A, hA⟩ : ∃ A, w4.heap.size = A := ⟨_, rfl⟩
    rw [hA] at K5 hX5 hXB hXR ⊢
    have k1 := K5.cell (i := 1) (v := .int .i64 (t : Int)) rfl
    have HK5 := Lib.hid K5
    clear hW5 hA HR0 HT0 HH K5
    go_region_held3 (fun w' => w'.cell? ⟨A, 1, none⟩ = some (.int .i64 (t : Int)))
      ((first | assumption | exact keep_cell (by assumption) (by assumption) | go_keep))
      (first
        | (go_at_call 56; (with_reducible refine (C4.out _ HH5.out).mono ?_); rintro e5 w6 ⟨rfl, t6, h6⟩; have HK6 := Lib.hid ((HK5.out.below (Below.refl _ _).drew).turn t6 hXB); have k1' := HK6.out.cell (i := 1) (v := .int .i64 (t : Int)) rfl)
        | (go_at_call 78; (with_reducible refine (C5.out _ h6).mono ?_); rintro e6 w7 ⟨d, s7, rfl, hd7, t7, h7, hcm⟩; have HK7 := Lib.hid (HK6.out.turn t7 hXB); have k1'' := HK7.out.cell (i := 1) (v := .int .i64 (t : Int)) rfl; have k4' := HK7.out.cell (i := 4) (v := .string ⟨#[]⟩) rfl; have f4' := HK7.out.frozen 4; have k9 := (HK7.out.set 4 (.string ⟨d.toArray⟩)).cell (i := 1) (v := .int .i64 (t : Int)) rfl))
    have HK8 := Lib.hid (HK7.out.set 4 (.string ⟨d.toArray⟩))
    have HR8 := Lib.hid ((((HR5.out.below (Below.refl _ _).drew).turn t6 hRB).turn t7 hRB).other hXR.symm 4 (.string ⟨d.toArray⟩))
    have HT8 := Lib.hid (since_set (((HT5.out.then (only_drew B _)).then t6).then t7) HK7.out (i := 4) (by simp) hX5 (.string ⟨d.toArray⟩))
    have HH8 := Lib.hid (h7.other (i := 4) (u := .string ⟨d.toArray⟩) HK7.out hXB (no_u8 rfl))
    have HCM := Lib.hid hcm
    clear t6 t7 h6 h7 hcm k1 k1' k1'' k4' f4' k9
    generalize w7.setCell ⟨A, 4, none⟩ (.string ⟨d.toArray⟩) = W8 at HK8 HR8 HT8 HH8 ⊢
    simp only [List.setIfInBounds_toArray, List.set_cons_succ, List.set_cons_zero] at HK8
    have a0 := HK8.out.cell (i := 0) rfl
    have a1 := HK8.out.cell (i := 1) rfl
    have a2 := HK8.out.cell (i := 2) rfl
    have a3 := HK8.out.cell (i := 3) rfl
    have a4 := HK8.out.cell (i := 4) rfl
    have r0 := HR8.out.cell (i := 0) rfl
    have r1 := HR8.out.cell (i := 1) rfl
    have r2 := HR8.out.cell (i := 2) rfl
    have r3 := HR8.out.cell (i := 3) rfl
    have r4 := HR8.out.cell (i := 4) rfl
    have q0 := HR8.out.frozen 0
    have q1 := HR8.out.frozen 1
    have q2 := HR8.out.frozen 2
    have q3 := HR8.out.frozen 3
    have q4 := HR8.out.frozen 4
    go_wp2_with fail
    have HM := ((((Mine.set ⟨HR8.out, HH8.out, HT8.out, rfl, (by simp), hRB, hRw⟩ 0 (.string ⟨n.toArray⟩) rfl).set 1 (.int .i64 (t : Int)) rfl).set 2 (.int .i64 (c : Int)) rfl).set 3 (.int .i64 0) rfl).set 4 (.string ⟨d.toArray⟩) rfl
    simp only [List.set_cons_zero, List.set_cons_succ] at HM
    clear a0 a1 a2 a3 a4 r0 r1 r2 r3 r4 q0 q1 q2 q3 q4
    generalize World.setCell _ _ _ = W9 at HM ⊢
    have a0 := HM.blk.cell (i := 0) rfl
    have a1 := HM.blk.cell (i := 1) rfl
    have a2 := HM.blk.cell (i := 2) rfl
    have a3 := HM.blk.cell (i := 3) rfl
    have a4 := HM.blk.cell (i := 4) rfl
    refine bodyPost_ret (v := rrV ⟨n, (t : Int), (c : Int), 0, d⟩) (by simp [results, Try.results59, go_sem, a0, a1, a2, a3, a4, rrV]) rfl ⟨_, s7, rfl, hn, hd7, HM.tn, HM.rd, ?_⟩
    rw [← HX.out, HTL.out]
    exact recCome HCM.out (fun d => ⟨n, (t : Int), (c : Int), 0, d⟩)
  · have HTL := Lib.hid (show ttlOf tt = tt from if_neg hge)
    have hd : decide (2147483648 ≤ tt) = false := decide_eq_false hge
    clear hge
    go_wp2_with fail
    obtain ⟨W5, hW5⟩ : ∃ W5, w4.alloc (.cells #[.string ⟨n.toArray⟩, .int .i64 (t : Int), .int .i64 (c : Int), .int .i64 tt, .string ⟨#[]⟩] 45) = W5 := ⟨_, rfl⟩
    have K5 : Block W5 w4.heap.size #[.string ⟨n.toArray⟩, .int .i64 (t : Int), .int .i64 (c : Int), .int .i64 tt, .string ⟨#[]⟩] 45 := by rw [← hW5]; exact Block.new _ _ _
    have HR5 : Hid (Block W5 R #[.string ⟨#[]⟩, .int .i64 0, .int .i64 0, .int .i64 0, .string ⟨#[]⟩] 45) := Lib.hid (by rw [← hW5]; exact HR0.out.alloc _)
    have HT5 : Hid (Turn (Only B) w W5) := Lib.hid (by rw [← hW5]; exact since_alloc HT0.out _)
    have HH5 : Hid (RdS B b bv s4 W5.drew) := Lib.hid (RdS.below (by rw [← hW5]; exact HH.out.turnAlloc _) (Below.refl _ _).drew)
    have hX5 : w.heap.size ≤ w4.heap.size := HT0.out.size
    have hXB : w4.heap.size ≠ B := by omega
    have hXR : w4.heap.size ≠ R := by have := HR0.out.lt; omega
    rw [hW5]
    obtain ⟨A, hA⟩ : ∃ A, w4.heap.size = A := ⟨_, rfl⟩
    rw [hA] at K5 hX5 hXB hXR ⊢
    have k1 := K5.cell (i := 1) (v := .int .i64 (t : Int)) rfl
    have HK5 := Lib.hid K5
    clear hW5 hA HR0 HT0 HH K5
    go_region_held3 (fun w' => w'.cell? ⟨A, 1, none⟩ = some (.int .i64 (t : Int)))
      ((first | assumption | exact keep_cell (by assumption) (by assumption) | go_keep))
      (first
        | (go_at_call 56; (with_reducible refine (C4.out _ HH5.out).mono ?_); rintro e5 w6 ⟨rfl, t6, h6⟩; have HK6 := Lib.hid ((HK5.out.below (Below.refl _ _).drew).turn t6 hXB); have k1' := HK6.out.cell (i := 1) (v := .int .i64 (t : Int)) rfl)
        | (go_at_call 78; (with_reducible refine (C5.out _ h6).mono ?_); rintro e6 w7 ⟨d, s7, rfl, hd7, t7, h7, hcm⟩; have HK7 := Lib.hid (HK6.out.turn t7 hXB); have k1'' := HK7.out.cell (i := 1) (v := .int .i64 (t : Int)) rfl; have k4' := HK7.out.cell (i := 4) (v := .string ⟨#[]⟩) rfl; have f4' := HK7.out.frozen 4; have k9 := (HK7.out.set 4 (.string ⟨d.toArray⟩)).cell (i := 1) (v := .int .i64 (t : Int)) rfl))
    have HK8 := Lib.hid (HK7.out.set 4 (.string ⟨d.toArray⟩))
    have HR8 := Lib.hid ((((HR5.out.below (Below.refl _ _).drew).turn t6 hRB).turn t7 hRB).other hXR.symm 4 (.string ⟨d.toArray⟩))
    have HT8 := Lib.hid (since_set (((HT5.out.then (only_drew B _)).then t6).then t7) HK7.out (i := 4) (by simp) hX5 (.string ⟨d.toArray⟩))
    have HH8 := Lib.hid (h7.other (i := 4) (u := .string ⟨d.toArray⟩) HK7.out hXB (no_u8 rfl))
    have HCM := Lib.hid hcm
    clear t6 t7 h6 h7 hcm k1 k1' k1'' k4' f4' k9
    generalize w7.setCell ⟨A, 4, none⟩ (.string ⟨d.toArray⟩) = W8 at HK8 HR8 HT8 HH8 ⊢
    simp only [List.setIfInBounds_toArray, List.set_cons_succ, List.set_cons_zero] at HK8
    have a0 := HK8.out.cell (i := 0) rfl
    have a1 := HK8.out.cell (i := 1) rfl
    have a2 := HK8.out.cell (i := 2) rfl
    have a3 := HK8.out.cell (i := 3) rfl
    have a4 := HK8.out.cell (i := 4) rfl
    have r0 := HR8.out.cell (i := 0) rfl
    have r1 := HR8.out.cell (i := 1) rfl
    have r2 := HR8.out.cell (i := 2) rfl
    have r3 := HR8.out.cell (i := 3) rfl
    have r4 := HR8.out.cell (i := 4) rfl
    have q0 := HR8.out.frozen 0
    have q1 := HR8.out.frozen 1
    have q2 := HR8.out.frozen 2
    have q3 := HR8.out.frozen 3
    have q4 := HR8.out.frozen 4
    go_wp2_with fail
    have HM := ((((Mine.set ⟨HR8.out, HH8.out, HT8.out, rfl, (by simp), hRB, hRw⟩ 0 (.string ⟨n.toArray⟩) rfl).set 1 (.int .i64 (t : Int)) rfl).set 2 (.int .i64 (c : Int)) rfl).set 3 (.int .i64 tt) rfl).set 4 (.string ⟨d.toArray⟩) rfl
    simp only [List.set_cons_zero, List.set_cons_succ] at HM
    clear a0 a1 a2 a3 a4 r0 r1 r2 r3 r4 q0 q1 q2 q3 q4
    generalize World.setCell _ _ _ = W9 at HM ⊢
    have a0 := HM.blk.cell (i := 0) rfl
    have a1 := HM.blk.cell (i := 1) rfl
    have a2 := HM.blk.cell (i := 2) rfl
    have a3 := HM.blk.cell (i := 3) rfl
    have a4 := HM.blk.cell (i := 4) rfl
    refine bodyPost_ret (v := rrV ⟨n, (t : Int), (c : Int), tt, d⟩) (by simp [results, Try.results59, go_sem, a0, a1, a2, a3, a4, rrV]) rfl ⟨_, s7, rfl, hn, hd7, HM.tn, HM.rd, ?_⟩
    rw [← HX.out, HTL.out]
    exact recCome HCM.out (fun d => ⟨n, (t : Int), (c : Int), tt, d⟩)
end Go.Proofs.Ytfmghbmbahembaa
