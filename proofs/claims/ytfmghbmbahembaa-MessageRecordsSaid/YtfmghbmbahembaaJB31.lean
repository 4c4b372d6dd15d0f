/- A reader of a message: the head. -/
import Derived.RegionTactic
import Derived.Test.YtfmghbmbahembaaJB17
import Derived.Test.YtfmghbmbahembaaJB19
import Derived.Test.YtfmghbmbahembaaJB29
import Derived.Test.YtfmghbmbahembaaJB30
/- A reader of a message: the head. -/
namespace Go.Proofs.Ytfmghbmbahembaa
open Go.RowKit Go.Shelf
attribute [local go_sem] Oper.semAt_some

theorem Mine.beside {B : Nat} {b : List UInt8} {bv : Value} {s : Option Nat} {w : World} {R R' : Nat} {t t' : TypeId} {cs cs' : List Value} {W : World} (h : Mine B b bv s w R t cs W) (h' : Mine B b bv s w R' t' cs' W) (hne : R ≠ R') (i : Nat) (v : Value) (hv : isU8 v = false) : Mine B b bv s w R t cs (W.setCell ⟨R', i, none⟩ v) where
  blk := h.blk.other hne i v
  rd := (h'.set i v hv).rd
  tn := (h'.set i v hv).tn
  no := h.no
  more := h.more
  ne := h.ne
  own := h.own
theorem Mine.then {B : Nat} {b : List UInt8} {bv : Value} {s s' : Option Nat} {w : World} {R : Nat} {t : TypeId} {cs : List Value} {W W' : World} (h : Mine B b bv s w R t cs W) (ht : Turn (Only B) W W') (hr : RdS B b bv s' W') : Mine B b bv s' w R t cs W' where
  blk := h.blk.turn ht h.ne
  rd := hr
  tn := h.tn.then ht
  no := h.no
  more := h.more
  ne := h.ne
  own := h.own
theorem Mine.below {B : Nat} {b : List UInt8} {bv : Value} {s : Option Nat} {w : World} {R : Nat} {t : TypeId} {cs : List Value} {W W' : World} (h : Mine B b bv s w R t cs W) (hb : Below W.heap.size W W') : Mine B b bv s w R t cs W' := h.then (Turn.of_below hb) (h.rd.below hb)
theorem Mine.new {B : Nat} {b : List UInt8} {bv : Value} {s : Option Nat} {w W : World} (hr : RdS B b bv s W) (ht : Turn (Only B) w W) (cs : List Value) (t : TypeId) (hno : cs.all (fun v => !isU8 v) = true) (hm : cs.length ≠ 1) : Mine B b bv s w W.heap.size t cs (W.alloc (.cells cs.toArray t)) where
  blk := Block.new _ _ _
  rd := hr.turnAlloc _
  tn := since_alloc ht _
  no := hno
  more := hm
  ne := by have := hr.lt; omega
  own := ht.size

/-- Two bytes, and none where there are none. -/
def tw (b : List UInt8) (k : Nat) : Nat := (b.getD k 0).toNat * 256 + (b.getD (k + 1) 0).toNat
theorem tw_le (b : List UInt8) (k : Nat) : tw b k ≤ 65535 := by
  unfold tw
  have h1 := (b.getD k 0).toNat_lt
  have h2 := (b.getD (k + 1) 0).toNat_lt
  omega
theorem twoAt_in {b : List UInt8} {k : Nat} (h : k + 2 ≤ b.length) : twoAt b (some k) = tw b k := by
  unfold twoAt tw
  simp only [Option.bind_some]
  rw [two_some h, Option.getD_some]
  simp [List.getD, List.getElem?_eq_getElem (show k < b.length by omega), List.getElem?_eq_getElem (show k + 1 < b.length by omega)]
theorem twoTo_in {b : List UInt8} {k : Nat} (h : k + 2 ≤ b.length) : twoTo b (some k) = some (k + 2) := by
  unfold twoTo
  simp only [Option.bind_some]
  rw [two_some h]; rfl
theorem two_tw {b : List UInt8} {k : Nat} (h : k + 2 ≤ b.length) : Ms.two? b k = some (tw b k) := by
  have := twoAt_in h
  unfold twoAt at this
  simp only [Option.bind_some] at this
  rw [two_some h] at this ⊢
  rw [← this]; rfl
def headOk (b : List UInt8) : Bool := decide (Ms.threes b = 0) && (decide (tw b 4 ≤ 4) && decide (b.length ≤ 4096))
def countsV (b : List UInt8) : Value := .agg #[.int .i64 (tw b 4 : Int), .int .i64 (tw b 6 : Int), .int .i64 (tw b 8 : Int), .int .i64 (tw b 10 : Int)]
def HeadRet (B : Nat) (b : List UInt8) (bv : Value) (w : World) (e : Ending) (w' : World) : Prop := e = .returned (.tuple #[msgV (Ms.hdOf b) (.slice none 0 0) (.slice none 0 0) (.slice none 0 0) (.slice none 0 0), countsV b]) ∧ Turn (Only B) w w' ∧ RdS B b bv (after (headOk b) (some 12)) w'
def msg0 : List Value := [.int .i64 0, .bool false, .int .i64 0, .bool false, .bool false, .bool false, .bool false, .int .i64 0, .slice none 0 0, .slice none 0 0, .slice none 0 0, .slice none 0 0, .bool false, .int .i64 0]
theorem zeroMsg (w : World) : (zeroValue 27).run Try.prog w = .ok (.agg msg0.toArray) w := by kernel_rfl
theorem zeroCounts (w : World) : (zeroValue 61).run Try.prog w = .ok (.agg #[.int .i64 0, .int .i64 0, .int .i64 0, .int .i64 0]) w := by kernel_rfl

theorem Mine.drew {B : Nat} {b : List UInt8} {bv : Value} {s : Option Nat} {w : World} {R : Nat} {t : TypeId} {cs : List Value} {W : World} (h : Mine B b bv s w R t cs W) : Mine B b bv s w R t cs W.drew := h.below (Below.refl _ W).drew
theorem Mine.same {B : Nat} {b : List UInt8} {bv : Value} {s : Option Nat} {w : World} {R : Nat} {t : TypeId} {cs : List Value} {W : World} (h : Mine B b bv s w R t cs W) {i : Nat} {v : Value} (hi : cs[i]? = some v) : Mine B b bv s w R t cs (W.setCell ⟨R, i, none⟩ v) := by
  have hv : isU8 v = false := by
    have := List.all_eq_true.1 h.no v (List.mem_of_getElem? hi)
    simpa using this
  have := h.set i v hv
  obtain ⟨hlt, rfl⟩ := List.getElem?_eq_some_iff.1 hi
  rwa [List.set_getElem_self] at this
def Both (B : Nat) (b : List UInt8) (bv : Value) (s : Option Nat) (w : World) (R R' : Nat) (t t' : TypeId) (cs cs' : List Value) (W : World) : Prop := Mine B b bv s w R t cs W ∧ Mine B b bv s w R' t' cs' W ∧ R ≠ R'
theorem Both.one {B : Nat} {b : List UInt8} {bv : Value} {s : Option Nat} {w : World} {R R' : Nat} {t t' : TypeId} {cs cs' : List Value} {W : World} (i : Nat) {v : Value} (hi : cs[i]? = some v) (h : Both B b bv s w R R' t t' cs cs' W) : Both B b bv s w R R' t t' cs cs' (W.setCell ⟨R, i, none⟩ v) := by
  have hv : isU8 v = false := by
    have := List.all_eq_true.1 h.1.no v (List.mem_of_getElem? hi)
    simpa using this
  exact ⟨h.1.same hi, h.2.1.beside h.1 (fun e => h.2.2 e.symm) i v hv, h.2.2⟩
theorem Both.two {B : Nat} {b : List UInt8} {bv : Value} {s : Option Nat} {w : World} {R R' : Nat} {t t' : TypeId} {cs cs' : List Value} {W : World} (i : Nat) {v : Value} (hi : cs'[i]? = some v) (h : Both B b bv s w R R' t t' cs cs' W) : Both B b bv s w R R' t t' cs cs' (W.setCell ⟨R', i, none⟩ v) := by
  have hv : isU8 v = false := by
    have := List.all_eq_true.1 h.2.1.no v (List.mem_of_getElem? hi)
    simpa using this
  exact ⟨h.1.beside h.2.1 h.2.2 i v hv, h.2.1.same hi, h.2.2⟩
theorem Both.drew {B : Nat} {b : List UInt8} {bv : Value} {s : Option Nat} {w : World} {R R' : Nat} {t t' : TypeId} {cs cs' : List Value} {W : World} (h : Both B b bv s w R R' t t' cs cs' W) : Both B b bv s w R R' t t' cs cs' W.drew := ⟨h.1.drew, h.2.1.drew, h.2.2⟩
/-- The counts as far as they are read. -/
def cnt (b : List UInt8) (k : Nat) : List Value := (List.range 4).map fun j => .int .i64 (if j < k then (tw b (4 + 2 * j) : Int) else 0)
theorem cnt_zero (b : List UInt8) : cnt b 0 = [.int .i64 0, .int .i64 0, .int .i64 0, .int .i64 0] := rfl
theorem cnt_four (b : List UInt8) : cnt b 4 = [.int .i64 (tw b 4 : Int), .int .i64 (tw b 6 : Int), .int .i64 (tw b 8 : Int), .int .i64 (tw b 10 : Int)] := rfl
theorem cnt_get (b : List UInt8) : ∀ k, k < 4 → (cnt b k).toArray[k]? = some (.int .i64 0)
  | 0, _ => rfl
  | 1, _ => rfl
  | 2, _ => rfl
  | 3, _ => rfl
  | k + 4, h => by omega
theorem cnt_set (b : List UInt8) : ∀ k, k < 4 → (cnt b k).set k (.int .i64 (tw b (4 + 2 * k) : Int)) = cnt b (k + 1)
  | 0, _ => rfl
  | 1, _ => rfl
  | 2, _ => rfl
  | 3, _ => rfl
  | k + 4, h => by omega
def headCells (b : List UInt8) : List Value := [.int .i64 (Ms.hdOf b).id, .bool (Ms.hdOf b).resp, .int .i64 (Ms.hdOf b).opc, .bool (Ms.hdOf b).auth, .bool (Ms.hdOf b).cut, .bool (Ms.hdOf b).des, .bool (Ms.hdOf b).avl, .int .i64 (Ms.hdOf b).code, .slice none 0 0, .slice none 0 0, .slice none 0 0, .slice none 0 0, .bool false, .int .i64 0]
theorem bit_ne (n k : Nat) (hn : n < 2) (hk : 0 < k) : (((n * k : Nat) : Int) != 0) = (n == 1) := by
  match n, hn with
  | 0, _ => simp
  | 1, _ => simp; omega
theorem headCells_eq (b : List UInt8) (hF : tw b 2 ≤ 65535) : ([.int .i64 (tw b 0 : Int), .bool (bits .and .i64 (tw b 2 : Int) 32768 != 0), .int .i64 (bits .and .i64 ((tw b 2 : Int) / 2048) 15), .bool (bits .and .i64 (tw b 2 : Int) 1024 != 0), .bool (bits .and .i64 (tw b 2 : Int) 512 != 0), .bool (bits .and .i64 (tw b 2 : Int) 256 != 0), .bool (bits .and .i64 (tw b 2 : Int) 128 != 0), .int .i64 (bits .and .i64 (tw b 2 : Int) 15), .slice none 0 0, .slice none 0 0, .slice none 0 0, .slice none 0 0, .bool false, .int .i64 0] : List Value) = headCells b := by
  have e : ((tw b 2 : Nat) : Int) / 2048 = ((tw b 2 / 2048 : Nat) : Int) := by omega
  rw [e, and32768 _ (by omega), and15 _ (by omega), and1024 _ (by omega), and512 _ (by omega), and256 _ (by omega), and128 _ (by omega), and15 _ (by omega), bit_ne _ _ (by omega) (by omega), bit_ne _ _ (by omega) (by omega), bit_ne _ _ (by omega) (by omega), bit_ne _ _ (by omega) (by omega), bit_ne _ _ (by omega) (by omega)]
  rfl
theorem threes_eq (b : List UInt8) : Ms.threes b = tw b 2 / 16 % 8 := rfl

set_option maxRecDepth 100000 in
set_option maxHeartbeats 8000000 in
theorem dhead_any (B : Nat) (b : List UInt8) (bv : Value) (w : World) (h : RdS B b bv (some 0) w) (hcap : CapOk bv) (hlen : b.length ≤ 100000) (h12 : 12 ≤ b.length) :
    Calls Try.prog 26 #[.pointer (some ⟨B, 0, none⟩)] w (HeadRet B b bv w) := by
  have C0 := Lib.hid (fun W (hr : RdS B b bv (some 0) W) => dtwo_any B b bv (some 0) W hr hcap (by omega))
  have C1 := Lib.hid (fun W (hr : RdS B b bv (some 2) W) => dtwo_any B b bv (some 2) W hr hcap (by omega))
  rw [twoAt_in (by omega), twoTo_in (by omega)] at C0 C1
  have HH := Lib.hid h
  have hz1 := zeroMsg w
  have M1 := Mine.new h (Turn.refl _ _) msg0 27 rfl (by decide)
  have hz2 := zeroCounts (w.alloc (.cells msg0.toArray 27))
  have M2 := Mine.new M1.rd M1.tn [.int .i64 0, .int .i64 0, .int .i64 0, .int .i64 0] 61 rfl (by decide)
  replace M1 := M1.below ((Below.refl _ _).alloc (Nat.le_refl _) (.cells [Value.int .i64 0, .int .i64 0, .int .i64 0, .int .i64 0].toArray 61))
  rw [World.size_alloc] at M2
  unfold msg0 at hz1 hz2 M1 M2
  have HM1 := Lib.hid M1
  have HM2 := Lib.hid M2
  clear h M1 M2
  go_enter Try.func26, Try.ntmps26
  go_wp2_with fail
  refine (C0.out _ HM1.out.rd).mono ?_
  obtain ⟨R2, hR2⟩ : ∃ R, w.heap.size + 1 = R := ⟨_, rfl⟩
  obtain ⟨R1, hR1⟩ : ∃ R, w.heap.size = R := ⟨_, rfl⟩
  rw [hR2] at HM2 ⊢
  rw [hR1] at HM1 ⊢
  have h12' : R1 ≠ R2 := by omega
  have h21' : R2 ≠ R1 := by omega
  clear hR1 hR2 hz1 hz2
  rintro e1 w1 ⟨rfl, t1, h1⟩
  replace HM1 := Lib.hid (HM1.out.then t1 h1)
  replace HM2 := Lib.hid (HM2.out.then t1 h1)
  clear t1 h1
  have c0 := HM1.out.blk.cell (i := 0) (v := .int .i64 0) rfl
  have f0 := HM1.out.blk.frozen 0
  obtain ⟨ID, hID⟩ : ∃ z : Nat, tw b 0 = z := ⟨_, rfl⟩
  rw [hID]
  go_wp2_with fail
  replace HM2 := Lib.hid (HM2.out.beside HM1.out h21' 0 (.int .i64 (ID : Int)) rfl)
  replace HM1 := Lib.hid (HM1.out.set 0 (.int .i64 (ID : Int)) rfl)
  refine (C1.out _ HM1.out.rd).mono ?_
  rintro e2 w2 ⟨rfl, t1, h1⟩
  replace HM1 := Lib.hid (HM1.out.then t1 h1)
  replace HM2 := Lib.hid (HM2.out.then t1 h1)
  simp only [List.set_cons_zero] at HM1
  have HID := Lib.hid hID
  obtain ⟨F, hF⟩ : ∃ z : Nat, tw b 2 = z := ⟨_, rfl⟩
  have hF16 : F ≤ 65535 := by have := tw_le b 2; omega
  rw [hF]
  have HF := Lib.hid hF
  clear t1 h1 c0 f0 hF hID
  have c1 := HM1.out.blk.cell (i := 1) (v := .bool false) rfl
  have c2 := HM1.out.blk.cell (i := 2) (v := .int .i64 0) rfl
  have c3 := HM1.out.blk.cell (i := 3) (v := .bool false) rfl
  have c4 := HM1.out.blk.cell (i := 4) (v := .bool false) rfl
  have c5 := HM1.out.blk.cell (i := 5) (v := .bool false) rfl
  have c6 := HM1.out.blk.cell (i := 6) (v := .bool false) rfl
  have c7 := HM1.out.blk.cell (i := 7) (v := .int .i64 0) rfl
  have f1 := HM1.out.blk.frozen 1
  have f2 := HM1.out.blk.frozen 2
  have f3 := HM1.out.blk.frozen 3
  have f4 := HM1.out.blk.frozen 4
  have f5 := HM1.out.blk.frozen 5
  have f6 := HM1.out.blk.frozen 6
  have f7 := HM1.out.blk.frozen 7
  go_wp2_with fail
  have HC := headCells_eq b (by have := HF.out; omega)
  rw [HID.out, HF.out] at HC
  replace HM2 := Lib.hid (((((((HM2.out.beside HM1.out h21' 1 (.bool (bits .and .i64 (F : Int) 32768 != 0)) rfl).beside (HM1.out.set 1 (.bool (bits .and .i64 (F : Int) 32768 != 0)) rfl) h21' 2 (.int .i64 (bits .and .i64 ((F : Int) / 2048) 15)) rfl).beside ((HM1.out.set 1 (.bool (bits .and .i64 (F : Int) 32768 != 0)) rfl).set 2 (.int .i64 (bits .and .i64 ((F : Int) / 2048) 15)) rfl) h21' 3 (.bool (bits .and .i64 (F : Int) 1024 != 0)) rfl).beside (((HM1.out.set 1 (.bool (bits .and .i64 (F : Int) 32768 != 0)) rfl).set 2 (.int .i64 (bits .and .i64 ((F : Int) / 2048) 15)) rfl).set 3 (.bool (bits .and .i64 (F : Int) 1024 != 0)) rfl) h21' 4 (.bool (bits .and .i64 (F : Int) 512 != 0)) rfl).beside ((((HM1.out.set 1 (.bool (bits .and .i64 (F : Int) 32768 != 0)) rfl).set 2 (.int .i64 (bits .and .i64 ((F : Int) / 2048) 15)) rfl).set 3 (.bool (bits .and .i64 (F : Int) 1024 != 0)) rfl).set 4 (.bool (bits .and .i64 (F : Int) 512 != 0)) rfl) h21' 5 (.bool (bits .and .i64 (F : Int) 256 != 0)) rfl).beside (((((HM1.out.set 1 (.bool (bits .and .i64 (F : Int) 32768 != 0)) rfl).set 2 (.int .i64 (bits .and .i64 ((F : Int) / 2048) 15)) rfl).set 3 (.bool (bits .and .i64 (F : Int) 1024 != 0)) rfl).set 4 (.bool (bits .and .i64 (F : Int) 512 != 0)) rfl).set 5 (.bool (bits .and .i64 (F : Int) 256 != 0)) rfl) h21' 6 (.bool (bits .and .i64 (F : Int) 128 != 0)) rfl).beside ((((((HM1.out.set 1 (.bool (bits .and .i64 (F : Int) 32768 != 0)) rfl).set 2 (.int .i64 (bits .and .i64 ((F : Int) / 2048) 15)) rfl).set 3 (.bool (bits .and .i64 (F : Int) 1024 != 0)) rfl).set 4 (.bool (bits .and .i64 (F : Int) 512 != 0)) rfl).set 5 (.bool (bits .and .i64 (F : Int) 256 != 0)) rfl).set 6 (.bool (bits .and .i64 (F : Int) 128 != 0)) rfl) h21' 7 (.int .i64 (bits .and .i64 (F : Int) 15)) rfl)
  replace HM1 := Lib.hid (((((((HM1.out.set 1 (.bool (bits .and .i64 (F : Int) 32768 != 0)) rfl).set 2 (.int .i64 (bits .and .i64 ((F : Int) / 2048) 15)) rfl).set 3 (.bool (bits .and .i64 (F : Int) 1024 != 0)) rfl).set 4 (.bool (bits .and .i64 (F : Int) 512 != 0)) rfl).set 5 (.bool (bits .and .i64 (F : Int) 256 != 0)) rfl).set 6 (.bool (bits .and .i64 (F : Int) 128 != 0)) rfl).set 7 (.int .i64 (bits .and .i64 (F : Int) 15)) rfl)
  simp only [List.set_cons_zero, List.set_cons_succ] at HM1
  rw [HC] at HM1
  rw [← cnt_zero b] at HM2
  generalize World.setCell _ _ _ = W3 at HM1 HM2 ⊢
  clear c1 c2 c3 c4 c5 c6 c7 f1 f2 f3 f4 f5 f6 f7 HC C0 C1
  have CT := Lib.hid (fun k (hk : k < 4) W (hr : RdS B b bv (some (4 + 2 * k)) W) => dtwo_any B b bv (some (4 + 2 * k)) W hr hcap (by omega))
  have HTW := Lib.hid (fun k (hk : k < 4) => twoAt_in (b := b) (k := 4 + 2 * k) (by omega))
  have HTO := Lib.hid (fun k (hk : k < 4) => twoTo_in (b := b) (k := 4 + 2 * k) (by omega))
  go_loopw [38] (fun i wr => ∃ k : Nat, i = .int .i64 (k : Int) ∧ k ≤ 4 ∧ Hid (Mine B b bv (some (4 + 2 * k)) w R1 27 (headCells b) wr) ∧ Hid (Mine B b bv (some (4 + 2 * k)) w R2 61 (cnt b k) wr)) (fun i _ => 5 - (intOf i).toNat)
  case atStart => exact ⟨0, rfl, by omega, HM1, HM2⟩
  case round =>
    obtain ⟨k, rfl, hk, hm1, hm2⟩ := hrel
    by_cases hlt : k < 4
    · have hc := hm2.out.blk.cell (i := k) (cnt_get b k hlt)
      have hf := hm2.out.blk.frozen k
      have C := Lib.hid (CT.out k hlt _ hm1.out.rd)
      rw [HTW.out k hlt, HTO.out k hlt] at C
      have HS := Lib.hid (cnt_set b k hlt)
      generalize tw b (4 + 2 * k) = z at C HS
      have hk0 : 0 ≤ (k : Int) := by omega
      have hk4 : (k : Int) < 4 := by omega
      clear hc hf
      go_wp2_with fail
      refine C.out.mono ?_
      rintro e3 w3 ⟨rfl, t1, h1⟩
      have n1 := Lib.hid (hm1.out.then t1 h1)
      have n2 := Lib.hid (hm2.out.then t1 h1)
      have hc := n2.out.blk.cell (i := k) (cnt_get b k hlt)
      have hf := n2.out.blk.frozen k
      clear t1 h1
      go_wp2_with fail
      go_roundw
      case rel => exact ⟨k + 1, by go_num, by omega, Lib.hid (n1.out.beside n2.out h12' k (.int .i64 (z : Int)) rfl), Lib.hid (by have := n2.out.set k (.int .i64 (z : Int)) rfl; rw [HS.out] at this; exact this)⟩
      case measure => simp [intOf]; omega
    · obtain rfl : k = 4 := by omega
      obtain ⟨ao, cap, rfl, _⟩ := hm1.out.rd.read.form
      have hB := hm1.out.rd.here
      have c0 := hB.cell (i := 0) (v := .slice ao b.length cap) rfl
      have d0 := hm2.out.blk.cell (i := 0) (v := .int .i64 (tw b 4 : Int)) rfl
      have hth := threes_eq b
      rw [HF.out] at hth
      have h112 := and112 F (by omega)
      have hcase : ∃ ok : Bool, headOk b = ok ∧ ((((bits .and .i64 (F : Int) 112) == 0) = false ∧ ok = false) ∨ (((bits .and .i64 (F : Int) 112) == 0) = true ∧ decide ((tw b 4 : Int) ≤ 4) = false ∧ ok = false) ∨ (((bits .and .i64 (F : Int) 112) == 0) = true ∧ decide ((tw b 4 : Int) ≤ 4) = true ∧ decide ((b.length : Int) ≤ 4096) = ok)) := by
        refine ⟨_, rfl, ?_⟩
        unfold headOk
        rw [h112, hth]
        by_cases g1 : F / 16 % 8 = 0
        · right
          have e1 : (((F / 16 % 8 * 16 : Nat) : Int) == 0) = true := by rw [g1]; rfl
          by_cases g2 : tw b 4 ≤ 4
          · right
            have e2 : decide ((tw b 4 : Int) ≤ 4) = true := decide_eq_true (by omega)
            have e3 : decide ((b.length : Int) ≤ 4096) = decide (b.length ≤ 4096) := by rw [decide_eq_decide]; omega
            exact ⟨e1, e2, by rw [e3, decide_eq_true g1, decide_eq_true g2]; rfl⟩
          · left
            have e2 : decide ((tw b 4 : Int) ≤ 4) = false := decide_eq_false (by omega)
            exact ⟨e1, e2, by rw [decide_eq_true g1, decide_eq_false g2]; rfl⟩
        · left
          have e1 : (((F / 16 % 8 * 16 : Nat) : Int) == 0) = false := by rw [beq_eq_false_iff_ne]; omega
          exact ⟨e1, by rw [decide_eq_false g1]; rfl⟩
      obtain ⟨ok, hok, hcase⟩ := hcase
      have cm := dmust_any B b _ (some (4 + 2 * 4)) ok _ hm1.out.rd
      obtain ⟨s6, hs6⟩ : ∃ s6, after ok (some (4 + 2 * 4)) = s6 := ⟨_, rfl⟩
      rw [hs6] at cm
      have CM := Lib.hid cm
      have HS6 := Lib.hid (show after ok (some 12) = s6 from hs6)
      clear cm hs6
      have HOK := Lib.hid hok
      clear hB hth h112 hok CT HTW HTO
      generalize hq : tw b 4 = q at d0 hcase
      have HQ := Lib.hid hq
      clear hq
      rcases hcase with ⟨g1, rfl⟩ | ⟨g1, g2, rfl⟩ | ⟨g1, g2, g3⟩
      all_goals
        go_wp2_with fail
        refine CM.out.mono ?_
        rintro e5 w5 ⟨rfl, t1, h1⟩
        have n1 := Lib.hid (hm1.out.then t1 h1)
        have n2 := Lib.hid (hm2.out.then t1 h1)
        clear t1 h1 c0 d0
        go_wp2_with fail
        have c0 := n1.out.blk.cell (i := 0) (v := .int .i64 (Ms.hdOf b).id) rfl
        have f0 := n1.out.blk.frozen 0
        have c1 := n1.out.blk.cell (i := 1) (v := .bool (Ms.hdOf b).resp) rfl
        have f1 := n1.out.blk.frozen 1
        have c2 := n1.out.blk.cell (i := 2) (v := .int .i64 (Ms.hdOf b).opc) rfl
        have f2 := n1.out.blk.frozen 2
        have c3 := n1.out.blk.cell (i := 3) (v := .bool (Ms.hdOf b).auth) rfl
        have f3 := n1.out.blk.frozen 3
        have c4 := n1.out.blk.cell (i := 4) (v := .bool (Ms.hdOf b).cut) rfl
        have f4 := n1.out.blk.frozen 4
        have c5 := n1.out.blk.cell (i := 5) (v := .bool (Ms.hdOf b).des) rfl
        have f5 := n1.out.blk.frozen 5
        have c6 := n1.out.blk.cell (i := 6) (v := .bool (Ms.hdOf b).avl) rfl
        have f6 := n1.out.blk.frozen 6
        have c7 := n1.out.blk.cell (i := 7) (v := .int .i64 (Ms.hdOf b).code) rfl
        have f7 := n1.out.blk.frozen 7
        have c8 := n1.out.blk.cell (i := 8) (v := .slice none 0 0) rfl
        have f8 := n1.out.blk.frozen 8
        have c9 := n1.out.blk.cell (i := 9) (v := .slice none 0 0) rfl
        have f9 := n1.out.blk.frozen 9
        have c10 := n1.out.blk.cell (i := 10) (v := .slice none 0 0) rfl
        have f10 := n1.out.blk.frozen 10
        have c11 := n1.out.blk.cell (i := 11) (v := .slice none 0 0) rfl
        have f11 := n1.out.blk.frozen 11
        have c12 := n1.out.blk.cell (i := 12) (v := .bool false) rfl
        have f12 := n1.out.blk.frozen 12
        have c13 := n1.out.blk.cell (i := 13) (v := .int .i64 0) rfl
        have f13 := n1.out.blk.frozen 13
        have d0 := n2.out.blk.cell (i := 0) (v := .int .i64 (tw b 4 : Int)) rfl
        have k0 := n2.out.blk.frozen 0
        have d1 := n2.out.blk.cell (i := 1) (v := .int .i64 (tw b 6 : Int)) rfl
        have k1 := n2.out.blk.frozen 1
        have d2 := n2.out.blk.cell (i := 2) (v := .int .i64 (tw b 8 : Int)) rfl
        have k2 := n2.out.blk.frozen 2
        have d3 := n2.out.blk.cell (i := 3) (v := .int .i64 (tw b 10 : Int)) rfl
        have k3 := n2.out.blk.frozen 3
        go_region
        clear c0 f0 c1 f1 c2 f2 c3 f3 c4 f4 c5 f5 c6 f6 c7 f7 c8 f8 c9 f9 c10 f10 c11 f11 c12 f12 c13 f13 d0 k0 d1 k1 d2 k2 d3 k3
        generalize hW6 : World.drew _ = W6
        have HB : Both B b (.slice ao b.length cap) s6 w R1 R2 27 61 (headCells b) (cnt b 4) W6 := by rw [← hW6]; exact Both.drew (Both.two 3 rfl (Both.two 2 rfl (Both.two 1 rfl (Both.two 0 rfl (Both.one 13 rfl (Both.one 12 rfl (Both.one 11 rfl (Both.one 10 rfl (Both.one 9 rfl (Both.one 8 rfl (Both.one 7 rfl (Both.one 6 rfl (Both.one 5 rfl (Both.one 4 rfl (Both.one 3 rfl (Both.one 2 rfl (Both.one 1 rfl (Both.one 0 rfl ⟨n1.out, n2.out, h12'⟩))))))))))))))))))
        clear hW6
        have HHB := Lib.hid HB
        have c0 := HB.1.blk.cell (i := 0) (v := .int .i64 (Ms.hdOf b).id) rfl
        have c1 := HB.1.blk.cell (i := 1) (v := .bool (Ms.hdOf b).resp) rfl
        have c2 := HB.1.blk.cell (i := 2) (v := .int .i64 (Ms.hdOf b).opc) rfl
        have c3 := HB.1.blk.cell (i := 3) (v := .bool (Ms.hdOf b).auth) rfl
        have c4 := HB.1.blk.cell (i := 4) (v := .bool (Ms.hdOf b).cut) rfl
        have c5 := HB.1.blk.cell (i := 5) (v := .bool (Ms.hdOf b).des) rfl
        have c6 := HB.1.blk.cell (i := 6) (v := .bool (Ms.hdOf b).avl) rfl
        have c7 := HB.1.blk.cell (i := 7) (v := .int .i64 (Ms.hdOf b).code) rfl
        have c8 := HB.1.blk.cell (i := 8) (v := .slice none 0 0) rfl
        have c9 := HB.1.blk.cell (i := 9) (v := .slice none 0 0) rfl
        have c10 := HB.1.blk.cell (i := 10) (v := .slice none 0 0) rfl
        have c11 := HB.1.blk.cell (i := 11) (v := .slice none 0 0) rfl
        have c12 := HB.1.blk.cell (i := 12) (v := .bool false) rfl
        have c13 := HB.1.blk.cell (i := 13) (v := .int .i64 0) rfl
        have d0 := HB.2.1.blk.cell (i := 0) (v := .int .i64 (tw b 4 : Int)) rfl
        have d1 := HB.2.1.blk.cell (i := 1) (v := .int .i64 (tw b 6 : Int)) rfl
        have d2 := HB.2.1.blk.cell (i := 2) (v := .int .i64 (tw b 8 : Int)) rfl
        have d3 := HB.2.1.blk.cell (i := 3) (v := .int .i64 (tw b 10 : Int)) rfl
        clear HB
        go_wp2_with fail
        refine bodyPost_ret (v := .tuple #[msgV (Ms.hdOf b) (.slice none 0 0) (.slice none 0 0) (.slice none 0 0) (.slice none 0 0), countsV b]) (by simp [results, Try.results26, go_sem, c0, c1, c2, c3, c4, c5, c6, c7, c8, c9, c10, c11, c12, c13, d0, d1, d2, d3, msgV, countsV]; exact ⟨rfl, rfl⟩) rfl ⟨rfl, HHB.out.1.tn, ?_⟩
        rw [HOK.out, HS6.out]
        exact HHB.out.1.rd
end Go.Proofs.Ytfmghbmbahembaa
