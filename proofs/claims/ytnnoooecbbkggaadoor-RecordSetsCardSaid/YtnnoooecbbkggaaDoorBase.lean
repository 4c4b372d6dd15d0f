/- What all walks of the seat share: endings, cuts of strings, slices that are read, small equations. -/
import Derived.WalkKit
import Derived.Lib.Hide
import Derived.BigQuiet
import Derived.Deep.QuietTactic
import Derived.Test.YtnnoooecbbkggaaDoorShelf
import Derived.Test.YtnnoooecbbkggaaDoorProg
import Derived.Test.YtnnoooecbbkggaaDoorMath
import Derived.Test.YtnnoooecbbkggaaDoorAppend
namespace Go.Proofs.YtnnoooecbbkggaaDoor
open Go.RowKit Go.Shelf

theorem ret_bool {a b : Bool} (h : a = b) : Ending.returned (.bool a) = .returned (.bool b) := by rw [h]
theorem ret_int {k : IntKind} {a b : Int} (h : a = b) : Ending.returned (.int k a) = .returned (.int k b) := by rw [h]
theorem ret_str {a b : List UInt8} (h : a = b) : Ending.returned (.string ⟨a.toArray⟩) = .returned (.string ⟨b.toArray⟩) := by rw [h]

/-- s[lo:hi] of a string. -/
theorem run_cut {P : Program} {t : TypeId} (h : P.underlying t = some .string) {l l' : List UInt8} {lo hi : Int} (h0 : 0 ≤ lo) (h1 : lo ≤ hi) (h2 : hi ≤ l.length) (hl : l' = (l.drop lo.toNat).take (hi.toNat - lo.toNat)) (w : World) :
    (Instr.slice t (.string ⟨l.toArray⟩) (some (.int .i64 lo)) (some (.int .i64 hi)) none).run P w = .ok (.string ⟨l'.toArray⟩) w := by
  rw [run_slice_string w t ⟨l.toArray⟩ .i64 .i64 lo hi h h0 h1 (by show hi ≤ (l.toArray.size : Int); simpa using h2), ByteArray.extract_mk, hl]

theorem ext_from (l : List UInt8) (k : Nat) : (⟨l.toArray⟩ : ByteArray).extract k l.length = ⟨(l.drop k).toArray⟩ := by
  rw [ByteArray.extract_mk, List.take_of_length_le (by simp)]
theorem ext_cut (l : List UInt8) (a b : Nat) : (⟨l.toArray⟩ : ByteArray).extract a b = ⟨((l.drop a).take (b - a)).toArray⟩ := ByteArray.extract_mk l a b
/-- s[lo:] of a string. -/
theorem run_from {P : Program} {t : TypeId} (h : P.underlying t = some .string) {l l' : List UInt8} {lo : Int} (h0 : 0 ≤ lo) (h2 : lo ≤ l.length) (hl : l' = l.drop lo.toNat) (w : World) :
    (Instr.slice t (.string ⟨l.toArray⟩) (some (.int .i64 lo)) none none).run P w = .ok (.string ⟨l'.toArray⟩) w := by
  have hb : 0 ≤ lo ∧ lo ≤ ((⟨l.toArray⟩ : ByteArray).size : Int) := ⟨h0, by show lo ≤ (l.toArray.size : Int); simpa using h2⟩
  simp only [run_slice_string_from_if w t ⟨l.toArray⟩ .i64 lo h]
  rw [if_pos (by first | exact hb | exact hb.2)]
  rw [ByteArray.extract_mk, hl, show (⟨l.toArray⟩ : ByteArray).size = l.length from by show l.toArray.size = _; simp, List.take_of_length_le (by simp)]

theorem cloneLite_any (s : ByteArray) (w : World) (hs : s.size ≤ 281474976710656) :
    Calls Tryd.prog 64 #[.string s] w fun e w' => e = .returned (.string s) ∧ Below w.heap.size w w' :=
  AnyPu.stringslite_Clone Tryd.laysPu25 s w hs

set_option maxHeartbeats 400000 in
theorem clone_any (l : List UInt8) (w : World) (hs : l.length ≤ 281474976710656) :
    Calls Tryd.prog 46 #[.string ⟨l.toArray⟩] w fun e w' => e = .returned (.string ⟨l.toArray⟩) ∧ Below w.heap.size w w' := by
  go_enter Tryd.func46, Tryd.ntmps46
  go_wp2_with fail
  refine (cloneLite_any ⟨l.toArray⟩ _ (by show l.toArray.size ≤ _; simpa using hs)).mono ?_
  rintro e w' ⟨rfl, hb⟩
  go_wp2
  go_ret
  exact ⟨rfl, hb⟩
/-- Nothing but draws. -/
def Drew (w w' : World) : Prop := ∃ n, w' = w.drewN n
theorem Drew.refl (w : World) : Drew w w := ⟨0, rfl⟩
theorem Drew.below {B : Nat} {w w' : World} (h : Drew w w') : Below B w w' := by
  obtain ⟨n, rfl⟩ := h
  exact ⟨rfl, rfl, rfl, Nat.le_refl _, fun _ _ => rfl⟩

theorem Drew.drewN {w w' : World} (h : Drew w w') (k : Nat) : Drew w (w'.drewN k) := by
  obtain ⟨n, rfl⟩ := h
  exact ⟨n + k, World.drewN_drewN _ _ _⟩
theorem Drew.trans {w w1 w' : World} (h : Drew w w1) (h' : Drew w1 w') : Drew w w' := by
  obtain ⟨k, rfl⟩ := h'
  exact h.drewN k

theorem infoByte : (Tryd.prog.info? 5).map (fun i => (i.zero, i.size, i.bytes)) = some (some (.int .u8 0), 1, 1) := by kernel_rfl
theorem infoStr : (Tryd.prog.info? 9).map (fun i => (i.zero, i.size, i.bytes)) = some (some (.string ⟨#[]⟩), 1, 16) := by kernel_rfl
theorem infoInt : (Tryd.prog.info? 3).map (fun i => (i.zero, i.size, i.bytes)) = some (some (.int .i64 0), 1, 8) := by kernel_rfl

def encS (l : List UInt8) : Value := .string ⟨l.toArray⟩
theorem encS_one (l : List UInt8) : (encS l).oneCell' = true := rfl
def encI (x : Nat) : Value := .int .i64 (x : Int)
theorem encI_one (x : Nat) : (encI x).oneCell' = true := rfl

/-- A slice of strings that is read: from an address on, or nil. -/
structure ReadS (v : Value) (ls : List (List UInt8)) (W : World) : Prop where
  form : ∃ ao cap, v = .slice ao ls.length cap ∧ ∀ (j : Nat) (h : j < ls.length), ∃ b off, ao = some ⟨b, off, none⟩ ∧ W.cell? ⟨b, off + j, none⟩ = some (encS ls[j])

/-- A slice of what the call owns, made with room. -/
theorem run_make0 {P : Program} {t e : TypeId} {z : Value} {bytes : Nat} (h1 : P.underlying t = some (.slice e)) (h2 : (P.info? e).map (fun i => (i.zero, i.size, i.bytes)) = some (some z, 1, bytes)) (c : Nat) (hc : bytes * c ≤ 281474976710656) (hc1 : c ≤ 1000000) (_hz : z.cells.size = 1) (W : World) :
    ∃ cur : Array Value, (Instr.makeSlice t (.int .i64 0) (.int .i64 (c : Int))).run P W = .ok (.slice (some ⟨W.heap.size, 0, none⟩) 0 c) (W.alloc (.cells cur e)) ∧ cur.size = c * 1 := by
  obtain ⟨i, hi, hz0, hz1, hz2⟩ := info_parts h2
  have hci : (c : Int) ≤ 9223372036854775807 := by omega
  have h := run_make (P := P) W t e i z h1 hi hz0 .i64 .i64 0 (c : Int) (by omega) (by omega) (by rw [hz2, ← Int.natCast_mul]; generalize bytes * c = p at hc; omega) hci
  refine ⟨madeCells z.cells ((c : Int).toNat * i.size), ?_, ?_⟩
  · rw [h]; rfl
  · rw [size_madeCells, hz1]; simp

theorem run_make0_all {P : Program} {t e : TypeId} {z : Value} {bytes : Nat} (h1 : P.underlying t = some (.slice e)) (h2 : (P.info? e).map (fun i => (i.zero, i.size, i.bytes)) = some (some z, 1, bytes)) (c : Nat) (hc : bytes * c ≤ 281474976710656) (hc1 : c ≤ 1000000) (_hz : z.cells.size = 1) :
    ∃ cur : Array Value, (∀ W : World, (Instr.makeSlice t (.int .i64 0) (.int .i64 (c : Int))).run P W = .ok (.slice (some ⟨W.heap.size, 0, none⟩) 0 c) (W.alloc (.cells cur e))) ∧ cur.size = c * 1 := by
  obtain ⟨i, hi, hz0, hz1, hz2⟩ := info_parts h2
  have hci : (c : Int) ≤ 9223372036854775807 := by omega
  have hcb : (i.bytes : Int) * (c : Int) ≤ 281474976710656 := by rw [hz2, ← Int.natCast_mul]; generalize bytes * c = p at hc; omega
  exact ⟨madeCells z.cells ((c : Int).toNat * i.size), fun W => run_make (P := P) W t e i z h1 hi hz0 .i64 .i64 0 (c : Int) (by omega) (by omega) hcb hci, by rw [size_madeCells, hz1]; simp⟩

/-- What a call that makes memory leaves as it was. -/
theorem bcell {W w1 : World} (hb : Below W.heap.size W w1) : (∀ b o, b < W.heap.size → w1.cell? ⟨b, o, none⟩ = W.cell? ⟨b, o, none⟩) ∧ (∀ b o, b < W.heap.size → w1.frozen? ⟨b, o, none⟩ = W.frozen? ⟨b, o, none⟩) :=
  ⟨fun b o h => hb.cell (p := ⟨b, o, none⟩) h, fun b o h => hb.frozen (p := ⟨b, o, none⟩) h⟩
theorem bcell1 {B : Nat} {W w1 : World} (hb : Below (B + 1) W w1) : (∀ o, w1.cell? ⟨B, o, none⟩ = W.cell? ⟨B, o, none⟩) ∧ (∀ o, w1.frozen? ⟨B, o, none⟩ = W.frozen? ⟨B, o, none⟩) :=
  ⟨fun o => hb.cell (p := ⟨B, o, none⟩) (Nat.lt_succ_self B), fun o => hb.frozen (p := ⟨B, o, none⟩) (Nat.lt_succ_self B)⟩
theorem cell_lt {W : World} {a : Addr} {v : Value} (h : W.cell? a = some v) : a.block < W.heap.size := by
  rcases Nat.lt_or_ge a.block W.heap.size with h' | h'
  · exact h'
  · simp [World.cell?, Array.getElem?_eq_none h'] at h
theorem ko_below {W W' : World} (h : Below W.heap.size W W') : KeepsOthers W W' := ⟨h.size, fun k _ hk _ => (h.block k (Array.getElem?_eq_some_iff.1 hk).1).trans hk⟩
theorem boxed_below {B : Nat} {t : TypeId} {v : Value} {W W' : World} (hb : Boxed W B t v) (h : Below W.heap.size W W') : Boxed W' B t v := (h.block B hb.lt).trans hb
theorem below_trans {W A C : World} (h : Below W.heap.size W A) (k : Below A.heap.size A C) : Below W.heap.size W C := h.trans (k.mono h.size)
/-- What lies behind the end of a loop over a function. -/
theorem boxed_putD {B D : Nat} {t : TypeId} {v : Value} {W : World} (hb : Boxed W B t v) {o : Obj} (hK : W.heap[D]? = some o) (ho : o.isCells = false) (o' : Obj) : Boxed (W.putObj D o') B t v :=
  hb.kept (grownBy_putObj' W D o') (fun e => by cases e; rw [show W.heap[B]? = _ from hb] at hK; cases hK; cases ho)
theorem below_putD {D : Nat} {w W : World} (h : Below w.heap.size w W) (hD : w.heap.size ≤ D) {o : Obj} (hK : W.heap[D]? = some o) (ho : o.isCells = false) (hw : o.isWalk = false) (o' : Obj) : Below w.heap.size w (W.putObj D o') :=
  h.trans (belowK_b (w := w) (Nat.le_refl _) W D o o' hD hK ho hw)
theorem readS_below {v : Value} {L : List (List UInt8)} {W W' : World} (h : ReadS v L W) (hb : Below W.heap.size W W') : ReadS v L W' := by
  obtain ⟨ao, cap, rfl, hc⟩ := h.form
  exact ⟨ao, cap, rfl, fun j hj => by
    obtain ⟨b, off, e, c⟩ := hc j hj
    exact ⟨b, off, e, (hb.cell (cell_lt c)).trans c⟩⟩
theorem readS_two (W : World) (x y : List UInt8) (t : TypeId) : ReadS (.slice (some ⟨W.heap.size, 0, none⟩) 2 2) [x, y] (W.alloc (.cells #[.string ⟨x.toArray⟩, .string ⟨y.toArray⟩] t)) := by
  refine ⟨some ⟨W.heap.size, 0, none⟩, 2, rfl, fun j hj => ⟨W.heap.size, 0, rfl, ?_⟩⟩
  have h := cells_new W [.string ⟨x.toArray⟩, .string ⟨y.toArray⟩] t j (encS ([x, y][j]'hj))
  have e : (⟨W.heap.size, 0, none⟩ : Addr).add j = ⟨W.heap.size, 0 + j, none⟩ := by unfold Addr.add; split <;> simp_all
  rw [e] at h
  refine h ?_
  match j, hj with
  | 0, _ => rfl
  | 1, _ => rfl

structure ReadI (v : Value) (zs : List Int) (W : World) : Prop where
  form : ∃ ao cap, v = .slice ao zs.length cap ∧ ∀ (j : Nat) (h : j < zs.length), ∃ b off, ao = some ⟨b, off, none⟩ ∧ W.cell? ⟨b, off + j, none⟩ = some (.int .i64 zs[j])
structure ReadB (v : Value) (l : List UInt8) (W : World) : Prop where
  form : ∃ ao cap, v = .slice ao l.length cap ∧ ∀ (j : Nat) (h : j < l.length), ∃ b off, ao = some ⟨b, off, none⟩ ∧ W.cell? ⟨b, off + j, none⟩ = some (encB l[j])

theorem app_bytes (a b : List UInt8) : (⟨a.toArray⟩ : ByteArray) ++ ⟨b.toArray⟩ = ⟨(a ++ b).toArray⟩ := by apply ByteArray.ext; simp [ByteArray.data_append]
/-- string of a fresh list of bytes. -/
theorem run_lit_str (l : List UInt8) (vs : List Value) (hv : l.map encB = vs) (W : World) :
    (convert 70 9 (.slice (some ⟨W.heap.size, 0, none⟩) l.length l.length)).run Tryd.prog (W.alloc (.cells vs.toArray 5)) = .ok (.string ⟨l.toArray⟩) (W.alloc (.cells vs.toArray 5)) := by
  subst hv
  exact run_convert_bytes_back (P := Tryd.prog) _ 70 9 5 ⟨W.heap.size, 0, none⟩ l.length l Tryd.underlying70 Tryd.underlying5 Tryd.underlying9 (fun j hj => cells_new W (l.map encB) 5 j (encB l[j]) (by simp [hj]))
theorem run_arg_str {v : Value} {l : List UInt8} {W : World} (h : ReadB v l W) (hne : l ≠ []) : (convert 70 9 v).run Tryd.prog W = .ok (.string ⟨l.toArray⟩) W := by
  obtain ⟨ao, cap, rfl, hc⟩ := h.form
  cases l with
  | nil => exact absurd rfl hne
  | cons c l =>
    obtain ⟨b, off, rfl, _⟩ := hc 0 (by simp)
    exact run_convert_bytes_back (P := Tryd.prog) W 70 9 5 ⟨b, off, none⟩ cap (c :: l) Tryd.underlying70 Tryd.underlying5 Tryd.underlying9 (fun j hj => by
      obtain ⟨b', off', e, c1⟩ := hc j hj
      cases e
      have e2 : (⟨b, off, none⟩ : Addr).add j = ⟨b, off + j, none⟩ := by unfold Addr.add; split <;> simp_all
      rw [e2]; exact c1)
theorem readB_below {v : Value} {l : List UInt8} {W W' : World} (h : ReadB v l W) (hb : Below W.heap.size W W') : ReadB v l W' := by
  obtain ⟨ao, cap, rfl, hc⟩ := h.form
  exact ⟨ao, cap, rfl, fun j hj => by
    obtain ⟨b, off, e, c⟩ := hc j hj
    exact ⟨b, off, e, (hb.cell (cell_lt c)).trans c⟩⟩

theorem nbeqI {a b : UInt8} (h : a ≠ b) : ((a.toNat : Int) == (b.toNat : Int)) = false := by rw [beq_eq_false_iff_ne]; intro e; exact h (by rw [← UInt8.toNat_inj]; exact Int.ofNat.inj e)
end Go.Proofs.YtnnoooecbbkggaaDoor
