/- Small functions: a byte folded, a byte shown, a label cut out, two compared, a copy. -/
import Derived.WalkKit
import Derived.Lib.Hide
import Derived.BigQuiet
import Derived.Deep.QuietTactic
import Derived.Test.YtiodfiegknkceaaDoorShelf
import Derived.Test.YtiodfiegknkceaaDoorProg
import Derived.Test.YtiodfiegknkceaaDoorMath
namespace Go.Proofs.YtiodfiegknkceaaDoor
open Go.RowKit Go.Shelf

theorem ret_bool {a b : Bool} (h : a = b) : Ending.returned (.bool a) = .returned (.bool b) := by rw [h]
theorem ret_int {k : IntKind} {a b : Int} (h : a = b) : Ending.returned (.int k a) = .returned (.int k b) := by rw [h]
theorem ret_str {a b : List UInt8} (h : a = b) : Ending.returned (.string ⟨a.toArray⟩) = .returned (.string ⟨b.toArray⟩) := by rw [h]

set_option maxHeartbeats 400000 in
theorem small_any (c : UInt8) (w : World) :
    Calls Tryd.prog 42 #[.int .u8 (c.toNat : Int)] w fun e w' => e = .returned (.int .u8 ((Nm.small c).toNat : Int)) ∧ w = w' := by
  by_cases h1 : 65 ≤ c.toNat
  · by_cases h2 : c.toNat ≤ 90
    · have H := Lib.hid (Nm.small_yes h1 h2)
      go_enter Tryd.func42, Tryd.ntmps42
      go_wp2
      go_ret
      exact ⟨ret_int H.out.symm, rfl⟩
    · have H := Lib.hid (Nm.small_no (c := c) (by omega))
      go_enter Tryd.func42, Tryd.ntmps42
      go_wp2
      go_ret
      exact ⟨ret_int (by rw [H.out]), rfl⟩
  · have H := Lib.hid (Nm.small_no (c := c) (by omega))
    go_enter Tryd.func42, Tryd.ntmps42
    go_wp2
    go_ret
    exact ⟨ret_int (by rw [H.out]), rfl⟩

set_option maxHeartbeats 400000 in
theorem cmpByte_any (a b : UInt8) (w : World) :
    Calls Tryd.prog 54 #[.int .u8 (a.toNat : Int), .int .u8 (b.toNat : Int)] w fun e w' => e = .returned (.int .i64 (Nm.cmpI a.toNat b.toNat)) ∧ w = w' := by
  by_cases h1 : a.toNat < b.toNat
  · have H := Lib.hid (Nm.cmpI_lt (x := a.toNat) (y := b.toNat) (by omega))
    go_enter Tryd.func54, Tryd.ntmps54
    go_wp2
    go_ret
    exact ⟨ret_int H.out.symm, rfl⟩
  · by_cases h2 : b.toNat < a.toNat
    · have H := Lib.hid (Nm.cmpI_gt (x := a.toNat) (y := b.toNat) (by omega))
      go_enter Tryd.func54, Tryd.ntmps54
      go_wp2
      go_ret
      exact ⟨ret_int H.out.symm, rfl⟩
    · have H := Lib.hid (Nm.cmpI_eq (x := a.toNat) (y := b.toNat) (by omega) (by omega))
      go_enter Tryd.func54, Tryd.ntmps54
      go_wp2
      go_ret
      exact ⟨ret_int H.out.symm, rfl⟩

set_option maxHeartbeats 400000 in
theorem cmpInt_any (a b : Int) (w : World) :
    Calls Tryd.prog 55 #[.int .i64 a, .int .i64 b] w fun e w' => e = .returned (.int .i64 (Nm.cmpI a b)) ∧ w = w' := by
  by_cases h1 : a < b
  · have H := Lib.hid (Nm.cmpI_lt h1)
    go_enter Tryd.func55, Tryd.ntmps55
    go_wp2
    go_ret
    exact ⟨ret_int H.out.symm, rfl⟩
  · by_cases h2 : b < a
    · have H := Lib.hid (Nm.cmpI_gt h2)
      go_enter Tryd.func55, Tryd.ntmps55
      go_wp2
      go_ret
      exact ⟨ret_int H.out.symm, rfl⟩
    · have H := Lib.hid (Nm.cmpI_eq h1 h2)
      go_enter Tryd.func55, Tryd.ntmps55
      go_wp2
      go_ret
      exact ⟨ret_int H.out.symm, rfl⟩

set_option maxHeartbeats 400000 in
theorem shown_any (c : UInt8) (w : World) :
    Calls Tryd.prog 53 #[.int .u8 (c.toNat : Int)] w fun e w' => e = .returned (.bool (decide (33 ≤ c.toNat ∧ c.toNat ≤ 126))) ∧ w = w' := by
  by_cases h1 : 33 ≤ c.toNat <;> by_cases h2 : c.toNat ≤ 126 <;>
  · go_enter Tryd.func53, Tryd.ntmps53
    go_wp2
    all_goals go_ret
    all_goals exact ⟨ret_bool (by first | (simp [h1, h2]; done) | (simp; omega) | (rw [Bool.eq_iff_iff]; simp; omega)), rfl⟩

/-- s[lo:hi] of a string. -/
theorem run_cut {P : Program} {t : TypeId} (h : P.underlying t = some .string) {l l' : List UInt8} {lo hi : Int} (h0 : 0 ≤ lo) (h1 : lo ≤ hi) (h2 : hi ≤ l.length) (hl : l' = (l.drop lo.toNat).take (hi.toNat - lo.toNat)) (w : World) :
    (Instr.slice t (.string ⟨l.toArray⟩) (some (.int .i64 lo)) (some (.int .i64 hi)) none).run P w = .ok (.string ⟨l'.toArray⟩) w := by
  rw [run_slice_string w t ⟨l.toArray⟩ .i64 .i64 lo hi h h0 h1 (by show hi ≤ (l.toArray.size : Int); simpa using h2), ByteArray.extract_mk, hl]

theorem ext_from (l : List UInt8) (k : Nat) : (⟨l.toArray⟩ : ByteArray).extract k l.length = ⟨(l.drop k).toArray⟩ := by
  rw [ByteArray.extract_mk, List.take_of_length_le (by simp)]
theorem ext_cut (l : List UInt8) (a b : Nat) : (⟨l.toArray⟩ : ByteArray).extract a b = ⟨((l.drop a).take (b - a)).toArray⟩ := ByteArray.extract_mk l a b
/-- s[lo:] of a string. -/
theorem run_from {P : Program} {t : TypeId} (h : P.underlying t = some .string) {l l' : List UInt8} {lo : Int} (h0 : 0 ≤ lo) (h2 : lo ≤ l.length) (hl : l' = l.drop lo.toNat) (w : World) :
    (Instr.slice t (.string ⟨l.toArray⟩) (some (.int .i64 lo)) none none).run P w = .ok (.string ⟨l'.toArray⟩) w := by
  have hb : 0 ≤ lo ∧ lo ≤ ((⟨l.toArray⟩ : ByteArray).size : Int) := ⟨h0, by show lo ≤ (l.toArray.size : Int); simpa using h2⟩
  simp only [run_slice_string_from_if w t ⟨l.toArray⟩ .i64 lo h]
  rw [if_pos (by first | exact hb | exact hb.2)]
  rw [ByteArray.extract_mk, hl, show (⟨l.toArray⟩ : ByteArray).size = l.length from by show l.toArray.size = _; simp, List.take_of_length_le (by simp)]

set_option maxRecDepth 100000 in
set_option maxHeartbeats 400000 in
/-- label: the bytes behind the number at at. -/
theorem label_any (n : List UInt8) (k : Nat) (w : World) (hs : n.length ≤ 100000) (hk : k < n.length) (hb : k + 1 + n[k].toNat ≤ n.length) :
    Calls Tryd.prog 48 #[.string ⟨n.toArray⟩, .int .i64 (k : Int)] w fun e w' => e = .returned (.string ⟨((n.drop (k + 1)).take n[k].toNat).toArray⟩) ∧ w = w' := by
  have hc : ((⟨n.toArray⟩ : ByteArray)[k]'hk) = n[k] := rfl
  have hsl := run_cut (P := Tryd.prog) Tryd.underlying9 (l := n) (l' := (n.drop (k + 1)).take n[k].toNat) (lo := (k : Int) + 1) (hi := (k : Int) + 1 + (n[k].toNat : Int)) (by omega) (by omega) (by omega) (by congr 1; omega) w
  go_enter Tryd.func48, Tryd.ntmps48
  go_wp2
  go_ret
  exact ⟨ret_str rfl, rfl⟩

theorem cloneLite_any (s : ByteArray) (w : World) (hs : s.size ≤ 281474976710656) :
    Calls Tryd.prog 52 #[.string s] w fun e w' => e = .returned (.string s) ∧ Below w.heap.size w w' :=
  AnyPu.stringslite_Clone Tryd.laysPu25 s w hs

set_option maxHeartbeats 400000 in
theorem clone_any (l : List UInt8) (w : World) (hs : l.length ≤ 281474976710656) :
    Calls Tryd.prog 41 #[.string ⟨l.toArray⟩] w fun e w' => e = .returned (.string ⟨l.toArray⟩) ∧ Below w.heap.size w w' := by
  go_enter Tryd.func41, Tryd.ntmps41
  go_wp2_with fail
  refine (cloneLite_any ⟨l.toArray⟩ _ (by show l.toArray.size ≤ _; simpa using hs)).mono ?_
  rintro e w' ⟨rfl, hb⟩
  go_wp2
  go_ret
  exact ⟨rfl, hb⟩
end Go.Proofs.YtiodfiegknkceaaDoor
