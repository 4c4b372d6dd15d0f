/- Types' names: Type, and the document's own TypeText, Decimal, Known. -/
import Derived.Test.YtnnoooecbbkggaaDoorLay
import Derived.Test.YtnnoooecbbkggaaDoorItoa
import Derived.Lib.AppendIntMem
import Derived.Lib.ItoaLen
namespace Go.Proofs.YtnnoooecbbkggaaDoor
open Go.RowKit Go.Shelf
attribute [local go_sem] Oper.semAt_some

/-- The laid table that strconv reads. -/
def VarsOk (w : World) : Prop := Lib.TabIs Tryd.prog w "internal/strconv.uint64pow10" .u64 Lib.pow10Tab
theorem VarsOk.below {w w' : World} (h : VarsOk w) (hb : Below w.heap.size w w') : VarsOk w' := Lib.tabBelow_of_tabIs h w' hb

theorem itoa_any (n : Int) (w : World) (h0 : -9223372036854775808 ≤ n) (h1 : n ≤ 9223372036854775807) (hv : VarsOk w) :
    Calls Tryd.prog 44 #[.int .i64 n] w fun e w' => e = .returned (.string ⟨(Lib.itoa n).toArray⟩) ∧ Below w.heap.size w w' :=
  (Any.strconv_Itoa Tryd.laysM171 n h0 h1 w hv).mono fun e w' ⟨he, k, os, hw⟩ => ⟨he, by rw [hw]; exact Lib.below_grow _ w (Nat.le_refl _) k os⟩

namespace Rd
theorem decDigits_ne (u : Nat) : Lib.decDigits u ≠ [] := by
  rw [Lib.decDigits]; split <;> simp
/-- Digits so far, the last ones first. -/
def DecTo (U u : Nat) (dd : List UInt8) : Prop := (dd = [] ∧ u = U) ∨ (dd ≠ [] ∧ Lib.decDigits U = (if u = 0 then dd else Lib.decDigits u ++ dd))
theorem DecTo.start (U : Nat) : DecTo U U [] := .inl ⟨rfl, rfl⟩
theorem DecTo.step {U u : Nat} {dd : List UInt8} (h : DecTo U u dd) (hc : u ≠ 0 ∨ dd = []) : DecTo U (u / 10) (UInt8.ofNat (48 + u % 10) :: dd) := by
  have hd : Lib.decDigits u = (if u / 10 = 0 then [] else Lib.decDigits (u / 10)) ++ [UInt8.ofNat (48 + u % 10)] := by
    rw [Lib.decDigits]
    split
    · rw [if_pos (by omega), Nat.mod_eq_of_lt (by omega)]; rfl
    · rw [if_neg (by omega)]
  refine .inr ⟨by simp, ?_⟩
  rcases h with ⟨rfl, rfl⟩ | ⟨h1, h2⟩
  · rw [hd]; split <;> simp
  · have h0 : u ≠ 0 := hc.elim id (fun e => absurd e h1)
    rw [h2, if_neg h0, hd]; split <;> simp
theorem DecTo.done {U : Nat} {dd : List UInt8} (h : DecTo U 0 dd) (hne : dd ≠ []) : dd = Lib.decDigits U := by
  rcases h with ⟨rfl, _⟩ | ⟨_, h2⟩
  · exact absurd rfl hne
  · rw [h2, if_pos rfl]
end Rd
theorem u64_neg {n : Int} (h0 : -9223372036854775808 ≤ n) (hn : n < 0) : IntKind.u64.wrap (-IntKind.u64.wrap n) = (n.natAbs : Int) := by
  have e : ∀ m : Int, IntKind.u64.wrap m = m % 18446744073709551616 := fun m => by
    unfold IntKind.wrap
    simp [IntKind.bits, IntKind.signed]
  rw [e, e]
  omega
def emptyOf : Value → Nat
  | .string s => if s.size = 0 then 1 else 0
  | _ => 0
theorem emptyOf_nil : emptyOf (.string ⟨([] : List UInt8).toArray⟩) = 1 := rfl
theorem emptyOf_cons (c : UInt8) (l : List UInt8) : emptyOf (.string ⟨(c :: l).toArray⟩) = 0 := rfl
def Room (u : Nat) (dd : List UInt8) : Prop := dd.length ≤ 20 ∧ u < 10 ^ (20 - dd.length)
theorem Room.start {U : Nat} (h : U ≤ 9223372036854775808) : Room U [] := ⟨by simp, by simp; omega⟩
theorem Room.step {u : Nat} {dd : List UInt8} {c : UInt8} (h : Room u dd) (hc : u ≠ 0 ∨ dd = []) : Room (u / 10) (c :: dd) := by
  obtain ⟨h1, h2⟩ := h
  have hlt : dd.length < 20 := by
    rcases hc with hc | rfl
    · rcases Nat.lt_or_ge dd.length 20 with h | h
      · exact h
      · have : 20 - dd.length = 0 := by omega
        rw [this] at h2; simp at h2; exact absurd h2 hc
    · simp
  refine ⟨by simp; omega, ?_⟩
  rw [List.length_cons]
  rw [show 20 - dd.length = (20 - (dd.length + 1)) + 1 from by omega, Nat.pow_succ] at h2
  omega

set_option maxRecDepth 100000 in
set_option maxHeartbeats 1000000 in
theorem decimal_any (n : Int) (w : World) (h0 : -9223372036854775808 ≤ n) (h1 : n ≤ 9223372036854775807) :
    Calls Tryd.prog 45 #[.int .i64 n] w fun e w' => e = .returned (.string ⟨(Lib.itoa n).toArray⟩) ∧ Below w.heap.size w w' := by
  have hU : n.natAbs ≤ 9223372036854775808 := by omega
  obtain ⟨s, hs, hsn, hst⟩ : ∃ s : List UInt8, Hid (Lib.itoa n = s ++ Lib.decDigits n.natAbs) ∧ ((n < 0 ∧ s = [45]) ∨ (0 ≤ n ∧ s = [])) ∧ s.length ≤ 1 := by
    by_cases hn : n < 0
    · exact ⟨[45], Lib.hid (by unfold Lib.itoa; rw [if_pos hn]; rfl), .inl ⟨hn, rfl⟩, by simp⟩
    · exact ⟨[], Lib.hid (by unfold Lib.itoa; rw [if_neg hn, show n.toNat = n.natAbs from by omega]; rfl), .inr ⟨by omega, rfl⟩, by simp⟩
  obtain ⟨U, hUU⟩ : ∃ U, n.natAbs = U := ⟨_, rfl⟩
  rw [hUU] at hU hs
  have hX : (n < 0 → IntKind.u64.wrap (-IntKind.u64.wrap n) = (U : Int)) ∧ (0 ≤ n → n = (U : Int)) := ⟨fun h => by rw [u64_neg h0 h, hUU], fun h => by omega⟩
  have HX := Lib.hid hX
  clear hX hUU
  rcases hsn with ⟨hn, rfl⟩ | ⟨hn, rfl⟩
  all_goals
    go_enter Tryd.func45, Tryd.ntmps45
    go_wp2
    go_loopw [3, 5] (fun x y wr => ∃ (u : Nat) (dd : List UInt8), x = .int .u64 (u : Int) ∧ y = .string ⟨dd.toArray⟩ ∧ u ≤ 9223372036854775808 ∧ dd.length ≤ 20 ∧ Hid (Room u dd ∧ Rd.DecTo U u dd) ∧ Below w.heap.size w wr) (fun x y _ => (intOf x).toNat + emptyOf y)
    case atStart => exact ⟨U, [], by first | rw [HX.out.1 hn] | rw [← HX.out.2 hn], rfl, hU, by simp, Lib.hid ⟨Room.start hU, Rd.DecTo.start U⟩, Below.refl _ _⟩
    case round =>
      obtain ⟨u, dd, rfl, rfl, hu, hdd, hh, hb⟩ := hrel
      have hwr := hb.size
      obtain ⟨c, hc⟩ : ∃ c : UInt8, c = UInt8.ofNat (48 + u % 10) := ⟨_, rfl⟩
      have hcn : c.toNat = 48 + u % 10 := by rw [hc, UInt8.toNat_ofNat']; omega
      have hst : (convert 70 9 (.slice (some ⟨wr.heap.size, 0, none⟩) 1 1)).run Tryd.prog (wr.alloc (.cells #[.int .u8 (48 + (u : Int) % 10)] 5)) = .ok (.string ⟨[c].toArray⟩) (wr.alloc (.cells #[.int .u8 (48 + (u : Int) % 10)] 5)) :=
        run_lit_str [c] [.int .u8 (48 + (u : Int) % 10)] (by
          simp only [List.map_cons, List.map_nil, encB]
          rw [hcn]; rfl) wr
      have HC := Lib.hid hc
      clear hcn hc
      by_cases h0 : 0 < u
      · have e1 := app_bytes [c] dd
        have HN : Hid (Room (u / 10) (c :: dd) ∧ Rd.DecTo U (u / 10) (c :: dd)) := Lib.hid ⟨hh.out.1.step (.inl (by omega)), by rw [HC.out]; exact hh.out.2.step (.inl (by omega))⟩
        have hl : (c :: dd).length ≤ 20 := HN.out.1.1
        go_wp2
        go_roundw
        case rel => exact ⟨u / 10, c :: dd, by go_num, rfl, by omega, hl, HN, hb.alloc hwr _⟩
        case measure => simp only [intOf, emptyOf_cons]; omega
      · obtain rfl : u = 0 := by omega
        by_cases hne : dd = []
        · subst hne
          have hst : (convert 70 9 (.slice (some ⟨wr.heap.size, 0, none⟩) 1 1)).run Tryd.prog (wr.alloc (.cells #[.int .u8 48] 5)) = .ok (.string ⟨[c].toArray⟩) (wr.alloc (.cells #[.int .u8 48] 5)) := hst
          have e1 := app_bytes [c] []
          have HN : Hid (Room 0 [c] ∧ Rd.DecTo U 0 [c]) := Lib.hid ⟨hh.out.1.step (c := c) (.inr rfl), by rw [HC.out]; exact hh.out.2.step (.inr rfl)⟩
          go_wp2
          go_roundw
          case rel => exact ⟨0, [c], rfl, rfl, by omega, by simp, HN, hb.alloc hwr _⟩
          case measure => simp only [intOf, emptyOf_cons, emptyOf_nil]; omega
        · have HN : Hid (dd = Lib.decDigits U) := Lib.hid (hh.out.2.done hne)
          have hne1 : dd.isEmpty = false := by simpa using hne
          have e1 := app_bytes [45] dd
          have e2 := app_bytes [] dd
          clear hst
          go_wp2
          go_ret
          exact ⟨ret_str (by rw [hs.out, ← HN.out]; rfl), hb⟩

namespace Rd
/-- A type's name. -/
def tname (t : Int) : List UInt8 :=
  if t = 1 then [65] else
  if t = 2 then [78, 83] else
  if t = 5 then [67, 78, 65, 77, 69] else
  if t = 6 then [83, 79, 65] else
  if t = 12 then [80, 84, 82] else
  if t = 15 then [77, 88] else
  if t = 16 then [84, 88, 84] else
  if t = 28 then [65, 65, 65, 65] else
  if t = 33 then [83, 82, 86] else
  if t = 41 then [79, 80, 84] else
  [84, 89, 80, 69] ++ Lib.itoa t
theorem tname_other {t : Int} (h1 : t ≠ 1) (h2 : t ≠ 2) (h5 : t ≠ 5) (h6 : t ≠ 6) (h12 : t ≠ 12) (h15 : t ≠ 15) (h16 : t ≠ 16) (h28 : t ≠ 28) (h33 : t ≠ 33) (h41 : t ≠ 41) : tname t = [84, 89, 80, 69] ++ Lib.itoa t := by
  unfold tname
  rw [if_neg h1, if_neg h2, if_neg h5, if_neg h6, if_neg h12, if_neg h15, if_neg h16, if_neg h28, if_neg h33, if_neg h41]
def knownL : List Int := [1, 2, 5, 6, 12, 15, 16, 28, 33]
def nameL : List Int := [1, 2, 5, 6, 12, 15, 16, 28, 33, 41]
def nameT : List (List UInt8) := [[65], [78, 83], [67, 78, 65, 77, 69], [83, 79, 65], [80, 84, 82], [77, 88], [84, 88, 84], [65, 65, 65, 65], [83, 82, 86], [79, 80, 84]]
theorem nameT_len : nameT.length = 10 := rfl
theorem tname_at {k : Nat} (h : k < 10) : tname (nameL[k]'h) = nameT[k]'h := by
  have : ∀ i : Fin 10, tname (nameL[i.1]'i.2) = nameT[i.1]'i.2 := by
    intro i
    match i with
    | 0 => rfl
    | 1 => rfl
    | 2 => rfl
    | 3 => rfl
    | 4 => rfl
    | 5 => rfl
    | 6 => rfl
    | 7 => rfl
    | 8 => rfl
    | 9 => rfl
  exact this ⟨k, h⟩
theorem known_at {k : Nat} (h : k < 9) : known (knownL[k]'h) = true := by
  have : ∀ i : Fin 9, known (knownL[i.1]'i.2) = true := by decide
  exact this ⟨k, h⟩
theorem nameT_le {k : Nat} (h : k < 10) : (nameT[k]'h).length ≤ 5 := by
  have : ∀ i : Fin 10, (nameT[i.1]'i.2).length ≤ 5 := by decide
  exact this ⟨k, h⟩
theorem known_none {t : Int} (h : ∀ k (hk : k < 9), knownL[k]'hk ≠ t) : known t = false := by
  have h0 := h 0 (by omega)
  have h1 := h 1 (by omega)
  have h2 := h 2 (by omega)
  have h3 := h 3 (by omega)
  have h4 := h 4 (by omega)
  have h5 := h 5 (by omega)
  have h6 := h 6 (by omega)
  have h7 := h 7 (by omega)
  have h8 := h 8 (by omega)
  simp only [knownL, List.getElem_cons_zero, List.getElem_cons_succ] at h0 h1 h2 h3 h4 h5 h6 h7 h8
  unfold known
  rw [decide_eq_false_iff_not]
  omega
theorem tname_none {t : Int} (h : ∀ k (hk : k < 10), nameL[k]'hk ≠ t) : tname t = [84, 89, 80, 69] ++ Lib.itoa t := by
  have h0 := h 0 (by omega)
  have h1 := h 1 (by omega)
  have h2 := h 2 (by omega)
  have h3 := h 3 (by omega)
  have h4 := h 4 (by omega)
  have h5 := h 5 (by omega)
  have h6 := h 6 (by omega)
  have h7 := h 7 (by omega)
  have h8 := h 8 (by omega)
  have h9 := h 9 (by omega)
  simp only [nameL, List.getElem_cons_zero, List.getElem_cons_succ] at h0 h1 h2 h3 h4 h5 h6 h7 h8 h9
  exact tname_other h0.symm h1.symm h2.symm h3.symm h4.symm h5.symm h6.symm h7.symm h8.symm h9.symm
end Rd

set_option maxRecDepth 100000 in
set_option maxHeartbeats 1000000 in
theorem type_any (t : Int) (w : World) (h0 : -9223372036854775808 ≤ t) (h1 : t ≤ 9223372036854775807) (hv : VarsOk w) :
    Calls Tryd.prog 17 #[.int .i64 t] w fun e w' => e = .returned (.string ⟨(Rd.tname t).toArray⟩) ∧ Below w.heap.size w w' := by
  have hcase : t = 1 ∨ t = 2 ∨ t = 5 ∨ t = 6 ∨ t = 12 ∨ t = 15 ∨ t = 16 ∨ t = 28 ∨ t = 33 ∨ t = 41 ∨ (t ≠ 1 ∧ t ≠ 2 ∧ t ≠ 5 ∧ t ≠ 6 ∧ t ≠ 12 ∧ t ≠ 15 ∧ t ≠ 16 ∧ t ≠ 28 ∧ t ≠ 33 ∧ t ≠ 41) := by omega
  rcases hcase with rfl | rfl | rfl | rfl | rfl | rfl | rfl | rfl | rfl | rfl | ⟨e1, e2, e5, e6, e12, e15, e16, e28, e33, e41⟩
  · go_enter Tryd.func17, Tryd.ntmps17
    go_wp2
    go_ret
    exact ⟨ret_str (by rfl), Below.refl _ _⟩
  · go_enter Tryd.func17, Tryd.ntmps17
    go_wp2
    go_ret
    exact ⟨ret_str (by rfl), Below.refl _ _⟩
  · go_enter Tryd.func17, Tryd.ntmps17
    go_wp2
    go_ret
    exact ⟨ret_str (by rfl), Below.refl _ _⟩
  · go_enter Tryd.func17, Tryd.ntmps17
    go_wp2
    go_ret
    exact ⟨ret_str (by rfl), Below.refl _ _⟩
  · go_enter Tryd.func17, Tryd.ntmps17
    go_wp2
    go_ret
    exact ⟨ret_str (by rfl), Below.refl _ _⟩
  · go_enter Tryd.func17, Tryd.ntmps17
    go_wp2
    go_ret
    exact ⟨ret_str (by rfl), Below.refl _ _⟩
  · go_enter Tryd.func17, Tryd.ntmps17
    go_wp2
    go_ret
    exact ⟨ret_str (by rfl), Below.refl _ _⟩
  · go_enter Tryd.func17, Tryd.ntmps17
    go_wp2
    go_ret
    exact ⟨ret_str (by rfl), Below.refl _ _⟩
  · go_enter Tryd.func17, Tryd.ntmps17
    go_wp2
    go_ret
    exact ⟨ret_str (by rfl), Below.refl _ _⟩
  · go_enter Tryd.func17, Tryd.ntmps17
    go_wp2
    go_ret
    exact ⟨ret_str (by rfl), Below.refl _ _⟩
  · have H := Lib.hid (Rd.tname_other e1 e2 e5 e6 e12 e15 e16 e28 e33 e41)
    replace e1 := beq_eq_false_iff_ne.2 e1
    replace e2 := beq_eq_false_iff_ne.2 e2
    replace e5 := beq_eq_false_iff_ne.2 e5
    replace e6 := beq_eq_false_iff_ne.2 e6
    replace e12 := beq_eq_false_iff_ne.2 e12
    replace e15 := beq_eq_false_iff_ne.2 e15
    replace e16 := beq_eq_false_iff_ne.2 e16
    replace e28 := beq_eq_false_iff_ne.2 e28
    replace e33 := beq_eq_false_iff_ne.2 e33
    replace e41 := beq_eq_false_iff_ne.2 e41
    have ha := app_bytes [84, 89, 80, 69] (Lib.itoa t)
    have hl : (Lib.itoa t).length ≤ 21 := Lib.itoa_length_le t h0 h1
    go_enter Tryd.func17, Tryd.ntmps17
    go_wp2_with (go_at_call 44; refine (itoa_any t _ h0 h1 hv).mono ?_; rintro e w1 ⟨rfl, b1⟩)
    go_ret
    exact ⟨ret_str H.out.symm, b1⟩

def intV (z : Int) : Value := .int .i64 z
theorem lit_cell (W : World) (vs : List Value) (t : TypeId) {k : Nat} {u : Value} (hk : vs[k]? = some u) : (W.alloc (.cells vs.toArray t)).cell? ⟨W.heap.size, k, none⟩ = some u := by
  have h := cells_new W vs t k u hk
  have e : (⟨W.heap.size, 0, none⟩ : Addr).add k = ⟨W.heap.size, k, none⟩ := by unfold Addr.add; split <;> simp_all
  rwa [e] at h
theorem knownL_cell (W : World) {k : Nat} (hk : k < 9) : (W.alloc (.cells #[.int .i64 1, .int .i64 2, .int .i64 5, .int .i64 6, .int .i64 12, .int .i64 15, .int .i64 16, .int .i64 28, .int .i64 33] 3)).cell? ⟨W.heap.size, k, none⟩ = some (.int .i64 (Rd.knownL[k]'hk)) := by
  exact lit_cell W (Rd.knownL.map intV) 3 (by rw [List.getElem?_map, List.getElem?_eq_getElem hk]; rfl)
theorem nameL_cell (W : World) {k : Nat} (hk : k < 10) : (W.alloc (.cells #[.int .i64 1, .int .i64 2, .int .i64 5, .int .i64 6, .int .i64 12, .int .i64 15, .int .i64 16, .int .i64 28, .int .i64 33, .int .i64 41] 3)).cell? ⟨W.heap.size, k, none⟩ = some (.int .i64 (Rd.nameL[k]'hk)) := by
  exact lit_cell W (Rd.nameL.map intV) 3 (by rw [List.getElem?_map, List.getElem?_eq_getElem hk]; rfl)
theorem nameT_cell (W : World) {k : Nat} (hk : k < 10) : (W.alloc (.cells #[.string ⟨#[65]⟩, .string ⟨#[78, 83]⟩, .string ⟨#[67, 78, 65, 77, 69]⟩, .string ⟨#[83, 79, 65]⟩, .string ⟨#[80, 84, 82]⟩, .string ⟨#[77, 88]⟩, .string ⟨#[84, 88, 84]⟩, .string ⟨#[65, 65, 65, 65]⟩, .string ⟨#[83, 82, 86]⟩, .string ⟨#[79, 80, 84]⟩] 9)).cell? ⟨W.heap.size, k, none⟩ = some (.string ⟨(Rd.nameT[k]'hk).toArray⟩) := by
  exact lit_cell W (Rd.nameT.map encS) 9 (by rw [List.getElem?_map, List.getElem?_eq_getElem hk]; rfl)

set_option maxRecDepth 100000 in
set_option maxHeartbeats 1000000 in
theorem rknown_any (t : Int) (w : World) : Calls Tryd.prog 16 #[.int .i64 t] w fun e w' => e = .returned (.bool (Rd.known t)) ∧ Below w.heap.size w w' := by
  have hcell := fun (k : Nat) (hk : k < 9) => knownL_cell w hk
  have HC := Lib.hid hcell
  clear hcell
  go_enter Tryd.func16, Tryd.ntmps16
  go_wp2
  go_loop [4] (fun i => ∃ k : Nat, k ≤ 9 ∧ i = .int .i64 (k : Int) ∧ Hid (∀ j (hj : j < 9), j < k → Rd.knownL[j]'hj ≠ t)) (fun i => 10 - (intOf i).toNat)
  case atStart => exact ⟨0, by omega, rfl, Lib.hid (fun j hj h => by omega)⟩
  case round =>
    obtain ⟨k, hk, rfl, hh⟩ := hrel
    by_cases hlt : k < 9
    · have c1 := HC.out k hlt
      have HK := Lib.hid (Rd.known_at hlt)
      obtain ⟨z, hz⟩ : ∃ z, Rd.knownL[k]'hlt = z := ⟨_, rfl⟩
      rw [hz] at c1
      by_cases e : z = t
      · have H := Lib.hid (show Rd.known t = true by rw [← e, ← hz]; exact HK.out)
        have hq : (z == t) = true := beq_iff_eq.2 e
        clear hz e
        go_wp2
        go_ret
        exact ⟨ret_bool H.out.symm, (Below.refl _ w).alloc (Nat.le_refl _) _⟩
      · have H : Hid (∀ j (hj : j < 9), j < k + 1 → Rd.knownL[j]'hj ≠ t) := Lib.hid (fun j hj hjk => by
          by_cases ej : j = k
          · subst ej; rw [hz]; exact e
          · exact hh.out j hj (by omega))
        have hq : (z == t) = false := beq_eq_false_iff_ne.2 e
        clear hz e
        go_wp2
        go_round
        case rel => exact ⟨k + 1, by omega, by go_num, H⟩
        case measure => simp [intOf]; omega
    · have H := Lib.hid (Rd.known_none (t := t) (fun j hj => hh.out j hj (by omega)))
      go_wp2
      go_ret
      exact ⟨ret_bool H.out.symm, (Below.refl _ w).alloc (Nat.le_refl _) _⟩

theorem type_cells (w : World) : (∀ k (hk : k < 10), ((w.alloc (.cells #[.int .i64 1, .int .i64 2, .int .i64 5, .int .i64 6, .int .i64 12, .int .i64 15, .int .i64 16, .int .i64 28, .int .i64 33, .int .i64 41] 3)).alloc (.cells #[.string ⟨#[65]⟩, .string ⟨#[78, 83]⟩, .string ⟨#[67, 78, 65, 77, 69]⟩, .string ⟨#[83, 79, 65]⟩, .string ⟨#[80, 84, 82]⟩, .string ⟨#[77, 88]⟩, .string ⟨#[84, 88, 84]⟩, .string ⟨#[65, 65, 65, 65]⟩, .string ⟨#[83, 82, 86]⟩, .string ⟨#[79, 80, 84]⟩] 9)).cell? ⟨w.heap.size, k, none⟩ = some (.int .i64 (Rd.nameL[k]'hk)) ∧ ((w.alloc (.cells #[.int .i64 1, .int .i64 2, .int .i64 5, .int .i64 6, .int .i64 12, .int .i64 15, .int .i64 16, .int .i64 28, .int .i64 33, .int .i64 41] 3)).alloc (.cells #[.string ⟨#[65]⟩, .string ⟨#[78, 83]⟩, .string ⟨#[67, 78, 65, 77, 69]⟩, .string ⟨#[83, 79, 65]⟩, .string ⟨#[80, 84, 82]⟩, .string ⟨#[77, 88]⟩, .string ⟨#[84, 88, 84]⟩, .string ⟨#[65, 65, 65, 65]⟩, .string ⟨#[83, 82, 86]⟩, .string ⟨#[79, 80, 84]⟩] 9)).cell? ⟨w.heap.size + 1, k, none⟩ = some (.string ⟨(Rd.nameT[k]'hk).toArray⟩)) ∧
    Below w.heap.size w ((w.alloc (.cells #[.int .i64 1, .int .i64 2, .int .i64 5, .int .i64 6, .int .i64 12, .int .i64 15, .int .i64 16, .int .i64 28, .int .i64 33, .int .i64 41] 3)).alloc (.cells #[.string ⟨#[65]⟩, .string ⟨#[78, 83]⟩, .string ⟨#[67, 78, 65, 77, 69]⟩, .string ⟨#[83, 79, 65]⟩, .string ⟨#[80, 84, 82]⟩, .string ⟨#[77, 88]⟩, .string ⟨#[84, 88, 84]⟩, .string ⟨#[65, 65, 65, 65]⟩, .string ⟨#[83, 82, 86]⟩, .string ⟨#[79, 80, 84]⟩] 9)) := by
  refine ⟨fun k hk => ⟨?_, ?_⟩, ((Below.refl _ w).alloc (Nat.le_refl _) _).alloc (by simp) _⟩
  · exact (((Below.refl (w.heap.size + 1) (w.alloc (.cells #[.int .i64 1, .int .i64 2, .int .i64 5, .int .i64 6, .int .i64 12, .int .i64 15, .int .i64 16, .int .i64 28, .int .i64 33, .int .i64 41] 3))).alloc (by simp) _).cell (p := ⟨w.heap.size, k, none⟩) (by simp)).trans (nameL_cell w hk)
  · have h := nameT_cell (w.alloc (.cells #[.int .i64 1, .int .i64 2, .int .i64 5, .int .i64 6, .int .i64 12, .int .i64 15, .int .i64 16, .int .i64 28, .int .i64 33, .int .i64 41] 3)) hk
    rw [World.size_alloc] at h
    exact h

set_option maxRecDepth 100000 in
set_option maxHeartbeats 1000000 in
theorem rtype_any (t : Int) (w : World) (h0 : -9223372036854775808 ≤ t) (h1 : t ≤ 9223372036854775807) :
    Calls Tryd.prog 18 #[.int .i64 t] w fun e w' => e = .returned (.string ⟨(Rd.tname t).toArray⟩) ∧ Below w.heap.size w w' := by
  go_enter Tryd.func18, Tryd.ntmps18
  go_wp2
  obtain ⟨hcell, hb⟩ := type_cells w
  have HC := Lib.hid hcell
  clear hcell
  generalize ((w.alloc (.cells #[.int .i64 1, .int .i64 2, .int .i64 5, .int .i64 6, .int .i64 12, .int .i64 15, .int .i64 16, .int .i64 28, .int .i64 33, .int .i64 41] 3)).alloc (.cells #[.string ⟨#[65]⟩, .string ⟨#[78, 83]⟩, .string ⟨#[67, 78, 65, 77, 69]⟩, .string ⟨#[83, 79, 65]⟩, .string ⟨#[80, 84, 82]⟩, .string ⟨#[77, 88]⟩, .string ⟨#[84, 88, 84]⟩, .string ⟨#[65, 65, 65, 65]⟩, .string ⟨#[83, 82, 86]⟩, .string ⟨#[79, 80, 84]⟩] 9)) = W at *
  go_loop [5] (fun i => ∃ k : Nat, k ≤ 10 ∧ i = .int .i64 (k : Int) ∧ Hid (∀ j (hj : j < 10), j < k → Rd.nameL[j]'hj ≠ t)) (fun i => 11 - (intOf i).toNat)
  case atStart => exact ⟨0, by omega, rfl, Lib.hid (fun j hj h => by omega)⟩
  case round =>
    obtain ⟨k, hk, rfl, hh⟩ := hrel
    by_cases hlt : k < 10
    · obtain ⟨c1, c2⟩ := HC.out k hlt
      have HK := Lib.hid (Rd.tname_at hlt)
      obtain ⟨z, hz⟩ : ∃ z, Rd.nameL[k]'hlt = z := ⟨_, rfl⟩
      obtain ⟨s, hs⟩ : ∃ s, Rd.nameT[k]'hlt = s := ⟨_, rfl⟩
      rw [hz] at c1
      rw [hs] at c2
      by_cases e : z = t
      · have H := Lib.hid (show Rd.tname t = s by rw [← e, ← hz, ← hs]; exact HK.out)
        have hq : (z == t) = true := beq_iff_eq.2 e
        clear hz e hs
        go_wp2
        go_ret
        exact ⟨ret_str H.out.symm, hb⟩
      · have H : Hid (∀ j (hj : j < 10), j < k + 1 → Rd.nameL[j]'hj ≠ t) := Lib.hid (fun j hj hjk => by
          by_cases ej : j = k
          · subst ej; rw [hz]; exact e
          · exact hh.out j hj (by omega))
        have hq : (z == t) = false := beq_eq_false_iff_ne.2 e
        clear hz e hs
        go_wp2
        go_round
        case rel => exact ⟨k + 1, by omega, by go_num, H⟩
        case measure => simp [intOf]; omega
    · have H := Lib.hid (Rd.tname_none (t := t) (fun j hj => hh.out j hj (by omega)))
      have ha := app_bytes [84, 89, 80, 69] (Lib.itoa t)
      have hl : (Lib.itoa t).length ≤ 21 := Lib.itoa_length_le t h0 h1
      go_wp2_with (go_at_call 45; refine (decimal_any t _ h0 h1).mono ?_; rintro e w1 ⟨rfl, b1⟩)
      go_ret
      exact ⟨ret_str H.out.symm, below_trans hb b1⟩
end Go.Proofs.YtnnoooecbbkggaaDoor
