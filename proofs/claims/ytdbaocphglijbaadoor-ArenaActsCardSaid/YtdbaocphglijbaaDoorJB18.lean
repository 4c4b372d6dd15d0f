/- 5 texts put together: Frame7, Frame8, Round, WalkMath, OrderMath. -/
import Derived.Deep.Grids
import Derived.Test.YtdbaocphglijbaaDoorJB16
import Derived.Test.YtdbaocphglijbaaDoorJB17
/- The frame of the laws of chapters 6 and 7: arguments that are lists. -/
set_option maxRecDepth 100000
namespace Go.Proofs.YtdbaocphglijbaaDoor
open Go.ChangeShapes Go.WideShapes Go.ChangeAt Go.RowKit
open Go.ChangeMaps (open_string shut_string)
theorem getD_at {α : Type} {l : List α} {d : α} {i : Nat} (h : i < l.length) : l.getD i d = l[i] := by simp [List.getD, h]
theorem zero_maxLen : 0 ≤ maxLen := Nat.zero_le _
theorem maxLen_eq : maxLen = 9223372036854775807 := rfl
structure ReadO (v : Value) (l : List Bool) (W : World) : Prop where
  form : ∃ ao cap, v = .slice ao l.length cap ∧ ∀ (j : Nat) (h : j < l.length), ∃ b off, ao = some ⟨b, off, none⟩ ∧ W.cell? ⟨b, off + j, none⟩ = some (.bool l[j])
section
variable {H : Type} {enc : TypeId × Value → H} {W : World}
theorem arg_string {r : Reach} {b0 : Nat} {v : Value} {d : DataW H} {ps : List MemPlace} (hval : Value.okWide Tryd.prog W r b0 9 v) (hd : DataW.Trod enc Tryd.prog W 0 (fun _ => true) true 9 v d ps) :
    ∃ l : List UInt8, v = .string ⟨l.toArray⟩ ∧ l.length ≤ maxLen := by
  obtain ⟨s, rfl, _, _, hs⟩ := open_string Tryd.underlying9 hval hd
  obtain ⟨⟨l⟩⟩ := s
  exact ⟨l, rfl, (show (⟨⟨l⟩⟩ : ByteArray).size = l.length from rfl) ▸ hs⟩
theorem arg_ints {b0 : Nat} {v : Value} {d : DataW H} {ps : List MemPlace} (hval : Value.okWide Tryd.prog W .any b0 54 v) (hd : DataW.Trod enc Tryd.prog W 0 (fun _ => true) true 54 v d ps) :
    ∃ zs : List Int, ReadI v zs W ∧ (∀ z ∈ zs, -9223372036854775808 ≤ z ∧ z ≤ 9223372036854775807) ∧ zs.length ≤ maxLen := by
  obtain ⟨a0, len, cap, rfl⟩ := okWide_slice Tryd.underlying54 hval
  obtain ⟨fuel, hf⟩ := hd
  rcases open_ints Tryd.underlying54 Tryd.underlying3 (by kernel_rfl) hf with ⟨hcs, _⟩ | ⟨a, len', cap', zs, hcs, _, hle, hmax, hall, _, hc, hw⟩
  · simp [Value.cells] at hcs
    obtain ⟨rfl, rfl, rfl⟩ := hcs
    exact ⟨[], ⟨none, 0, rfl, fun j hj => by simp at hj⟩, by simp, zero_maxLen⟩
  · simp [Value.cells] at hcs
    obtain ⟨rfl, rfl, rfl⟩ := hcs
    simp only [if_true] at hall
    refine ⟨zs.take len, ⟨some a, cap, by rw [List.length_take]; congr 1; omega, fun j hj => ?_⟩, fun z hz => bounds_i64 (hw z (List.mem_of_mem_take hz)), by rw [List.length_take]; omega⟩
    rw [List.length_take] at hj
    obtain ⟨b, off, rfl, hcc⟩ := ints_at hc (by omega)
    refine ⟨b, off, rfl, ?_⟩
    rw [hcc j (by omega), List.getElem_take, getD_at (by omega)]
theorem arg_bools {b0 : Nat} {v : Value} {d : DataW H} {ps : List MemPlace} (hval : Value.okWide Tryd.prog W .any b0 55 v) (hd : DataW.Trod enc Tryd.prog W 0 (fun _ => true) true 55 v d ps) :
    ∃ bs : List Bool, ReadO v bs W ∧ bs.length ≤ maxLen := by
  obtain ⟨a0, len, cap, rfl⟩ := okWide_slice Tryd.underlying55 hval
  obtain ⟨fuel, hf⟩ := hd
  rcases Go.Deep.open_bools Tryd.underlying55 Tryd.underlying4 (by kernel_rfl) hf with ⟨hcs, _⟩ | ⟨a, len', cap', F, hcs, _, hle, hmax, _, hc⟩
  · simp [Value.cells] at hcs
    obtain ⟨rfl, rfl, rfl⟩ := hcs
    exact ⟨[], ⟨none, 0, rfl, fun j hj => by simp at hj⟩, zero_maxLen⟩
  · simp [Value.cells] at hcs
    obtain ⟨rfl, rfl, rfl⟩ := hcs
    refine ⟨(List.range len).map F, ⟨some a, cap, by simp, fun j hj => ?_⟩, by simp; omega⟩
    rw [List.length_map, List.length_range] at hj
    have h0 := hc 0 (by omega)
    obtain ⟨b, off, spot⟩ := a
    have hspot : spot = none := by simpa [Addr.add] using World.cell?_spot h0
    subst hspot
    refine ⟨b, off, rfl, ?_⟩
    have h1 := hc j (by omega)
    rw [add_plain] at h1
    rw [h1, List.getElem_map, List.getElem_range]
end
theorem readT7 : ∀ t ∈ [3, 54, 9, 55, 82], Tryd.prog.readableRec t = true ∧ t < Tryd.prog.types.size := by
  intro t ht
  simp only [List.mem_cons, List.not_mem_nil, or_false] at ht
  rcases ht with rfl | rfl | rfl | rfl | rfl
  all_goals exact ⟨by kernel_rfl, of_decide_eq_true (by kernel_rfl)⟩
theorem standT7 : ∀ t ∈ [3, 54, 9, 55, 82], Tryd.prog.wantsStandIn t = false := by
  intro t ht
  simp only [List.mem_cons, List.not_mem_nil, or_false] at ht
  rcases ht with rfl | rfl | rfl | rfl | rfl
  all_goals kernel_rfl
end Go.Proofs.YtdbaocphglijbaaDoor

/- The frame of the laws of chapter 7: an argument that is a list of texts. -/
set_option maxRecDepth 100000
namespace Go.Proofs.YtdbaocphglijbaaDoor
open Go.ChangeShapes Go.WideShapes Go.ChangeAt Go.RowKit
open Go.ChangeMaps (open_string shut_string)
section
variable {H : Type} {enc : TypeId × Value → H} {W : World}
theorem arg_strings {b0 : Nat} {v : Value} {d : DataW H} {ps : List MemPlace} (hval : Value.okWide Tryd.prog W .any b0 82 v) (hd : DataW.Trod enc Tryd.prog W 0 (fun _ => true) true 82 v d ps) :
    ∃ ls : List (List UInt8), ReadS v ls W ∧ (∀ l ∈ ls, l.length ≤ maxLen) ∧ ls.length ≤ maxLen := by
  obtain ⟨a0, len, cap, rfl⟩ := okWide_slice Tryd.underlying82 hval
  obtain ⟨fuel, hf⟩ := hd
  rcases Go.ChangeShapes.open_strings Tryd.underlying82 Tryd.underlying9 (by kernel_rfl) hf with ⟨hcs, _⟩ | ⟨a, len', cap', zs, hcs, _, hle, hmax, hall, _, hc, hw⟩
  · simp [Value.cells] at hcs
    obtain ⟨rfl, rfl, rfl⟩ := hcs
    exact ⟨[], ⟨none, 0, rfl, fun j hj => by simp at hj⟩, by simp, zero_maxLen⟩
  · simp [Value.cells] at hcs
    obtain ⟨rfl, rfl, rfl⟩ := hcs
    simp only [if_true] at hall
    refine ⟨(zs.take len).map (fun s => s.data.toList), ⟨some a, cap, by rw [List.length_map, List.length_take]; congr 1; omega, fun j hj => ?_⟩, fun l hl => ?_, by rw [List.length_map, List.length_take]; omega⟩
    · rw [List.length_map, List.length_take] at hj
      have h0 := hc 0 (by omega)
      obtain ⟨b, off, spot⟩ := a
      have hspot : spot = none := by simpa [Addr.add] using World.cell?_spot h0
      subst hspot
      refine ⟨b, off, rfl, ?_⟩
      have h1 := hc j (by omega)
      rw [add_plain] at h1
      rw [h1, List.getElem_map, List.getElem_take, getD_at (by omega)]
      rfl
    · obtain ⟨s, hs, rfl⟩ := List.mem_map.1 hl
      have := hw s (List.mem_of_mem_take hs)
      rw [Array.length_toList]
      exact this
end
end Go.Proofs.YtdbaocphglijbaaDoor

/- Round. -/
namespace Go.Proofs.YtdbaocphglijbaaDoor
open Go.RowKit Go.Shelf

def roundI (k n : Int) : Int := (k.tmod n + n).tmod n
theorem roundI_bounds (k n : Int) (h : 0 < n) : 0 ≤ roundI k n ∧ roundI k n < n := by
  unfold roundI
  have h1 : -n < k.tmod n := Int.lt_tmod_of_pos k h
  have h2 : 0 ≤ k.tmod n + n := by omega
  exact ⟨Int.tmod_nonneg _ h2, Int.tmod_lt_of_pos _ h⟩

set_option maxHeartbeats 400000 in
theorem round_any (k n : Int) (w : World) (h1 : 1 ≤ n) (h2 : n ≤ 1000000) (_hk1 : -9223372036854775808 ≤ k) (_hk2 : k ≤ 9223372036854775807) :
    Calls Tryd.prog 28 #[.int .i64 k, .int .i64 n] w fun e w' => e = .returned (.int .i64 (roundI k n)) ∧ w = w' := by
  have hn0 : (n == 0) = false := by rw [beq_eq_false_iff_ne]; omega
  go_enter Tryd.func28, Tryd.ntmps28
  go_wp2
  go_ret
  have hlo := Int.lt_tmod_of_pos k (show 0 < n by omega)
  have hhi := Int.tmod_lt_of_pos k (show 0 < n by omega)
  refine ⟨ret_int ?_, rfl⟩
  unfold roundI
  generalize k.tmod n = m at *
  rw [show wrap64 (m + n) = m + n by unfold wrap64; omega]
end Go.Proofs.YtdbaocphglijbaaDoor

/- Where the labels of a name stand. -/
namespace Go.Proofs.YtdbaocphglijbaaDoor.Nm

/-- How many bytes labels take. -/
def encL : List (List UInt8) → Nat
  | [] => 0
  | l :: ls => 1 + l.length + encL ls
/-- Where labels stand, the first one at k. -/
def posOf : Nat → List (List UInt8) → List Nat
  | _, [] => []
  | k, l :: ls => k :: posOf (k + (1 + l.length)) ls
theorem encL_append (a b : List (List UInt8)) : encL (a ++ b) = encL a + encL b := by
  induction a with
  | nil => simp [encL]
  | cons l a ih => simp only [List.cons_append, encL, ih]; omega
theorem posOf_append (k : Nat) (a b : List (List UInt8)) : posOf k (a ++ b) = posOf k a ++ posOf (k + encL a) b := by
  induction a generalizing k with
  | nil => simp [posOf, encL]
  | cons l a ih => simp only [List.cons_append, posOf, ih, encL, Nat.add_assoc]
theorem posOf_length (k : Nat) (a : List (List UInt8)) : (posOf k a).length = a.length := by
  induction a generalizing k with
  | nil => rfl
  | cons l a ih => simp [posOf, ih]
theorem made_length (ls : List (List UInt8)) : (made ls).length = encL ls + 1 := by
  induction ls with
  | nil => rfl
  | cons l ls ih => simp [made, encL, ih]; omega
theorem made_drop (a b : List (List UInt8)) : (made (a ++ b)).drop (encL a) = made b := by
  induction a with
  | nil => rfl
  | cons l a ih =>
    rw [List.cons_append, made, encL, show 1 + l.length + encL a = (l.length + encL a) + 1 by omega, List.drop_succ_cons, List.drop_append, List.drop_of_length_le (by omega), List.nil_append]
    rw [show l.length + encL a - l.length = encL a by omega, ih]
theorem length_le_encL {ls : List (List UInt8)} : ls.length ≤ encL ls := by
  induction ls with
  | nil => simp
  | cons l ls ih => simp [encL]; omega

/-- A place at which a label stands within n. -/
def OkPos (n : List UInt8) (x : Nat) : Prop := ∃ h : x < n.length, x + 1 + n[x].toNat ≤ n.length
abbrev Pos (n : List UInt8) := { x : Nat // OkPos n x }
def labAt (n : List UInt8) (x : Nat) : List UInt8 := (n.drop (x + 1)).take (n[x]?.getD 0).toNat
def labsD (n : List UInt8) : List (List UInt8) := (labs n).getD []
def placesN (n : List UInt8) : List Nat := posOf 0 (labsD n)

theorem at_rest {n : List UInt8} {a b : List (List UInt8)} (h : n = made (a ++ b)) : n.drop (encL a) = made b := by rw [h, made_drop]
theorem at_end {n : List UInt8} {a : List (List UInt8)} (h : n = made a) : ∃ hk : encL a < n.length, n[encL a] = 0 := by
  have hl : n.length = encL a + 1 := by rw [h, made_length]
  refine ⟨by omega, ?_⟩
  have := at_rest (b := []) (n := n) (a := a) (by simpa using h)
  rw [drop_cons (by omega : encL a < n.length), made] at this
  exact (List.cons.inj this).1
theorem at_label {n : List UInt8} {a b : List (List UInt8)} {l : List UInt8} (h : n = made (a ++ l :: b)) (g : good (a ++ l :: b)) :
    ∃ hk : encL a < n.length, n[encL a] ≠ 0 ∧ n[encL a].toNat = l.length ∧ 1 ≤ l.length ∧ l.length ≤ 63 ∧ encL a + 1 + l.length < n.length ∧ labAt n (encL a) = l := by
  obtain ⟨h1, h2⟩ := g l (by simp)
  have hl : n.length = encL a + (1 + l.length + encL b) + 1 := by rw [h, made_length, encL_append, encL]
  have hk : encL a < n.length := by omega
  have hd := at_rest h
  have hd' := hd
  rw [drop_cons hk, made] at hd
  obtain ⟨e1, e2⟩ := List.cons.inj hd
  refine ⟨hk, ?_, ?_, h1, h2, by omega, ?_⟩
  · rw [e1]; exact ofNat_ne h1 h2
  · rw [e1]; exact ofNat_toNat h2
  · unfold labAt
    rw [List.getElem?_eq_getElem hk, Option.getD_some, e1, ofNat_toNat h2, e2, List.take_left']
    rfl
theorem labAt_of {n : List UInt8} {x : Nat} (h : x < n.length) : labAt n x = (n.drop (x + 1)).take n[x].toNat := by
  unfold labAt
  rw [List.getElem?_eq_getElem h, Option.getD_some]
theorem labAt_places {n : List UInt8} {a b : List (List UInt8)} (h : n = made (a ++ b)) (g : good (a ++ b)) : (posOf (encL a) b).map (labAt n) = b := by
  induction b generalizing a with
  | nil => rfl
  | cons l b ih =>
    obtain ⟨_, _, _, _, _, _, e⟩ := at_label h g
    have h' : n = made ((a ++ [l]) ++ b) := by simpa using h
    have g' : good ((a ++ [l]) ++ b) := by simpa using g
    have := ih h' g'
    rw [encL_append] at this
    simp only [encL, Nat.add_zero] at this
    simp only [posOf, List.map_cons, e, this]
theorem labAt_placesN (n : List UInt8) : (placesN n).map (labAt n) = labsD n := by
  unfold placesN labsD
  cases h : labs n with
  | none => rfl
  | some ls =>
    obtain ⟨e, g, _⟩ := labs_iff.1 h
    exact labAt_places (a := []) e g

def parent (n : List UInt8) : List UInt8 := match labsD n with | _ :: ls => made ls | [] => [0]
theorem parent_nil {n : List UInt8} (h : labsD n = []) : parent n = [0] := by unfold parent; rw [h]
theorem labsD_made {n : List UInt8} (h : labsD n ≠ []) : n = made (labsD n) ∧ good (labsD n) ∧ n.length ≤ 255 ∧ labs n = some (labsD n) := by
  unfold labsD at *
  cases e : labs n with
  | none => rw [e] at h; exact absurd rfl h
  | some ls =>
    obtain ⟨a, b, c⟩ := labs_iff.1 e
    exact ⟨a, b, c, rfl⟩
theorem parent_cons {n l : List UInt8} {ls : List (List UInt8)} (h : labsD n = l :: ls) : ∃ hk : 0 < n.length, n[0].toNat = l.length ∧ 1 + l.length ≤ n.length ∧ parent n = n.drop (1 + l.length) := by
  obtain ⟨e, g, hl, _⟩ := labsD_made (n := n) (by rw [h]; simp)
  rw [h] at e g
  obtain ⟨hk, _, h2, _, _, h5, _⟩ := at_label (n := n) (a := []) (b := ls) (l := l) e g
  have h6 := at_rest (n := n) (a := [l]) (b := ls) e
  simp only [encL] at *
  refine ⟨hk, h2, by omega, ?_⟩
  unfold parent
  rw [h]
  simpa using h6.symm


def under (n z : List UInt8) : Bool :=
  match labs n, labs z with
  | some a, some b => decide (b.map folded <:+ a.map folded)
  | _, _ => false
/-- As Under goes: label by label. -/
def underC (n z : List UInt8) : Bool := (placesN n).any (fun k => same (n.drop k) z) || (valid n && z == [0])
theorem underC_yes {n z : List UInt8} {k : Nat} (h : k ∈ placesN n) (hs : same (n.drop k) z = true) : underC n z = true := by
  unfold underC
  rw [List.any_eq_true.2 ⟨k, h, hs⟩, Bool.true_or]
theorem underC_no {n z : List UInt8} (h : ∀ k ∈ placesN n, same (n.drop k) z = false) : underC n z = (valid n && z == [0]) := by
  unfold underC
  rw [List.any_eq_false.2 (fun k hk => by rw [h k hk]; simp), Bool.false_or]

theorem small_len {c : UInt8} (h : c.toNat ≤ 63) : small c = c := small_no (by omega)
theorem folded_made {ls : List (List UInt8)} (g : good ls) : folded (made ls) = made (ls.map folded) := by
  induction ls with
  | nil => rfl
  | cons l ls ih =>
    obtain ⟨h1, h2⟩ := g l (by simp)
    have := ih (fun x hx => g x (List.mem_cons_of_mem _ hx))
    simp only [made, List.map_cons, folded_length]
    rw [← this]
    simp only [folded, List.map_cons, List.map_append]
    rw [small_len (by rw [ofNat_toNat h2]; exact h2)]
theorem good_folded {ls : List (List UInt8)} (g : good ls) : good (ls.map folded) := by
  intro l hl
  obtain ⟨x, hx, rfl⟩ := List.mem_map.1 hl
  rw [folded_length]
  exact g x hx
theorem made_inj {a b : List (List UInt8)} (ga : good a) (gb : good b) (h : made a = made b) : a = b := by
  have h1 := labsU_made ga
  rw [h, labsU_made gb] at h1
  exact (Option.some.inj h1).symm
theorem good_suffix {a b : List (List UInt8)} (g : good (a ++ b)) : good b := fun x hx => g x (List.mem_append_right _ hx)
theorem same_made {b zl : List (List UInt8)} {z : List UInt8} (g : good b) (hb : (made b).length ≤ 255) (hz : labs z = some zl) : same (made b) z = decide (b.map folded = zl.map folded) := by
  obtain ⟨ez, gz, _⟩ := labs_iff.1 hz
  have hv : valid (made b) = true := by unfold valid; rw [labs_iff.2 ⟨rfl, g, hb⟩]; rfl
  have hvz : valid z = true := by unfold valid; rw [hz]; rfl
  rw [Bool.eq_iff_iff]
  simp only [same, hv, hvz, Bool.true_and, beq_iff_eq, decide_eq_true_eq]
  rw [ez, folded_made g, folded_made gz]
  exact ⟨fun h => made_inj (good_folded g) (good_folded gz) h, fun h => by rw [h]⟩
theorem same_invalid {a z : List UInt8} (hz : labs z = none) : same a z = false := by
  unfold same valid
  rw [hz]; simp
theorem any_places {n z : List UInt8} {a b zl : List (List UInt8)} (h : n = made (a ++ b)) (g : good (a ++ b)) (hl : n.length ≤ 255) (hz : labs z = some zl) :
    ((posOf (encL a) b).any (fun k => same (n.drop k) z) || decide (zl = [])) = decide (zl.map folded <:+ b.map folded) := by
  induction b generalizing a with
  | nil =>
    simp [posOf]
  | cons l b ih =>
    have h' : n = made ((a ++ [l]) ++ b) := by simpa using h
    have g' : good ((a ++ [l]) ++ b) := by simpa using g
    have i := ih h' g'
    rw [encL_append] at i
    simp only [encL, Nat.add_zero] at i
    have hd := at_rest h
    have hs : same (n.drop (encL a)) z = decide ((l :: b).map folded = zl.map folded) := by
      rw [hd]
      refine same_made (good_suffix g) ?_ hz
      have : (n.drop (encL a)).length ≤ 255 := by rw [List.length_drop]; omega
      rw [hd] at this
      exact this
    simp only [posOf, List.any_cons, hs, Bool.or_assoc, i]
    rw [Bool.eq_iff_iff]
    simp only [Bool.or_eq_true, decide_eq_true_eq, List.map_cons]
    rw [List.suffix_cons_iff]
    exact ⟨fun h => h.elim (fun e => Or.inl e.symm) Or.inr, fun h => h.elim (fun e => Or.inl e.symm) Or.inr⟩
theorem underC_eq (n z : List UInt8) : underC n z = under n z := by
  unfold under
  cases hn : labs n with
  | none =>
    unfold underC placesN labsD valid
    rw [hn]; simp [posOf]
  | some a =>
    cases hz : labs z with
    | none =>
      have e0 : z ≠ [0] := fun e => by rw [e] at hz; cases hz
      unfold underC
      rw [List.any_eq_false.2 (fun k hk => by rw [same_invalid hz]; simp)]
      simp [e0]
    | some zl =>
      obtain ⟨e, g, hl⟩ := labs_iff.1 hn
      obtain ⟨ez, gz, _⟩ := labs_iff.1 hz
      have := any_places (a := []) (b := a) e g hl hz
      simp only [encL] at this
      show _ = decide (zl.map folded <:+ a.map folded)
      rw [← this]
      unfold underC placesN labsD valid
      rw [hn]
      simp only [Option.getD_some, Option.isSome_some, Bool.true_and]
      congr 1
      rw [Bool.eq_iff_iff]
      simp only [beq_iff_eq, decide_eq_true_eq]
      constructor
      · intro h
        rw [h] at hz
        cases hz
        rfl
      · intro h
        rw [ez, h]
        rfl

/-- As Common goes: the first part of a that b is under. -/
def commonC (a b : List UInt8) : List UInt8 := match (placesN a).find? (fun k => under b (a.drop k)) with | some k => a.drop k | none => [0]
theorem commonC_none {a b : List UInt8} (h : ∀ k ∈ placesN a, under b (a.drop k) = false) : commonC a b = [0] := by
  unfold commonC
  rw [List.find?_eq_none.2 (fun k hk => by rw [h k hk]; simp)]
theorem commonC_some {a b : List UInt8} {pre : List Nat} {k : Nat} (hp : pre ++ [k] <+: placesN a) (h : ∀ j ∈ pre, under b (a.drop j) = false) (hk : under b (a.drop k) = true) : commonC a b = a.drop k := by
  obtain ⟨r, e⟩ := hp
  unfold commonC
  rw [← e, List.append_assoc, List.find?_append, List.find?_eq_none.2 (fun j hj => by rw [h j hj]; simp)]
  simp [hk]

/-- Labels without an end. -/
def encs : List (List UInt8) → List UInt8
  | [] => []
  | l :: ls => UInt8.ofNat l.length :: (l ++ encs ls)
theorem made_encs (ls : List (List UInt8)) : made ls = encs ls ++ [0] := by
  induction ls with
  | nil => rfl
  | cons l ls ih => simp [made, encs, ih]
theorem encs_append (a b : List (List UInt8)) : encs (a ++ b) = encs a ++ encs b := by
  induction a with
  | nil => rfl
  | cons l a ih => simp [encs, ih]
theorem encs_length (a : List (List UInt8)) : (encs a).length = encL a := by
  have := made_length a
  rw [made_encs, List.length_append, List.length_singleton] at this
  omega
/-- A label may be one, and goes in. -/
def fits (k : Nat) (l : List UInt8) : Bool := decide (1 ≤ l.length) && decide (l.length ≤ 63) && decide (k + l.length + 2 ≤ 255)
def fitsAll : Nat → List (List UInt8) → Bool
  | _, [] => true
  | k, l :: ls => fits k l && fitsAll (k + (1 + l.length)) ls
def join (ls : List (List UInt8)) : Option (List UInt8) := if fitsAll 0 ls then some (made ls) else none
theorem fitsAll_append (k : Nat) (a b : List (List UInt8)) : fitsAll k (a ++ b) = (fitsAll k a && fitsAll (k + encL a) b) := by
  induction a generalizing k with
  | nil => simp [fitsAll, encL]
  | cons l a ih => simp only [List.cons_append, fitsAll, ih, encL, Bool.and_assoc, Nat.add_assoc]
theorem fitsAll_iff (k : Nat) (ls : List (List UInt8)) (hk : k ≤ 254) : fitsAll k ls = true ↔ good ls ∧ k + encL ls ≤ 254 := by
  induction ls generalizing k with
  | nil => simp [fitsAll, good, encL, hk]
  | cons l ls ih =>
    simp only [fitsAll, Bool.and_eq_true, fits, decide_eq_true_eq, encL]
    constructor
    · rintro ⟨⟨⟨h1, h2⟩, h3⟩, h4⟩
      obtain ⟨g, h5⟩ := (ih (k + (1 + l.length)) (by omega)).1 h4
      refine ⟨?_, by omega⟩
      intro x hx
      rcases List.mem_cons.1 hx with rfl | hx
      · exact ⟨h1, h2⟩
      · exact g x hx
    · rintro ⟨g, h5⟩
      obtain ⟨h1, h2⟩ := g l (by simp)
      exact ⟨⟨⟨h1, h2⟩, by omega⟩, (ih (k + (1 + l.length)) (by omega)).2 ⟨fun x hx => g x (List.mem_cons_of_mem _ hx), by omega⟩⟩
theorem join_some {ls : List (List UInt8)} {n : List UInt8} : join ls = some n ↔ n = made ls ∧ good ls ∧ n.length ≤ 255 := by
  unfold join
  have h := fitsAll_iff 0 ls (by omega)
  split
  · rename_i hf
    obtain ⟨g, hl⟩ := h.1 hf
    constructor
    · intro e
      obtain rfl := Option.some.inj e
      exact ⟨rfl, g, by rw [made_length]; omega⟩
    · rintro ⟨rfl, _, _⟩; rfl
  · rename_i hf
    constructor
    · intro e; cases e
    · rintro ⟨rfl, g, hl⟩
      rw [made_length] at hl
      exact absurd (h.2 ⟨g, by omega⟩) hf
theorem join_labs {ls : List (List UInt8)} {n : List UInt8} : join ls = some n ↔ labs n = some ls := by
  rw [join_some, labs_iff]

theorem join_none_at {ls : List (List UInt8)} {k : Nat} (hk : k < ls.length) (h : fits (encL (ls.take k)) ls[k] = false) : join ls = none := by
  have e : ls = ls.take k ++ ls[k] :: ls.drop (k + 1) := by rw [← List.drop_eq_getElem_cons hk, List.take_append_drop]
  unfold join
  rw [if_neg]
  rw [e, fitsAll_append]
  simp only [fitsAll, Nat.zero_add, h, Bool.false_and, Bool.and_false]
  decide
theorem fitsAll_take {ls : List (List UInt8)} {k : Nat} (hk : k < ls.length) (h : fitsAll 0 (ls.take k) = true) (hf : fits (encL (ls.take k)) ls[k] = true) : fitsAll 0 (ls.take (k + 1)) = true := by
  rw [List.take_succ_eq_append_getElem hk, fitsAll_append, h]
  simp [fitsAll, hf]
theorem encs_take {ls : List (List UInt8)} {k : Nat} (hk : k < ls.length) : encs (ls.take (k + 1)) = (encs (ls.take k) ++ [UInt8.ofNat ls[k].length]) ++ ls[k] := by
  rw [List.take_succ_eq_append_getElem hk, encs_append]
  simp [encs]
theorem fits_no1 {k : Nat} {l : List UInt8} (h : l = []) : fits k l = false := by simp [fits, h]
theorem fits_no2 {k : Nat} {l : List UInt8} (h : 63 < l.length) : fits k l = false := by
  have : ¬ l.length ≤ 63 := by omega
  simp [fits, this]
theorem fits_no3 {k : Nat} {l : List UInt8} (h : 255 < k + l.length + 2) : fits k l = false := by
  have : ¬ k + l.length + 2 ≤ 255 := by omega
  simp [fits, this]
theorem fits_yes {k : Nat} {l : List UInt8} (h1 : l ≠ []) (h2 : ¬ 63 < l.length) (h3 : ¬ 255 < k + l.length + 2) : fits k l = true := by
  have : 1 ≤ l.length := List.length_pos_iff.2 h1
  simp [fits]
  omega

theorem places_ok_at {n : List UInt8} {a b : List (List UInt8)} (h : n = made (a ++ b)) (g : good (a ++ b)) : ∀ x ∈ posOf (encL a) b, OkPos n x := by
  induction b generalizing a with
  | nil => intro x hx; cases hx
  | cons l b ih =>
    intro x hx
    obtain ⟨hk, _, h2, _, _, h5, _⟩ := at_label h g
    rcases List.mem_cons.1 hx with rfl | hx
    · exact ⟨hk, by omega⟩
    · have h' : n = made ((a ++ [l]) ++ b) := by simpa using h
      have g' : good ((a ++ [l]) ++ b) := by simpa using g
      refine ih h' g' x ?_
      rw [encL_append]
      simpa [encL] using hx
theorem places_ok {n : List UInt8} {x : Nat} (h : x ∈ placesN n) : OkPos n x := by
  unfold placesN labsD at h
  cases e : labs n with
  | none => rw [e] at h; simp [posOf] at h
  | some ls =>
    obtain ⟨en, g, _⟩ := labs_iff.1 e
    rw [e] at h
    exact places_ok_at (a := []) en g x h
theorem places_length (n : List UInt8) : (placesN n).length = (labsD n).length := by
  unfold placesN; exact posOf_length _ _
theorem lab_get {n : List UInt8} {i : Nat} (h : i < (placesN n).length) : labAt n (placesN n)[i] = (labsD n)[i]'(by rw [← places_length]; exact h) := by
  have := labAt_placesN n
  have h2 : ((placesN n).map (labAt n))[i]? = (labsD n)[i]? := by rw [this]
  rw [List.getElem?_map, List.getElem?_eq_getElem h, List.getElem?_eq_getElem (by rw [← places_length]; exact h)] at h2
  exact Option.some.inj h2
theorem labsD_len (n : List UInt8) : (labsD n).length ≤ 255 := by
  by_cases h : labsD n = []
  · rw [h]; simp
  · obtain ⟨e, _, hl, _⟩ := labsD_made h
    have h1 : n.length = encL (labsD n) + 1 := by
      have := made_length (labsD n)
      rw [← e] at this
      exact this
    have h2 := length_le_encL (ls := labsD n)
    omega

theorem labsD_good (n : List UInt8) : good (labsD n) := by
  by_cases h : labsD n = []
  · rw [h]; intro l hl; cases hl
  · exact (labsD_made h).2.1

/-- Label by label from the last one on. -/
def lessR : List (List UInt8) → List (List UInt8) → Bool
  | x :: xs, y :: ys => if cmpN x y ≠ 0 then decide (cmpN x y < 0) else lessR xs ys
  | [], _ :: _ => true
  | _, [] => false
def less (a b : List UInt8) : Bool := valid a && valid b && lessR (labsD a).reverse (labsD b).reverse
theorem take_rev {l : List (List UInt8)} {i : Nat} (h : i < l.length) : (l.take (i + 1)).reverse = l[i] :: (l.take i).reverse := by
  rw [List.take_succ_eq_append_getElem h, List.reverse_append]; rfl

end Go.Proofs.YtdbaocphglijbaaDoor.Nm

/- The order of names, in Lean: total, transitive; a zone is ahead of all that is under it. -/
namespace Go.Proofs.YtdbaocphglijbaaDoor.Nm

theorem cmpN_cons_lt {a b : UInt8} {x y : List UInt8} (h : (small a).toNat < (small b).toNat) : cmpN (a :: x) (b :: y) = -1 := by
  rw [cmpN, cmpI_lt (by omega), if_neg (by decide)]
theorem cmpN_cons_gt {a b : UInt8} {x y : List UInt8} (h : (small b).toNat < (small a).toNat) : cmpN (a :: x) (b :: y) = 1 := by
  rw [cmpN, cmpI_gt (by omega), if_neg (by decide)]
theorem cmpN_cons_eq {a b : UInt8} {x y : List UInt8} (h : (small a).toNat = (small b).toNat) : cmpN (a :: x) (b :: y) = cmpN x y := by
  rw [cmpN, cmpI_eq (by omega) (by omega), if_pos rfl]
theorem cmpN_anti : ∀ a b : List UInt8, cmpN b a = - cmpN a b
  | [], [] => rfl
  | [], _ :: _ => rfl
  | _ :: _, [] => rfl
  | a :: x, b :: y => by
    rcases Nat.lt_trichotomy (small a).toNat (small b).toNat with h | h | h
    · rw [cmpN_cons_lt h, cmpN_cons_gt h]; rfl
    · rw [cmpN_cons_eq h, cmpN_cons_eq h.symm, cmpN_anti x y]
    · rw [cmpN_cons_lt h, cmpN_cons_gt h]
theorem cmpN_trans : ∀ a b c : List UInt8, cmpN a b ≤ 0 → cmpN b c ≤ 0 → cmpN a c ≤ 0 ∧ (cmpN a b < 0 ∨ cmpN b c < 0 → cmpN a c < 0)
  | [], [], [] => by simp [cmpN]
  | [], [], _ :: _ => by simp [cmpN]
  | [], _ :: _, [] => by simp [cmpN]
  | [], _ :: _, _ :: _ => by simp [cmpN]
  | _ :: _, [], _ => by simp [cmpN]
  | _ :: _, _ :: _, [] => by simp [cmpN]
  | a :: x, b :: y, c :: z => by
    intro h1 h2
    rcases Nat.lt_trichotomy (small a).toNat (small b).toNat with h | h | h
    · rcases Nat.lt_trichotomy (small b).toNat (small c).toNat with k | k | k
      · rw [cmpN_cons_lt (by omega : (small a).toNat < (small c).toNat)]; omega
      · rw [cmpN_cons_lt (by omega : (small a).toNat < (small c).toNat)]; omega
      · rw [cmpN_cons_gt k] at h2; omega
    · rcases Nat.lt_trichotomy (small b).toNat (small c).toNat with k | k | k
      · rw [cmpN_cons_lt (by omega : (small a).toNat < (small c).toNat)]; omega
      · rw [cmpN_cons_eq h] at h1
        rw [cmpN_cons_eq k] at h2
        rw [cmpN_cons_eq h, cmpN_cons_eq k, cmpN_cons_eq (by omega : (small a).toNat = (small c).toNat)]
        exact cmpN_trans x y z h1 h2
      · rw [cmpN_cons_gt k] at h2; omega
    · rw [cmpN_cons_gt h] at h1; omega

theorem lessR_cons_lt {x y : List UInt8} {xs ys : List (List UInt8)} (h : cmpN x y < 0) : lessR (x :: xs) (y :: ys) = true := by
  rw [lessR, if_pos (by omega)]; simpa using h
theorem lessR_cons_gt {x y : List UInt8} {xs ys : List (List UInt8)} (h : 0 < cmpN x y) : lessR (x :: xs) (y :: ys) = false := by
  rw [lessR, if_pos (by omega)]; simp; omega
theorem lessR_cons_eq {x y : List UInt8} {xs ys : List (List UInt8)} (h : cmpN x y = 0) : lessR (x :: xs) (y :: ys) = lessR xs ys := by
  rw [lessR, if_neg (by omega)]
theorem lessR_tri : ∀ xs ys : List (List UInt8), (lessR xs ys = true ∧ lessR ys xs = false ∧ xs.map folded ≠ ys.map folded) ∨ (lessR xs ys = false ∧ lessR ys xs = true ∧ xs.map folded ≠ ys.map folded) ∨ (lessR xs ys = false ∧ lessR ys xs = false ∧ xs.map folded = ys.map folded)
  | [], [] => .inr (.inr ⟨rfl, rfl, rfl⟩)
  | [], _ :: _ => .inl ⟨rfl, rfl, by simp⟩
  | _ :: _, [] => .inr (.inl ⟨rfl, rfl, by simp⟩)
  | x :: xs, y :: ys => by
    have ha := cmpN_anti x y
    rcases Int.lt_trichotomy (cmpN x y) 0 with h | h | h
    · refine .inl ⟨lessR_cons_lt h, lessR_cons_gt (by omega), fun e => ?_⟩
      simp only [List.map_cons, List.cons.injEq] at e
      have := cmpN_zero.2 e.1
      omega
    · have h0 := cmpN_zero.1 h
      rcases lessR_tri xs ys with ⟨h1, h2, h3⟩ | ⟨h1, h2, h3⟩ | ⟨h1, h2, h3⟩
      · exact .inl ⟨(lessR_cons_eq h).trans h1, (lessR_cons_eq (by omega)).trans h2, by simp [h3]⟩
      · exact .inr (.inl ⟨(lessR_cons_eq h).trans h1, (lessR_cons_eq (by omega)).trans h2, by simp [h3]⟩)
      · exact .inr (.inr ⟨(lessR_cons_eq h).trans h1, (lessR_cons_eq (by omega)).trans h2, by simp [h3, h0]⟩)
    · refine .inr (.inl ⟨lessR_cons_gt h, lessR_cons_lt (by omega), fun e => ?_⟩)
      simp only [List.map_cons, List.cons.injEq] at e
      have := cmpN_zero.2 e.1
      omega
theorem lessR_trans : ∀ xs ys zs : List (List UInt8), lessR xs ys = true → lessR ys zs = true → lessR xs zs = true
  | [], [], _ => by simp [lessR]
  | [], _ :: _, [] => by simp [lessR]
  | [], _ :: _, _ :: _ => by simp [lessR]
  | _ :: _, [], _ => by simp [lessR]
  | _ :: _, _ :: _, [] => by simp [lessR]
  | x :: xs, y :: ys, z :: zs => by
    intro h1 h2
    have hxy : cmpN x y ≤ 0 := by
      rcases Int.lt_or_le 0 (cmpN x y) with h | h
      · rw [lessR_cons_gt h] at h1; cases h1
      · exact h
    have hyz : cmpN y z ≤ 0 := by
      rcases Int.lt_or_le 0 (cmpN y z) with h | h
      · rw [lessR_cons_gt h] at h2; cases h2
      · exact h
    obtain ⟨t1, t2⟩ := cmpN_trans x y z hxy hyz
    by_cases h : cmpN x y < 0 ∨ cmpN y z < 0
    · exact lessR_cons_lt (t2 h)
    · have e1 : cmpN x y = 0 := by omega
      have e2 : cmpN y z = 0 := by omega
      have e3 : cmpN x z = 0 := cmpN_zero.2 ((cmpN_zero.1 e1).trans (cmpN_zero.1 e2))
      rw [lessR_cons_eq e1] at h1
      rw [lessR_cons_eq e2] at h2
      rw [lessR_cons_eq e3]
      exact lessR_trans xs ys zs h1 h2
theorem lessR_prefix : ∀ xs ys : List (List UInt8), xs.map folded <+: ys.map folded → xs.map folded = ys.map folded ∨ lessR xs ys = true
  | [], [], _ => .inl rfl
  | [], _ :: _, _ => .inr rfl
  | _ :: _, [], h => by simp at h
  | x :: xs, y :: ys, h => by
    simp only [List.map_cons, List.cons_prefix_cons] at h
    rcases lessR_prefix xs ys h.2 with e | e
    · exact .inl (by simp [h.1, e])
    · exact .inr ((lessR_cons_eq (cmpN_zero.2 h.1)).trans e)

/-! ### Of names -/
theorem labs_of_valid {n : List UInt8} (h : valid n = true) : labs n = some (labsD n) ∧ n = made (labsD n) ∧ good (labsD n) ∧ n.length ≤ 255 := by
  unfold valid at h
  obtain ⟨ls, hl⟩ := Option.isSome_iff_exists.1 h
  have e : labsD n = ls := by unfold labsD; rw [hl]; rfl
  rw [e]
  exact ⟨hl, labs_iff.1 hl⟩
theorem rev_map_inj {a b : List (List UInt8)} : a.reverse.map folded = b.reverse.map folded ↔ a.map folded = b.map folded := by
  rw [List.map_reverse, List.map_reverse, List.reverse_inj]
theorem same_valid {a b : List UInt8} (ha : valid a = true) (hb : valid b = true) : same a b = decide ((labsD a).map folded = (labsD b).map folded) := by
  obtain ⟨_, ea, ga, la⟩ := labs_of_valid ha
  obtain ⟨eb, _⟩ := labs_of_valid hb
  have h := same_made (b := labsD a) (z := b) ga (by rw [← ea]; exact la) eb
  rw [← ea] at h
  exact h
theorem under_valid {a b : List UInt8} (ha : valid a = true) (hb : valid b = true) : under a b = decide ((labsD b).map folded <:+ (labsD a).map folded) := by
  unfold under
  rw [(labs_of_valid ha).1, (labs_of_valid hb).1]
theorem less_valid {a b : List UInt8} (ha : valid a = true) (hb : valid b = true) : less a b = lessR (labsD a).reverse (labsD b).reverse := by
  unfold less; rw [ha, hb]; rfl
theorem order_tri {a b : List UInt8} (ha : valid a = true) (hb : valid b = true) : (less a b = true ∧ less b a = false ∧ same a b = false) ∨ (less a b = false ∧ less b a = true ∧ same a b = false) ∨ (less a b = false ∧ less b a = false ∧ same a b = true) := by
  rw [less_valid ha hb, less_valid hb ha, same_valid ha hb]
  have h := lessR_tri (labsD a).reverse (labsD b).reverse
  rw [Ne, rev_map_inj] at h
  simpa using h
theorem order_trans {a b c : List UInt8} (ha : valid a = true) (hb : valid b = true) (hc : valid c = true) (h1 : less a b = true) (h2 : less b c = true) : less a c = true := by
  rw [less_valid ha hb] at h1
  rw [less_valid hb hc] at h2
  rw [less_valid ha hc]
  exact lessR_trans _ _ _ h1 h2
theorem order_under {a b : List UInt8} (ha : valid a = true) (hb : valid b = true) (h : under a b = true) : same a b = true ∨ less b a = true := by
  rw [under_valid ha hb, decide_eq_true_eq] at h
  have hp : (labsD b).reverse.map folded <+: (labsD a).reverse.map folded := by
    rw [List.map_reverse, List.map_reverse, List.reverse_prefix]; exact h
  rcases lessR_prefix _ _ hp with e | e
  · rw [rev_map_inj] at e
    exact .inl (by rw [same_valid ha hb]; simp [e])
  · exact .inr (by rw [less_valid hb ha]; exact e)
theorem under_refl {a : List UInt8} (ha : valid a = true) : under a a = true := by
  rw [under_valid ha ha]; simp
theorem under_root {a : List UInt8} (ha : valid a = true) : under a [0] = true := by
  have hz : valid [0] = true := by decide
  rw [under_valid ha hz]
  have : labsD [0] = [] := by decide
  simp [this]
theorem under_trans {a b c : List UInt8} (ha : valid a = true) (hb : valid b = true) (hc : valid c = true) (h1 : under a b = true) (h2 : under b c = true) : under a c = true := by
  rw [under_valid ha hb, decide_eq_true_eq] at h1
  rw [under_valid hb hc, decide_eq_true_eq] at h2
  rw [under_valid ha hc, decide_eq_true_eq]
  exact h2.trans h1
theorem under_same {a b : List UInt8} (ha : valid a = true) (hb : valid b = true) (h : same a b = true) : under a b = true := by
  rw [same_valid ha hb, decide_eq_true_eq] at h
  rw [under_valid ha hb, h]; simp
end Go.Proofs.YtdbaocphglijbaaDoor.Nm
