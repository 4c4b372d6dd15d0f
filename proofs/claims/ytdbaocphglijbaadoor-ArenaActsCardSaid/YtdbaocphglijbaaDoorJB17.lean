/- 3 texts put together: Math, Append, Base. -/
import Derived.WalkKit
import Derived.Maps.AppendAt
import Derived.Lib.AppendStr
import Derived.Lib.Hide
import Derived.OwnWalkIn
import Derived.Laws.IdiomStrings
import Derived.RangeFuncBox
import Derived.Below
import Derived.BigQuiet
import Derived.Deep.QuietTactic
import Derived.Test.YtdbaocphglijbaaDoorProg
import Derived.Test.YtdbaocphglijbaaDoorJB1
import Derived.Test.YtdbaocphglijbaaDoorJB4
import Derived.Test.YtdbaocphglijbaaDoorJB8
import Derived.Test.YtdbaocphglijbaaDoorJB13
/- Plain mathematics of names (no program in it): a name's labels, and that a name and its labels say the same. -/
namespace Go.Proofs.YtdbaocphglijbaaDoor.Nm

/-- The labels of what is written (however long it is), with fuel. -/
def labsF : Nat → List UInt8 → Option (List (List UInt8))
  | 0, _ => none
  | _ + 1, [] => none
  | f + 1, c :: r =>
    if c = 0 then (if r.isEmpty then some [] else none)
    else if 63 < c.toNat ∨ r.length < c.toNat then none
    else (labsF f (r.drop c.toNat)).map (fun l => r.take c.toNat :: l)

def labsU (n : List UInt8) : Option (List (List UInt8)) := labsF n.length n
def labs (n : List UInt8) : Option (List (List UInt8)) := if 255 < n.length then none else labsU n

theorem labsF_fuel : ∀ (f g : Nat) (n : List UInt8), n.length ≤ f → n.length ≤ g → labsF f n = labsF g n
  | 0, 0, _, _, _ => rfl
  | 0, g + 1, n, h, _ => by
    obtain rfl : n = [] := List.length_eq_zero_iff.1 (by omega)
    rfl
  | f + 1, 0, n, _, h => by
    obtain rfl : n = [] := List.length_eq_zero_iff.1 (by omega)
    rfl
  | f + 1, g + 1, [], _, _ => rfl
  | f + 1, g + 1, c :: r, h, h' => by
    simp only [List.length_cons] at h h'
    simp only [labsF]
    rw [labsF_fuel f g (r.drop c.toNat) (by simp; omega) (by simp; omega)]

theorem labsU_nil : labsU [] = none := rfl
theorem labsU_cons (c : UInt8) (r : List UInt8) : labsU (c :: r) =
    if c = 0 then (if r.isEmpty then some [] else none)
    else if 63 < c.toNat ∨ r.length < c.toNat then none
    else (labsU (r.drop c.toNat)).map (fun l => r.take c.toNat :: l) := by
  show labsF (r.length + 1) (c :: r) = _
  simp only [labsF, labsU]
  rw [labsF_fuel r.length (r.drop c.toNat).length _ (by simp) (Nat.le_refl _)]

/-- The name of labels. -/
def made : List (List UInt8) → List UInt8
  | [] => [0]
  | l :: ls => UInt8.ofNat l.length :: (l ++ made ls)
def good (ls : List (List UInt8)) : Prop := ∀ l ∈ ls, 1 ≤ l.length ∧ l.length ≤ 63

theorem ofNat_toNat {k : Nat} (h : k ≤ 63) : (UInt8.ofNat k).toNat = k := by
  simp; omega
theorem ofNat_ne {k : Nat} (h0 : 1 ≤ k) (h : k ≤ 63) : UInt8.ofNat k ≠ 0 := by
  intro e
  have := congrArg UInt8.toNat e
  rw [ofNat_toNat h] at this
  simp at this
  omega

theorem labsU_made : ∀ {ls : List (List UInt8)}, good ls → labsU (made ls) = some ls
  | [], _ => rfl
  | l :: ls, h => by
    obtain ⟨h1, h2⟩ := h l (by simp)
    rw [made, labsU_cons, if_neg (ofNat_ne h1 h2), ofNat_toNat h2, if_neg (by simp; omega)]
    have g : good ls := fun x hx => h x (List.mem_cons_of_mem _ hx)
    simp [labsU_made g]

theorem labsF_some : ∀ (f : Nat) {n : List UInt8} {ls : List (List UInt8)}, labsF f n = some ls → n = made ls ∧ good ls
  | 0, _, _, h => by cases h
  | f + 1, [], _, h => by cases h
  | f + 1, c :: r, ls, h => by
    simp only [labsF] at h
    split at h
    · rename_i hc
      split at h
      · rename_i hr
        cases h
        have : r = [] := by simpa using hr
        exact ⟨by rw [hc, this]; rfl, fun l hl => by cases hl⟩
      · cases h
    · rename_i hc
      split at h
      · cases h
      · rename_i hb
        obtain ⟨ls', h', rfl⟩ := Option.map_eq_some_iff.1 h
        obtain ⟨e, g⟩ := labsF_some f h'
        have hlen : (r.take c.toNat).length = c.toNat := by simp; omega
        have hc0 : c.toNat ≠ 0 := fun e0 => hc (by rw [← UInt8.toNat_inj]; simpa using e0)
        refine ⟨?_, ?_⟩
        · rw [made, hlen, ← e, List.take_append_drop]; simp
        · intro l hl
          rcases List.mem_cons.1 hl with rfl | hl
          · rw [hlen]; omega
          · exact g l hl

theorem labsU_iff {n : List UInt8} {ls : List (List UInt8)} : labsU n = some ls ↔ n = made ls ∧ good ls :=
  ⟨labsF_some _, fun ⟨e, g⟩ => e ▸ labsU_made g⟩
theorem labs_iff {n : List UInt8} {ls : List (List UInt8)} : labs n = some ls ↔ n = made ls ∧ good ls ∧ n.length ≤ 255 := by
  unfold labs
  split
  · rename_i h
    constructor
    · intro h; cases h
    · rintro ⟨_, _, h'⟩; omega
  · rename_i h
    rw [labsU_iff]
    constructor
    · rintro ⟨a, b⟩; exact ⟨a, b, by omega⟩
    · rintro ⟨a, b, _⟩; exact ⟨a, b⟩

def valid (n : List UInt8) : Bool := (labs n).isSome
def validU (n : List UInt8) : Bool := (labsU n).isSome

theorem validU_nil : validU [] = false := rfl
theorem validU_cons (c : UInt8) (r : List UInt8) : validU (c :: r) =
    if c = 0 then r.isEmpty
    else if 63 < c.toNat ∨ r.length < c.toNat then false
    else validU (r.drop c.toNat) := by
  unfold validU
  rw [labsU_cons]
  split
  · split <;> simp_all
  · split <;> simp

/-- Where a walk over a name stands: what is left decides. -/
def ValidAt (n : List UInt8) (k : Nat) : Prop := (k ≤ n.length → validU (n.drop k) = validU n) ∧ (n.length < k → validU n = false)
theorem validAt_zero (n : List UInt8) : ValidAt n 0 := ⟨fun _ => rfl, fun h => by omega⟩
theorem drop_cons {n : List UInt8} {k : Nat} (h : k < n.length) : n.drop k = n[k] :: n.drop (k + 1) := List.drop_eq_getElem_cons h
theorem valid_of_short {n : List UInt8} (h : ¬ 255 < n.length) : valid n = validU n := by simp [valid, validU, labs, h]
theorem ValidAt.stop {n : List UInt8} {k : Nat} (h : ValidAt n k) (hk : n.length ≤ k) : validU n = false := by
  by_cases e : k = n.length
  · have := h.1 (by omega)
    rw [← this, e, List.drop_length]; rfl
  · exact h.2 (by omega)
theorem ValidAt.zero {n : List UInt8} {k : Nat} (h : ValidAt n k) (hk : k < n.length) (h0 : n[k] = 0) : validU n = decide (k + 1 = n.length) := by
  rw [← h.1 (by omega), drop_cons hk, validU_cons, if_pos h0, Bool.eq_iff_iff]
  simp
  omega
theorem ValidAt.big {n : List UInt8} {k : Nat} (h : ValidAt n k) (hk : k < n.length) (h0 : 63 < n[k].toNat) : validU n = false := by
  rw [← h.1 (by omega), drop_cons hk, validU_cons, if_neg, if_pos (Or.inl h0)]
  intro e; rw [e] at h0; simp at h0
theorem ValidAt.step {n : List UInt8} {k : Nat} (h : ValidAt n k) (hk : k < n.length) (h0 : n[k] ≠ 0) (hb : ¬ 63 < n[k].toNat) : ValidAt n (k + (1 + n[k].toNat)) := by
  have e := h.1 (by omega)
  rw [drop_cons hk, validU_cons, if_neg h0] at e
  constructor
  · intro hl
    rw [if_neg (by simp; omega), List.drop_drop] at e
    rw [← e]
    congr 2
    omega
  · intro hl
    rw [if_pos (by simp; omega)] at e
    exact e.symm

/-! Letters made small, and how two are compared. -/
def small (c : UInt8) : UInt8 := if 65 ≤ c.toNat ∧ c.toNat ≤ 90 then c + 32 else c
theorem small_yes {c : UInt8} (h1 : 65 ≤ c.toNat) (h2 : c.toNat ≤ 90) : ((small c).toNat : Int) = (c.toNat : Int) + 32 := by
  unfold small
  rw [if_pos ⟨h1, h2⟩, UInt8.toNat_add]
  simp
  omega
theorem small_no {c : UInt8} (h : ¬ (65 ≤ c.toNat ∧ c.toNat ≤ 90)) : small c = c := by
  unfold small
  rw [if_neg h]
def cmpI (x y : Int) : Int := if x < y then -1 else if y < x then 1 else 0
theorem cmpI_lt {x y : Int} (h : x < y) : cmpI x y = -1 := if_pos h
theorem cmpI_gt {x y : Int} (h : y < x) : cmpI x y = 1 := by unfold cmpI; rw [if_neg (by omega), if_pos h]
theorem cmpI_eq {x y : Int} (h1 : ¬ x < y) (h2 : ¬ y < x) : cmpI x y = 0 := by unfold cmpI; rw [if_neg h1, if_neg h2]
theorem cmpI_self (x : Int) : cmpI x x = 0 := cmpI_eq (by omega) (by omega)
theorem cmpI_bounds (x y : Int) : -1 ≤ cmpI x y ∧ cmpI x y ≤ 1 := by unfold cmpI; split <;> (try split) <;> omega
theorem cmpI_zero {x y : Int} : cmpI x y = 0 ↔ x = y := by unfold cmpI; split <;> (try split) <;> constructor <;> intro h <;> omega
def cmpN : List UInt8 → List UInt8 → Int
  | [], [] => 0
  | [], _ :: _ => -1
  | _ :: _, [] => 1
  | a :: x, b :: y => if cmpI (small a).toNat (small b).toNat = 0 then cmpN x y else cmpI (small a).toNat (small b).toNat
theorem cmpN_bounds : ∀ (a b : List UInt8), -1 ≤ cmpN a b ∧ cmpN a b ≤ 1
  | [], [] => by simp [cmpN]
  | [], _ :: _ => by simp [cmpN]
  | _ :: _, [] => by simp [cmpN]
  | a :: x, b :: y => by
    unfold cmpN
    split
    · exact cmpN_bounds x y
    · exact cmpI_bounds _ _
/-- Where a comparison of two stands: what is left decides. -/
theorem cmpN_step {a b : List UInt8} {k : Nat} (ha : k < a.length) (hb : k < b.length) (h : cmpN (a.drop k) (b.drop k) = cmpN a b) :
    (cmpI (small a[k]).toNat (small b[k]).toNat = 0 → cmpN (a.drop (k + 1)) (b.drop (k + 1)) = cmpN a b) ∧ (cmpI (small a[k]).toNat (small b[k]).toNat ≠ 0 → cmpN a b = cmpI (small a[k]).toNat (small b[k]).toNat) := by
  rw [drop_cons ha, drop_cons hb, cmpN] at h
  constructor
  · intro e; rw [if_pos e] at h; exact h
  · intro e; rw [if_neg e] at h; exact h.symm
theorem cmpN_end {a b : List UInt8} {k : Nat} (hk : k = min a.length b.length) (h : cmpN (a.drop k) (b.drop k) = cmpN a b) : cmpN a b = cmpI a.length b.length := by
  rw [← h]
  by_cases e : a.length ≤ b.length
  · have e1 : a.drop k = [] := List.drop_of_length_le (by omega)
    rw [e1]
    by_cases e' : a.length = b.length
    · rw [List.drop_of_length_le (by omega : b.length ≤ k), e', cmpI_self]; rfl
    · rw [drop_cons (by omega : k < b.length), cmpI_lt (by omega)]; rfl
  · rw [List.drop_of_length_le (by omega : b.length ≤ k), drop_cons (by omega : k < a.length), cmpI_gt (by omega)]; rfl
def folded (n : List UInt8) : List UInt8 := n.map small
theorem cmpN_zero : ∀ {a b : List UInt8}, cmpN a b = 0 ↔ folded a = folded b
  | [], [] => by simp [cmpN, folded]
  | [], _ :: _ => by simp [cmpN, folded]
  | _ :: _, [] => by simp [cmpN, folded]
  | a :: x, b :: y => by
    unfold cmpN
    split
    · rename_i h
      rw [cmpI_zero] at h
      rw [cmpN_zero]
      have : small a = small b := by rw [← UInt8.toNat_inj]; omega
      simp [folded, this]
    · rename_i h
      constructor
      · intro e; exact absurd e h
      · intro e
        simp only [folded, List.map_cons, List.cons.injEq] at e
        exact absurd (by rw [cmpI_zero, e.1]) h

def same (a b : List UInt8) : Bool := valid a && valid b && folded a == folded b
theorem folded_length (n : List UInt8) : (folded n).length = n.length := by simp [folded]
theorem same_len {a b : List UInt8} (h : a.length ≠ b.length) : same a b = false := by
  have : folded a ≠ folded b := fun e => h (by rw [← folded_length a, e, folded_length])
  simp [same, this]

end Go.Proofs.YtdbaocphglijbaaDoor.Nm

/- append onto a slice that the call owns: what it leaves alone. -/
namespace Go.Proofs.YtdbaocphglijbaaDoor
open Go Go.RowKit

variable {P : Program}

/-- A slice of one-cell elements that the call owns, from block base on. -/
def OwnE {α : Type} (enc : α → Value) (e : TypeId) (base : Nat) (v : Value) (l : List α) (W : World) : Prop := W.ownsRow base e 1 v l.length (l.map enc)

/-- What an append leaves alone. -/
structure Apd (base : Nat) (v : Value) (ne : Prop) (w w' : World) : Prop where
  below : Below base w w'
  others : KeepsOthers w w'
  boxed : (v = .slice none 0 0 ∨ ne) → ∀ k t u, Boxed w k t u → Boxed w' k t u
  other : ∀ (k : Nat) (o : Obj), some k ≠ v.ownBlock → w.heap[k]? = some o → w'.heap[k]? = some o

theorem ownE_nil {α : Type} (enc : α → Value) (e : TypeId) (base : Nat) (W : World) : OwnE enc e base (.slice none 0 0) [] W := World.ownsRow_nil W base e 1

theorem ownE_form {α : Type} {enc : α → Value} {e : TypeId} {base : Nat} {v : Value} {l : List α} {W : World} (h : OwnE enc e base v l W) : (v = .slice none 0 0 ∧ l = []) ∨ ∃ g cap, v = .slice (some ⟨g, 0, none⟩) l.length cap := by
  rcases h.2 with ⟨rfl, hn⟩ | ⟨g, cap, cur, rfl, _⟩
  · exact .inl ⟨rfl, List.length_eq_zero_iff.1 hn⟩
  · exact .inr ⟨g, cap, rfl⟩
theorem ownE_cell {α : Type} {enc : α → Value} {e : TypeId} {base g cap n : Nat} {l : List α} {W : World} (h : OwnE enc e base (.slice (some ⟨g, 0, none⟩) n cap) l W) {j : Nat} (hj : j < l.length) : W.cell? ⟨g, 0 + j, none⟩ = some (enc l[j]) := by
  have := World.ownsRow.cells h (g := g) rfl j (enc l[j]) (by simp [hj])
  have e : (⟨g, 0, none⟩ : Addr).add j = ⟨g, 0 + j, none⟩ := by unfold Addr.add; split <;> simp_all
  rwa [e] at this
theorem ownE_alloc {α : Type} {enc : α → Value} {e : TypeId} {base : Nat} {v : Value} {l : List α} {W : World} (h : OwnE enc e base v l W) (o : Obj) : OwnE enc e base v l (W.alloc o) := World.ownsRow.alloc h o
theorem ownE_below {α : Type} {enc : α → Value} {e : TypeId} {base : Nat} {v : Value} {l : List α} {W W' : World} (h : OwnE enc e base v l W) (hb : Below W.heap.size W W') : OwnE enc e base v l W' :=
  World.ownsRow.kept h (row := none) ⟨hb.os, hb.tape, hb.output, hb.size, fun k hk _ => hb.block k hk⟩ (by
    rcases h.2 with ⟨rfl, hn⟩ | ⟨g, cap, cur, rfl, _⟩
    · exact .inl rfl
    · exact .inr (by simp [Value.ownBlock]))

theorem ownE_setBox {α : Type} {enc : α → Value} {e : TypeId} {base : Nat} {v : Value} {l : List α} {W : World} {B : Nat} {t : TypeId} {u : Value} (h : OwnE enc e base v l W) (hb : Boxed W B t u) (hte : t ≠ e) (u' : Value) : OwnE enc e base v l (W.setCell ⟨B, 0, none⟩ u') :=
  World.ownsRow.kept h (grownBy_setCell' W B u') (.inr (fun e => hb.not_row hte h e.symm))
theorem apd_of_grown {e base : Nat} {v : Value} {n : Nat} {xs : List Value} {ne : Prop} {w w' : World} (hown : w.ownsRow base e 1 v n xs) (hb : base ≤ w.heap.size) (hg : w.grownBy w' v.ownBlock)
    (hbox : (v = .slice none 0 0 ∨ ne) → ∀ k t u, Boxed w k t u → Boxed w' k t u) : Apd base v ne w w' :=
  ⟨(Below.refl base w).grown hg hb (fun k e => (hown.lt k e).1), KeepsOthers.of_grownBy hg (fun j o e ho => by
    rcases hown.2 with ⟨rfl, _⟩ | ⟨g, cap, cur, rfl, _, hh, _⟩
    · cases e
    · cases e
      rw [hh] at ho
      cases ho
      rfl), hbox, fun k o hk h => (hg.block k (Array.getElem?_eq_some_iff.1 h).1 hk).trans h⟩
theorem Apd.of_alloc {base : Nat} {v : Value} {ne : Prop} {w w' : World} {o : Obj} (h : Apd base v ne (w.alloc o) w') (hb : base ≤ w.heap.size) : Apd base v ne w w' :=
  ⟨((Below.refl base w).alloc hb o).trans h.below, (KeepsOthers.alloc w o).trans h.others, fun hv k t u hbx => h.boxed hv k t u (hbx.alloc o), fun k o' hk hh => h.other k o' hk ((Below.heap_alloc w o k (Array.getElem?_eq_some_iff.1 hh).1).trans hh)⟩

/-- append of m elements that lie somewhere. -/
theorem run_apd {α : Type} (enc : α → Value) (henc : ∀ x, (enc x).oneCell' = true) (w : World) (base : Nat) (t ty e : TypeId) (z : Value) (bytes : Nat) (h1 : P.underlying t = some (.slice e))
    (h2 : (P.info? e).map (fun i => (i.zero, i.size, i.bytes)) = some (some z, 1, bytes)) (hz : z.cells.size = 1) (v : Value) (l : List α) (hown : OwnE enc e base v l w) (ad : Addr) (m c : Nat) (news : List α) (hm : news.length = m)
    (hc : ∀ j u, (news.map enc)[j]? = some u → w.cell? (ad.add j) = some u) (b1 : l.length + m ≤ 1000000) (b2 : bytes ≤ 1000) (hb : base ≤ w.heap.size) :
    ∃ v' w', (Builtin.append_ #[t, t] ty #[v, .slice (some ad) m c]).run P w = .ok v' w' ∧ OwnE enc e base v' (l ++ news) w' ∧ Apd base v (l ≠ []) w w' ∧ (v' = .slice none 0 0 ↔ v = .slice none 0 0 ∧ m = 0) := by
  obtain ⟨i, hi, hz0, hz1, hz2⟩ := info_parts h2
  have hlim : (l.length + m) * bytes ≤ 140737488355328 := Nat.le_trans (Nat.mul_le_mul b1 b2) (by decide)
  have hmax : l.length + m ≤ maxLen := Nat.le_trans b1 (by unfold maxLen; decide)
  have h1c : ∀ u ∈ news.map enc, u.oneCell' = true := fun u hu => by obtain ⟨x, _, rfl⟩ := List.mem_map.1 hu; exact henc x
  have hlen : (news.map enc).length = m * i.size := by rw [List.length_map, hm, hz1, Nat.mul_one]
  obtain ⟨v', w', hr, ho, hg, hnil⟩ := run_append_own (P := P) w base t ty e i z 1 bytes h1 hi hz0 hz1 hz2 hz (by decide) v l.length (l.map enc) hown ad m c (news.map enc) (by simp [hm]) hc h1c hmax hlim hb
  refine ⟨v', w', hr, by unfold OwnE; rw [List.map_append, List.length_append, hm]; exact ho, apd_of_grown hown hb hg ?_, hnil⟩
  intro hv k tk u hbx
  rcases hown.2 with ⟨rfl, hn⟩ | ⟨g, cap, cur, rfl, hbg, hh, hnc, hcm, hcs, htake⟩
  · exact hbx.kept hg (by simp [Value.ownBlock])
  · by_cases hkg : k = g
    · subst hkg
      have hcur : Obj.cells cur e (0, 0) = .cells #[u] tk (0, 0) := Option.some.inj (hh.symm.trans hbx)
      have hc1 : cur = #[u] := by injection hcur
      have hcap : cap = 1 := by rw [hc1] at hcs; simp at hcs; omega
      have hl1 : l ≠ [] := hv.elim (fun e => by cases e) id
      have hl2 : 1 ≤ l.length := List.length_pos_iff.2 hl1
      by_cases hm0 : m = 0
      · have hr2 := run_append_room (P := P) w t ty e i h1 hi k l.length cap cur hh ad m c (news.map enc) hlen hc h1c (by omega) (by rw [hlen, hz1]; omega)
        rw [hr] at hr2
        have hw : w' = _ := (Result.ok.inj hr2).2
        have hn0 : news = [] := List.length_eq_zero_iff.1 (by omega)
        rw [hw]
        have := setRow_heap w k cur (List.take (l.length * i.size) cur.toList ++ news.map enc ++ List.drop (l.length * i.size + (news.map enc).length) cur.toList).toArray e (0, 0) hh
        rw [hn0] at this ⊢
        simp only [List.map_nil, List.append_nil, List.length_nil, Nat.add_zero, List.take_append_drop, Array.toArray_toList] at this ⊢
        unfold Boxed
        rw [this, hcur]
      · have hr2 := run_append_grow (P := P) w t ty e i z h1 hi hz0 ⟨k, 0, none⟩ l.length cap (l.map enc) (by rw [List.length_map, hz1, Nat.mul_one]) (World.ownsRow.cells hown rfl) ad m c (news.map enc) hlen hc (by omega) (by have := b1; omega) (growslice_fits (by omega) (by rw [hz2]; exact hlim))
        rw [hr] at hr2
        have hw : w' = _ := (Result.ok.inj hr2).2
        rw [hw]
        exact Boxed.alloc (W := w.drew) hbx _
    · exact hbx.kept hg (by simp [Value.ownBlock]; exact hkg)

/-- At the operation. -/
theorem wpListIn_apd {α : Type} {F : Fence} {n : Nat} (w : World) {ops : Array Oper} {rest : List Oper} {o : Oper} {a : Act} {Q : Exit → Act → World → Prop} (hg : o.guard = none) (s x : Operand) (t : TypeId)
    (hop : o.op = Op.call { callee := Callee.builtin Builtin.append, args := #[s, x], argTypes := #[t, t] })
    (enc : α → Value) (henc : ∀ x, (enc x).oneCell' = true) (base : Nat) (e : TypeId) (z : Value) (bytes : Nat) (h1 : P.underlying t = some (.slice e))
    (h2 : (P.info? e).map (fun i => (i.zero, i.size, i.bytes)) = some (some z, 1, bytes)) (hz : z.cells.size = 1) (v : Value) (l : List α) (hs : a.eval s = v) (hown : OwnE enc e base v l w) (ad : Addr) (m c : Nat) (news : List α) (hx : a.eval x = .slice (some ad) m c) (hm : news.length = m)
    (hc : ∀ j u, (news.map enc)[j]? = some u → w.cell? (ad.add j) = some u) (b1 : l.length + m ≤ 1000000) (b2 : bytes ≤ 1000) (hb : base ≤ w.heap.size)
    (hK : ∀ v' w', OwnE enc e base v' (l ++ news) w' → Apd base v (l ≠ []) w w' → (v' = .slice none 0 0 ↔ v = .slice none 0 0 ∧ m = 0) → wpListIn F n P ops Q rest (a.put o.dst v') w') :
    wpListIn F n P ops Q (o :: rest) a w := by
  refine wpListIn_plain hg fun K hK' => ?_
  obtain ⟨v', w', hrun, r1, r2, r3⟩ := run_apd (P := P) enc henc w base t o.type e z bytes h1 h2 hz v l hown ad m c news hm hc b1 b2 hb
  unfold Oper.wpIn
  refine ⟨?_, ?_⟩
  · simp [Oper.about, hop, resolve, Target.leads, Sem.run_pure]
  · rw [Oper.semAt_plain F _ _ (by rw [hop]; intro c hc'; cases hc')]
    simp [execOp, hop, resolve, invoke, builtin, hs, hx, hrun, Result.andThen]
    exact hK' _ _ (hK v' w' r1 r2 r3)

theorem strCells_enc (l : List UInt8) : Lib.strCells ⟨l.toArray⟩ = l.map encB := by
  unfold Lib.strCells
  first | rfl | simp [encB]

/-- append(s, x...), x a string. -/
theorem wpListIn_apd_string {F : Fence} {n : Nat} (w : World) {ops : Array Oper} {rest : List Oper} {o : Oper} {a : Act} {Q : Exit → Act → World → Prop} (hg : o.guard = none) (s x : Operand) (t u : TypeId)
    (hop : o.op = Op.call { callee := Callee.builtin Builtin.append, args := #[s, x], argTypes := #[t, u] })
    (base : Nat) (e : TypeId) (h1 : P.underlying t = some (.slice e)) (hu : P.underlying u = some .string)
    (h2 : (P.info? e).map (fun i => (i.zero, i.size, i.bytes)) = some (some (.int .u8 0), 1, 1)) (v : Value) (l : List UInt8) (hs : a.eval s = v) (hown : OwnE encB e base v l w) (news : List UInt8) (hx : a.eval x = .string ⟨news.toArray⟩)
    (b1 : l.length + news.length ≤ 1000000) (hb : base ≤ w.heap.size)
    (hK : ∀ v' w', OwnE encB e base v' (l ++ news) w' → Below base w w' → (v' = .slice none 0 0 ↔ v = .slice none 0 0 ∧ news.length = 0) → wpListIn F n P ops Q rest (a.put o.dst v') w') :
    wpListIn F n P ops Q (o :: rest) a w := by
  obtain ⟨i, hi, hz0, hz1, hz2⟩ := info_parts h2
  refine wpListIn_plain hg fun K hK' => ?_
  have hsz : (⟨news.toArray⟩ : ByteArray).size = news.length := by show news.toArray.size = _; simp
  obtain ⟨v', w', hrun, r1, r2, r3⟩ := Lib.run_append_own_string (P := P) w base t u o.type e i h1 hu hi hz0 hz1 hz2 v l.length (l.map encB) hown ⟨news.toArray⟩ (by rw [hsz]; exact Nat.le_trans b1 (by unfold maxLen; decide)) (by rw [hsz]; omega) hb
  rw [hsz, strCells_enc] at r1
  rw [hsz] at r3
  unfold Oper.wpIn
  refine ⟨?_, ?_⟩
  · simp [Oper.about, hop, resolve, Target.leads, Sem.run_pure]
  · rw [Oper.semAt_plain F _ _ (by rw [hop]; intro c hc'; cases hc')]
    simp [execOp, hop, resolve, invoke, builtin, hs, hx, hrun, Result.andThen]
    exact hK' _ _ (hK v' w' (by unfold OwnE; rw [List.map_append, List.length_append]; exact r1) ((Below.refl base w).grown r2 hb (fun k e => (World.ownsRow.lt hown k e).1)) r3)

/-- string(b) of an owned slice of bytes. -/
theorem run_str {src dst e : TypeId} (hs : P.underlying src = some (.slice e)) (he : P.underlying e = some (.int .u8)) (hd : P.underlying dst = some .string) {base : Nat} {v : Value} {l : List UInt8} {W : World} (hown : OwnE encB e base v l W) :
    (convert src dst v).run P W = .ok (.string ⟨l.toArray⟩) W := by
  rcases hown.2 with ⟨rfl, hn⟩ | ⟨g, cap, cur, rfl, hbg, hh, hnc, hcm, hcs, htake⟩
  · have : l = [] := List.length_eq_zero_iff.1 hn
    subst this
    simp [convert, run_underlying, hs, he, hd, go_sem, Conv.bytesToString]
    rfl
  · exact run_convert_bytes_back W src dst e ⟨g, 0, none⟩ cap l hs he hd (fun j hj => World.ownsRow.cells hown rfl j _ (by simp [encB, hj]))

end Go.Proofs.YtdbaocphglijbaaDoor

/- What all walks of the seat share: endings, cuts of strings, slices that are read, small equations. -/
namespace Go.Proofs.YtdbaocphglijbaaDoor
open Go.RowKit Go.Shelf

theorem ret_str {a b : List UInt8} (h : a = b) : Ending.returned (.string ⟨a.toArray⟩) = .returned (.string ⟨b.toArray⟩) := by rw [h]

/-- s[lo:hi] of a string. -/
theorem run_cut {P : Program} {t : TypeId} (h : P.underlying t = some .string) {l l' : List UInt8} {lo hi : Int} (h0 : 0 ≤ lo) (h1 : lo ≤ hi) (h2 : hi ≤ l.length) (hl : l' = (l.drop lo.toNat).take (hi.toNat - lo.toNat)) (w : World) :
    (Instr.slice t (.string ⟨l.toArray⟩) (some (.int .i64 lo)) (some (.int .i64 hi)) none).run P w = .ok (.string ⟨l'.toArray⟩) w := by
  rw [run_slice_string w t ⟨l.toArray⟩ .i64 .i64 lo hi h h0 h1 (by show hi ≤ (l.toArray.size : Int); simpa using h2), ByteArray.extract_mk, hl]

theorem ext_from (l : List UInt8) (k : Nat) : (⟨l.toArray⟩ : ByteArray).extract k l.length = ⟨(l.drop k).toArray⟩ := by
  rw [ByteArray.extract_mk, List.take_of_length_le (by simp)]
theorem ext_cut (l : List UInt8) (a b : Nat) : (⟨l.toArray⟩ : ByteArray).extract a b = ⟨((l.drop a).take (b - a)).toArray⟩ := ByteArray.extract_mk l a b
/-- s[lo:] of a string. -/
theorem run_from {P : Program} {t : TypeId} (h : P.underlying t = some .string) {l l' : List UInt8} {lo : Int} (h0 : 0 ≤ lo) (h2 : lo ≤ l.length) (hl : l' = l.drop lo.toNat) (w : World) :
    (Instr.slice t (.string ⟨l.toArray⟩) (some (.int .i64 lo)) none none).run P w = .ok (.string ⟨l'.toArray⟩) w := by
  have hb : 0 ≤ lo ∧ lo ≤ ((⟨l.toArray⟩ : ByteArray).size : Int) := ⟨h0, by show lo ≤ (l.toArray.size : Int); simpa using h2⟩
  simp only [run_slice_string_from_if w t ⟨l.toArray⟩ .i64 lo h]
  rw [if_pos (by first | exact hb | exact hb.2)]
  rw [ByteArray.extract_mk, hl, show (⟨l.toArray⟩ : ByteArray).size = l.length from by show l.toArray.size = _; simp, List.take_of_length_le (by simp)]

theorem cloneLite_any (s : ByteArray) (w : World) (hs : s.size ≤ 281474976710656) :
    Calls Tryd.prog 105 #[.string s] w fun e w' => e = .returned (.string s) ∧ Below w.heap.size w w' :=
  AnyPu.stringslite_Clone Tryd.laysPu25 s w hs

set_option maxHeartbeats 400000 in
theorem clone_any (l : List UInt8) (w : World) (hs : l.length ≤ 281474976710656) :
    Calls Tryd.prog 97 #[.string ⟨l.toArray⟩] w fun e w' => e = .returned (.string ⟨l.toArray⟩) ∧ Below w.heap.size w w' := by
  go_enter Tryd.func97, Tryd.ntmps97
  go_wp2_with fail
  refine (cloneLite_any ⟨l.toArray⟩ _ (by show l.toArray.size ≤ _; simpa using hs)).mono ?_
  rintro e w' ⟨rfl, hb⟩
  go_wp2
  go_ret
  exact ⟨rfl, hb⟩
/-- Nothing but draws. -/
def Drew (w w' : World) : Prop := ∃ n, w' = w.drewN n
theorem Drew.refl (w : World) : Drew w w := ⟨0, rfl⟩
theorem Drew.below {B : Nat} {w w' : World} (h : Drew w w') : Below B w w' := by
  obtain ⟨n, rfl⟩ := h
  exact ⟨rfl, rfl, rfl, Nat.le_refl _, fun _ _ => rfl⟩

theorem Drew.drewN {w w' : World} (h : Drew w w') (k : Nat) : Drew w (w'.drewN k) := by
  obtain ⟨n, rfl⟩ := h
  exact ⟨n + k, World.drewN_drewN _ _ _⟩
theorem Drew.trans {w w1 w' : World} (h : Drew w w1) (h' : Drew w1 w') : Drew w w' := by
  obtain ⟨k, rfl⟩ := h'
  exact h.drewN k

theorem infoByte : (Tryd.prog.info? 5).map (fun i => (i.zero, i.size, i.bytes)) = some (some (.int .u8 0), 1, 1) := by kernel_rfl
theorem infoStr : (Tryd.prog.info? 9).map (fun i => (i.zero, i.size, i.bytes)) = some (some (.string ⟨#[]⟩), 1, 16) := by kernel_rfl
theorem infoInt : (Tryd.prog.info? 3).map (fun i => (i.zero, i.size, i.bytes)) = some (some (.int .i64 0), 1, 8) := by kernel_rfl

def encS (l : List UInt8) : Value := .string ⟨l.toArray⟩
theorem encS_one (l : List UInt8) : (encS l).oneCell' = true := rfl
theorem encI_one (x : Nat) : (encI x).oneCell' = true := rfl

/-- A slice of strings that is read: from an address on, or nil. -/
structure ReadS (v : Value) (ls : List (List UInt8)) (W : World) : Prop where
  form : ∃ ao cap, v = .slice ao ls.length cap ∧ ∀ (j : Nat) (h : j < ls.length), ∃ b off, ao = some ⟨b, off, none⟩ ∧ W.cell? ⟨b, off + j, none⟩ = some (encS ls[j])

/-- A slice of what the call owns, made with room. -/
theorem run_make0 {P : Program} {t e : TypeId} {z : Value} {bytes : Nat} (h1 : P.underlying t = some (.slice e)) (h2 : (P.info? e).map (fun i => (i.zero, i.size, i.bytes)) = some (some z, 1, bytes)) (c : Nat) (hc : bytes * c ≤ 281474976710656) (hc1 : c ≤ 1000000) (_hz : z.cells.size = 1) (W : World) :
    ∃ cur : Array Value, (Instr.makeSlice t (.int .i64 0) (.int .i64 (c : Int))).run P W = .ok (.slice (some ⟨W.heap.size, 0, none⟩) 0 c) (W.alloc (.cells cur e)) ∧ cur.size = c * 1 := by
  obtain ⟨i, hi, hz0, hz1, hz2⟩ := info_parts h2
  have hci : (c : Int) ≤ 9223372036854775807 := by omega
  have h := run_make (P := P) W t e i z h1 hi hz0 .i64 .i64 0 (c : Int) (by omega) (by omega) (by rw [hz2, ← Int.natCast_mul]; generalize bytes * c = p at hc; omega) hci
  refine ⟨madeCells z.cells ((c : Int).toNat * i.size), ?_, ?_⟩
  · rw [h]; rfl
  · rw [size_madeCells, hz1]; simp

theorem run_make0_all {P : Program} {t e : TypeId} {z : Value} {bytes : Nat} (h1 : P.underlying t = some (.slice e)) (h2 : (P.info? e).map (fun i => (i.zero, i.size, i.bytes)) = some (some z, 1, bytes)) (c : Nat) (hc : bytes * c ≤ 281474976710656) (hc1 : c ≤ 1000000) (_hz : z.cells.size = 1) :
    ∃ cur : Array Value, (∀ W : World, (Instr.makeSlice t (.int .i64 0) (.int .i64 (c : Int))).run P W = .ok (.slice (some ⟨W.heap.size, 0, none⟩) 0 c) (W.alloc (.cells cur e))) ∧ cur.size = c * 1 := by
  obtain ⟨i, hi, hz0, hz1, hz2⟩ := info_parts h2
  have hci : (c : Int) ≤ 9223372036854775807 := by omega
  have hcb : (i.bytes : Int) * (c : Int) ≤ 281474976710656 := by rw [hz2, ← Int.natCast_mul]; generalize bytes * c = p at hc; omega
  exact ⟨madeCells z.cells ((c : Int).toNat * i.size), fun W => run_make (P := P) W t e i z h1 hi hz0 .i64 .i64 0 (c : Int) (by omega) (by omega) hcb hci, by rw [size_madeCells, hz1]; simp⟩

/-- What a call that makes memory leaves as it was. -/
theorem bcell {W w1 : World} (hb : Below W.heap.size W w1) : (∀ b o, b < W.heap.size → w1.cell? ⟨b, o, none⟩ = W.cell? ⟨b, o, none⟩) ∧ (∀ b o, b < W.heap.size → w1.frozen? ⟨b, o, none⟩ = W.frozen? ⟨b, o, none⟩) :=
  ⟨fun b o h => hb.cell (p := ⟨b, o, none⟩) h, fun b o h => hb.frozen (p := ⟨b, o, none⟩) h⟩
theorem bcell1 {B : Nat} {W w1 : World} (hb : Below (B + 1) W w1) : (∀ o, w1.cell? ⟨B, o, none⟩ = W.cell? ⟨B, o, none⟩) ∧ (∀ o, w1.frozen? ⟨B, o, none⟩ = W.frozen? ⟨B, o, none⟩) :=
  ⟨fun o => hb.cell (p := ⟨B, o, none⟩) (Nat.lt_succ_self B), fun o => hb.frozen (p := ⟨B, o, none⟩) (Nat.lt_succ_self B)⟩
theorem ko_below {W W' : World} (h : Below W.heap.size W W') : KeepsOthers W W' := ⟨h.size, fun k _ hk _ => (h.block k (Array.getElem?_eq_some_iff.1 hk).1).trans hk⟩
theorem boxed_below {B : Nat} {t : TypeId} {v : Value} {W W' : World} (hb : Boxed W B t v) (h : Below W.heap.size W W') : Boxed W' B t v := (h.block B hb.lt).trans hb
/-- What lies behind the end of a loop over a function. -/
theorem boxed_putD {B D : Nat} {t : TypeId} {v : Value} {W : World} (hb : Boxed W B t v) {o : Obj} (hK : W.heap[D]? = some o) (ho : o.isCells = false) (o' : Obj) : Boxed (W.putObj D o') B t v :=
  hb.kept (grownBy_putObj' W D o') (fun e => by cases e; rw [show W.heap[B]? = _ from hb] at hK; cases hK; cases ho)
theorem below_putD {D : Nat} {w W : World} (h : Below w.heap.size w W) (hD : w.heap.size ≤ D) {o : Obj} (hK : W.heap[D]? = some o) (ho : o.isCells = false) (hw : o.isWalk = false) (o' : Obj) : Below w.heap.size w (W.putObj D o') :=
  h.trans (belowK_b (w := w) (Nat.le_refl _) W D o o' hD hK ho hw)
theorem readS_below {v : Value} {L : List (List UInt8)} {W W' : World} (h : ReadS v L W) (hb : Below W.heap.size W W') : ReadS v L W' := by
  obtain ⟨ao, cap, rfl, hc⟩ := h.form
  exact ⟨ao, cap, rfl, fun j hj => by
    obtain ⟨b, off, e, c⟩ := hc j hj
    exact ⟨b, off, e, (hb.cell (cell_lt c)).trans c⟩⟩
theorem readS_two (W : World) (x y : List UInt8) (t : TypeId) : ReadS (.slice (some ⟨W.heap.size, 0, none⟩) 2 2) [x, y] (W.alloc (.cells #[.string ⟨x.toArray⟩, .string ⟨y.toArray⟩] t)) := by
  refine ⟨some ⟨W.heap.size, 0, none⟩, 2, rfl, fun j hj => ⟨W.heap.size, 0, rfl, ?_⟩⟩
  have h := cells_new W [.string ⟨x.toArray⟩, .string ⟨y.toArray⟩] t j (encS ([x, y][j]'hj))
  have e : (⟨W.heap.size, 0, none⟩ : Addr).add j = ⟨W.heap.size, 0 + j, none⟩ := by unfold Addr.add; split <;> simp_all
  rw [e] at h
  refine h ?_
  match j, hj with
  | 0, _ => rfl
  | 1, _ => rfl

structure ReadI (v : Value) (zs : List Int) (W : World) : Prop where
  form : ∃ ao cap, v = .slice ao zs.length cap ∧ ∀ (j : Nat) (h : j < zs.length), ∃ b off, ao = some ⟨b, off, none⟩ ∧ W.cell? ⟨b, off + j, none⟩ = some (.int .i64 zs[j])
structure ReadB (v : Value) (l : List UInt8) (W : World) : Prop where
  form : ∃ ao cap, v = .slice ao l.length cap ∧ ∀ (j : Nat) (h : j < l.length), ∃ b off, ao = some ⟨b, off, none⟩ ∧ W.cell? ⟨b, off + j, none⟩ = some (encB l[j])

theorem app_bytes (a b : List UInt8) : (⟨a.toArray⟩ : ByteArray) ++ ⟨b.toArray⟩ = ⟨(a ++ b).toArray⟩ := by apply ByteArray.ext; simp [ByteArray.data_append]
/-- string of a fresh list of bytes. -/
theorem run_lit_str (l : List UInt8) (vs : List Value) (hv : l.map encB = vs) (W : World) :
    (convert 34 9 (.slice (some ⟨W.heap.size, 0, none⟩) l.length l.length)).run Tryd.prog (W.alloc (.cells vs.toArray 5)) = .ok (.string ⟨l.toArray⟩) (W.alloc (.cells vs.toArray 5)) := by
  subst hv
  exact run_convert_bytes_back (P := Tryd.prog) _ 34 9 5 ⟨W.heap.size, 0, none⟩ l.length l Tryd.underlying34 Tryd.underlying5 Tryd.underlying9 (fun j hj => cells_new W (l.map encB) 5 j (encB l[j]) (by simp [hj]))
theorem run_arg_str {v : Value} {l : List UInt8} {W : World} (h : ReadB v l W) (hne : l ≠ []) : (convert 34 9 v).run Tryd.prog W = .ok (.string ⟨l.toArray⟩) W := by
  obtain ⟨ao, cap, rfl, hc⟩ := h.form
  cases l with
  | nil => exact absurd rfl hne
  | cons c l =>
    obtain ⟨b, off, rfl, _⟩ := hc 0 (by simp)
    exact run_convert_bytes_back (P := Tryd.prog) W 34 9 5 ⟨b, off, none⟩ cap (c :: l) Tryd.underlying34 Tryd.underlying5 Tryd.underlying9 (fun j hj => by
      obtain ⟨b', off', e, c1⟩ := hc j hj
      cases e
      have e2 : (⟨b, off, none⟩ : Addr).add j = ⟨b, off + j, none⟩ := by unfold Addr.add; split <;> simp_all
      rw [e2]; exact c1)
theorem readB_below {v : Value} {l : List UInt8} {W W' : World} (h : ReadB v l W) (hb : Below W.heap.size W W') : ReadB v l W' := by
  obtain ⟨ao, cap, rfl, hc⟩ := h.form
  exact ⟨ao, cap, rfl, fun j hj => by
    obtain ⟨b, off, e, c⟩ := hc j hj
    exact ⟨b, off, e, (hb.cell (cell_lt c)).trans c⟩⟩

theorem nbeqI {a b : UInt8} (h : a ≠ b) : ((a.toNat : Int) == (b.toNat : Int)) = false := by rw [beq_eq_false_iff_ne]; intro e; exact h (by rw [← UInt8.toNat_inj]; exact Int.ofNat.inj e)
end Go.Proofs.YtdbaocphglijbaaDoor
