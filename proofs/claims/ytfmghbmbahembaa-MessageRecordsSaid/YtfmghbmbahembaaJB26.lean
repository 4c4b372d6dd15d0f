/- A reader of a message: number, two, name. -/
import Derived.Test.YtfmghbmbahembaaJB14
import Derived.Test.YtfmghbmbahembaaJB25
/- A reader of a message: number, two, name. -/
namespace Go.Proofs.Ytfmghbmbahembaa
open Go.RowKit Go.Shelf
attribute [local go_sem] Oper.semAt_some

def numL (l : List UInt8) : Nat := l.foldl (fun v c => v * 256 + c.toNat) 0
theorem numL_snoc (l : List UInt8) (c : UInt8) : numL (l ++ [c]) = numL l * 256 + c.toNat := by unfold numL; rw [List.foldl_append]; rfl
theorem numL_lt : ∀ (n : Nat) (l : List UInt8), l.length = n → numL l < 256 ^ n
  | 0, l, h => by obtain rfl := List.length_eq_zero_iff.1 h; decide
  | n + 1, l, h => by
    have hne : l ≠ [] := by rintro rfl; simp at h
    rw [← List.dropLast_concat_getLast hne, numL_snoc]
    have := numL_lt n l.dropLast (by rw [List.length_dropLast]; omega)
    have h2 := (l.getLast hne).toNat_lt
    rw [Nat.pow_succ]
    omega
theorem numL_le3 (l : List UInt8) (h : l.length ≤ 3) : numL l < 16777216 := by
  have h1 := numL_lt l.length l rfl
  have h2 : 256 ^ l.length ≤ 256 ^ 3 := Nat.pow_le_pow_right (by decide) h
  omega

set_option maxRecDepth 100000 in
set_option maxHeartbeats 1000000 in
theorem dnum_of (B : Nat) (b : List UInt8) (bv : Value) (k : Int) (l : List UInt8) (s' : Option Nat) (w : World) (hl : l.length ≤ 4)
    (C : Calls Try.prog 89 #[.pointer (some ⟨B, 0, none⟩), .int .i64 k] w (BytesRet B b bv l s' w)) :
    Calls Try.prog 75 #[.pointer (some ⟨B, 0, none⟩), .int .i64 k] w (RdRet B b bv (.int .i64 (numL l : Int)) s' w) := by
  have HC := Lib.hid C
  clear C
  go_enter Try.func75, Try.ntmps75
  go_wp2_with fail
  refine HC.out.mono ?_
  rintro e w1 ⟨v, rfl, hr, hT, hR⟩
  obtain ⟨ao, cap, rfl, hc⟩ := hr.form
  have HT := Lib.hid hT
  have HR := Lib.hid hR
  have HCC := Lib.hid hc
  clear hr hT hR hc
  go_wp2_with fail
  go_loop [5, 12] (fun v i => ∃ j : Nat, i = .int .i64 (j : Int) ∧ j ≤ l.length ∧ v = .int .i64 (numL (l.take j) : Int)) (fun _ i => l.length + 1 - (intOf i).toNat)
  case atStart => exact ⟨0, rfl, by omega, rfl⟩
  case round =>
    obtain ⟨j, rfl, hj, rfl⟩ := hrel
    by_cases hlt : j < l.length
    · obtain ⟨g, off, rfl, c1⟩ := HCC.out j hlt
      have hlen : (l.take j).length ≤ 3 := by rw [List.length_take]; omega
      have hb1 := numL_le3 _ hlen
      have HS : Hid (numL (l.take (j + 1)) = numL (l.take j) * 256 + l[j].toNat) := Lib.hid (by rw [List.take_succ_eq_append_getElem hlt, numL_snoc])
      obtain ⟨z, hz⟩ : ∃ z, numL (l.take j) = z := ⟨_, rfl⟩
      obtain ⟨c, hcc⟩ : ∃ c, l[j] = c := ⟨_, rfl⟩
      rw [hcc] at c1 HS
      rw [hz] at hb1 HS ⊢
      unfold encB at c1
      have hc255 := c.toNat_lt
      have h8 : bits .or .i64 ((z : Int) * 256) (c.toNat : Int) = (z : Int) * 256 + (c.toNat : Int) := or8 _ _ (by omega) (by omega) (by omega) (by omega) (by omega)
      have H8 := Lib.hid h8
      clear hz hcc hlen h8
      go_wp2_with fail
      go_round
      case rel => exact ⟨j + 1, by go_num, by omega, by rw [HS.out, H8.out]; congr 1⟩
      case measure => simp [intOf]; omega
    · obtain rfl : j = l.length := by omega
      have H : Hid (numL (l.take l.length) = numL l) := Lib.hid (by rw [List.take_length])
      go_wp2_with fail
      go_ret
      exact ⟨rfl, HT.out, HR.out⟩

/-- What a number of k bytes is, and where it ends. -/
def numAt (b : List UInt8) (s : Option Nat) (k : Nat) : Nat := match s with
  | some p => if p + k ≤ b.length then numL ((b.drop p).take k) else 0
  | none => 0
def numTo (b : List UInt8) (s : Option Nat) (k : Nat) : Option Nat := match s with
  | some p => if p + k ≤ b.length then some (p + k) else none
  | none => none
theorem dnum_any (B : Nat) (b : List UInt8) (bv : Value) (s : Option Nat) (k : Nat) (w : World) (h : RdS B b bv s w) (hcap : CapOk bv) (hlen : b.length ≤ 100000) (hk : k ≤ 4) :
    Calls Try.prog 75 #[.pointer (some ⟨B, 0, none⟩), .int .i64 (k : Int)] w (RdRet B b bv (.int .i64 (numAt b s k : Int)) (numTo b s k) w) := by
  cases s with
  | some p =>
    by_cases hp : p + k ≤ b.length
    · have e1 : numAt b (some p) k = numL ((b.drop p).take k) := if_pos hp
      have e2 : numTo b (some p) k = some (p + k) := if_pos hp
      rw [e1, e2]
      exact dnum_of B b bv k _ _ w (by rw [List.length_take]; omega) (dbytes_yes B b bv p k w h hcap hlen hp)
    · have e1 : numAt b (some p) k = 0 := if_neg hp
      have e2 : numTo b (some p) k = none := if_neg hp
      rw [e1, e2]
      exact dnum_of B b bv k [] none w (by simp) (dbytes_no B b bv (some p) k w h hlen (fun q hq => by cases hq; exact .inr (by omega)))
  | none => exact dnum_of B b bv k [] none w (by simp) (dbytes_no B b bv none k w h hlen (fun q hq => by cases hq))
/-- Two bytes, if they are there. -/
def twoAt (b : List UInt8) (s : Option Nat) : Nat := (s.bind (Ms.two? b)).getD 0
def twoTo (b : List UInt8) (s : Option Nat) : Option Nat := s.bind fun p => (Ms.two? b p).map fun _ => p + 2
theorem two_some {b : List UInt8} {p : Nat} (h : p + 2 ≤ b.length) : Ms.two? b p = some (b[p].toNat * 256 + b[p + 1].toNat) := by
  unfold Ms.two?
  rw [List.getElem?_eq_getElem (show p < b.length by omega), List.getElem?_eq_getElem (show p + 1 < b.length by omega)]
theorem two_off {b : List UInt8} {p : Nat} (h : ¬ p + 2 ≤ b.length) : Ms.two? b p = none := by
  unfold Ms.two?
  cases b[p]? with
  | none => rfl
  | some x => rw [List.getElem?_eq_none (by omega)]
theorem numAt_two (b : List UInt8) (s : Option Nat) : numAt b s 2 = twoAt b s := by
  cases s with
  | none => rfl
  | some p =>
    unfold numAt twoAt
    simp only [Option.bind_some]
    by_cases h : p + 2 ≤ b.length
    · rw [if_pos h, two_some h, Option.getD_some]
      rw [List.drop_eq_getElem_cons (show p < b.length by omega), List.drop_eq_getElem_cons (show p + 1 < b.length by omega)]
      simp only [List.take_succ_cons, List.take_zero, numL, List.foldl_cons, List.foldl_nil, Nat.zero_mul, Nat.zero_add]
    · rw [if_neg h, two_off h]; rfl
theorem numTo_two (b : List UInt8) (s : Option Nat) : numTo b s 2 = twoTo b s := by
  cases s with
  | none => rfl
  | some p =>
    unfold numTo twoTo
    simp only [Option.bind_some]
    by_cases h : p + 2 ≤ b.length
    · rw [if_pos h, two_some h]; rfl
    · rw [if_neg h, two_off h]; rfl
set_option maxHeartbeats 400000 in
theorem dtwo_any (B : Nat) (b : List UInt8) (bv : Value) (s : Option Nat) (w : World) (h : RdS B b bv s w) (hcap : CapOk bv) (hlen : b.length ≤ 100000) :
    Calls Try.prog 56 #[.pointer (some ⟨B, 0, none⟩)] w (RdRet B b bv (.int .i64 (twoAt b s : Int)) (twoTo b s) w) := by
  have C := dnum_any B b bv s 2 w h hcap hlen (by decide)
  rw [numAt_two, numTo_two] at C
  have HC := Lib.hid C
  clear C
  go_enter Try.func56, Try.ntmps56
  go_wp2_with fail
  refine HC.out.mono ?_
  rintro e w1 ⟨rfl, hT, hR⟩
  have HT := Lib.hid hT
  have HR := Lib.hid hR
  clear hT hR
  go_wp2_with fail
  go_ret
  exact ⟨rfl, HT.out, HR.out⟩

/-! ### A name -/
def nameAt (b : List UInt8) (s : Option Nat) : List UInt8 := ((s.bind fun p => Wn.get b (p : Int)).map (·.1)).getD []
def nameTo (b : List UInt8) (s : Option Nat) : Option Nat := (s.bind fun p => Wn.get b (p : Int)).map (·.2)
theorem getF_le (b : List UInt8) : ∀ (f p : Nat) {x : List UInt8 × Nat}, Wn.getF b f p = some x → p < x.2 ∧ x.2 ≤ b.length
  | 0, _, _, h => by cases h
  | f + 1, p, x, h => by
    simp only [Wn.getF] at h
    cases he : Wn.eol b p with
    | none => rw [he] at h; cases h
    | some e =>
      rw [he] at h
      obtain ⟨hpe, hel, _⟩ := Wn.eol_some he
      simp only at h
      split at h
      · cases h; exact ⟨by show p < e + 1; omega, hel⟩
      · cases hp : Wn.ptr b e with
        | none => rw [hp] at h; cases h
        | some t =>
          rw [hp] at h
          simp only at h
          split at h
          · obtain ⟨y, _, rfl⟩ := Option.map_eq_some_iff.1 h
            have : e + 1 < b.length := by
              rcases Nat.lt_or_ge (e + 1) b.length with h1 | h1
              · exact h1
              · rw [Wn.ptr_none h1] at hp; cases hp
            exact ⟨by show p < e + 2; omega, this⟩
          · cases h
theorem get_le {b : List UInt8} {p : Nat} {x : List UInt8 × Nat} (h : Wn.get b (p : Int) = some x) : p < x.2 ∧ x.2 ≤ b.length := by
  rw [Wn.get_nat] at h
  cases hu : Wn.getU b p with
  | none => rw [hu] at h; cases h
  | some y =>
    have := getF_le b _ _ (show Wn.getF b (p + 1) p = some y from hu)
    obtain ⟨m, k⟩ := y
    rw [hu] at h
    by_cases hl : ([] ++ m).length ≤ 255
    · rw [Wn.fin_yes hl] at h; cases h; exact this
    · rw [Wn.fin_no hl] at h; cases h
theorem nameAt_none (b : List UInt8) : nameAt b none = [] := rfl
theorem nameTo_none (b : List UInt8) : nameTo b none = none := rfl
theorem nameAt_no {b : List UInt8} {p : Nat} (h : Wn.get b (p : Int) = none) : nameAt b (some p) = [] := by simp [nameAt, h]
theorem nameTo_no {b : List UInt8} {p : Nat} (h : Wn.get b (p : Int) = none) : nameTo b (some p) = none := by simp [nameTo, h]
theorem nameAt_yes {b : List UInt8} {p : Nat} {x : List UInt8 × Nat} (h : Wn.get b (p : Int) = some x) : nameAt b (some p) = x.1 := by simp [nameAt, h]
theorem nameTo_yes {b : List UInt8} {p : Nat} {x : List UInt8 × Nat} (h : Wn.get b (p : Int) = some x) : nameTo b (some p) = some x.2 := by simp [nameTo, h]
theorem nameTo_le {b : List UInt8} {s : Option Nat} {q : Nat} (h : nameTo b s = some q) : q ≤ b.length := by
  cases s with
  | none => cases h
  | some p =>
    cases hg : Wn.get b (p : Int) with
    | none => rw [nameTo_no hg] at h; cases h
    | some x => rw [nameTo_yes hg] at h; cases h; exact (get_le hg).2

set_option maxRecDepth 100000 in
set_option maxHeartbeats 2000000 in
theorem dname_some (B : Nat) (b : List UInt8) (bv : Value) (s : Option Nat) (p : Nat) (n : List UInt8) (nx : Nat) (w : World) (h : RdS B b bv s w) (hcap : CapOk bv) (hlen : b.length ≤ 100000) (hB : ∃ e, Block w B (rCells bv p e) 60) (hp : p ≤ b.length) (hG : Wn.get b (p : Int) = some (n, nx)) (hs : s = some p) :
    Calls Try.prog 58 #[.pointer (some ⟨B, 0, none⟩)] w (RdRet B b bv (.string ⟨n.toArray⟩) (some nx) w) := by
  subst hs
  obtain ⟨e, hB⟩ := hB
  have hc0 := hB.cell (i := 0) (v := bv) rfl
  have hc1 := hB.cell (i := 1) (v := .int .i64 (p : Int)) rfl
  have C := Lib.hid (fun W (hb : Below w.heap.size w W) => get_any b bv (p : Int) W (readB_below h.read hb) hcap hlen (by omega) (by omega))
  rw [hG] at C
  simp only [getRet] at C
  have CN := Lib.hid (fun W (hb : RdS B b bv (some p) W) => dnote_any B b bv (some p) true W hb)
  simp only [errOf, if_true, after_true] at CN
  have HH := Lib.hid h
  have HG := Lib.hid hG
  have dW := (Below.refl w.heap.size w).drew
  replace hc0 := keep_cell dW hc0
  replace hc1 := keep_cell dW hc1
  clear h hB hG dW
  go_enter Try.func58, Try.ntmps58
  go_wp2_with fail
  refine wp_region_slots slotLe (slotPhi ((fun v _ => v = ?sn7) :: (fun v _ => v = ?sn8) :: (fun v _ => v = ?sn9) :: (fun v _ => v = ?sn10) :: (fun v _ => v = ?sn11) :: (fun v _ => v = ?sn12) :: (fun v _ => v = ?sn13) :: (fun v _ => v = ?sn14) :: (fun v _ => v = ?sn15) :: (fun v _ => v = ?sn6) :: (fun v _ => v = ?sn16) :: (fun v _ => v = ?sn17) :: (fun v _ => v = ?sn18) :: (fun v _ => v = ?sn3) :: (fun v _ => v = ?sn4) :: (fun v _ => v = ?sn5) :: [])) slotLe_refl slotLe_trans (slotPhi_stable ?stb) (by kernel_rfl) (by kernel_rfl) (by kernel_rfl) ?steps ?fin
  case stb =>
    refine ⟨by intro _ _ _ _ h; exact h, ?_⟩
    refine ⟨by intro _ _ _ _ h; exact h, ?_⟩
    refine ⟨by intro _ _ _ _ h; exact h, ?_⟩
    refine ⟨by intro _ _ _ _ h; exact h, ?_⟩
    refine ⟨by intro _ _ _ _ h; exact h, ?_⟩
    refine ⟨by intro _ _ _ _ h; exact h, ?_⟩
    refine ⟨by intro _ _ _ _ h; exact h, ?_⟩
    refine ⟨by intro _ _ _ _ h; exact h, ?_⟩
    refine ⟨by intro _ _ _ _ h; exact h, ?_⟩
    refine ⟨by intro _ _ _ _ h; exact h, ?_⟩
    refine ⟨by intro _ _ _ _ h; exact h, ?_⟩
    refine ⟨by intro _ _ _ _ h; exact h, ?_⟩
    refine ⟨by intro _ _ _ _ h; exact h, ?_⟩
    refine ⟨by intro _ _ _ _ h; exact h, ?_⟩
    refine ⟨by intro _ _ _ _ h; exact h, ?_⟩
    refine ⟨by intro _ _ _ _ h; exact h, ?_⟩
    exact trivial
  case steps =>
    refine ⟨?_, ?_⟩
    · intro a W K N hK
      have e0 : a.tmps[0]?.getD undef = .pointer (some ⟨B, 0, none⟩) := N.was' 0 _ (by kernel_rfl) rfl
      rw [if_pos (wanted_no rfl)]
      go_simp
      refine hK _ _ (slotLe_refl _) ?_
      exact rfl
    refine ⟨?_, ?_⟩
    · intro a W K N hK
      have e7 : a.tmps[7]?.getD undef = _ := N.dep' 0 7 (by kernel_rfl)
      rw [if_pos (wanted_no rfl)]
      go_simp
      refine hK _ _ (slotLe_refl _) ?_
      exact rfl
    refine ⟨?_, ?_⟩
    · intro a W K N hK
      have e8 : a.tmps[8]?.getD undef = _ := N.dep' 1 8 (by kernel_rfl)
      rw [if_pos (wanted_no rfl)]
      go_simp
      refine hK _ _ (slotLe_refl _) ?_
      exact rfl
    refine ⟨?_, ?_⟩
    · intro a W K N hK
      have e9 : a.tmps[9]?.getD undef = _ := N.dep' 2 9 (by kernel_rfl)
      rw [if_pos (wanted_no rfl)]
      have z0 := keep_cell N.le hc0
      go_simp
      refine hK _ _ (slotLe_refl _) ?_
      exact rfl
    refine ⟨?_, ?_⟩
    · intro a W K N hK
      have e0 : a.tmps[0]?.getD undef = .pointer (some ⟨B, 0, none⟩) := N.was' 0 _ (by kernel_rfl) rfl
      rw [if_pos (wanted_no rfl)]
      go_simp
      refine hK _ _ (slotLe_refl _) ?_
      exact rfl
    refine ⟨?_, ?_⟩
    · intro a W K N hK
      have e11 : a.tmps[11]?.getD undef = _ := N.dep' 4 11 (by kernel_rfl)
      rw [if_pos (wanted_no rfl)]
      go_simp
      refine hK _ _ (slotLe_refl _) ?_
      exact rfl
    refine ⟨?_, ?_⟩
    · intro a W K N hK
      have e12 : a.tmps[12]?.getD undef = _ := N.dep' 5 12 (by kernel_rfl)
      rw [if_pos (wanted_no rfl)]
      go_simp
      refine hK _ _ (slotLe_refl _) ?_
      exact rfl
    refine ⟨?_, ?_⟩
    · intro a W K N hK
      have e13 : a.tmps[13]?.getD undef = _ := N.dep' 6 13 (by kernel_rfl)
      rw [if_pos (wanted_no rfl)]
      have z0 := keep_cell N.le hc1
      go_simp
      refine hK _ _ (slotLe_refl _) ?_
      exact rfl
    refine ⟨?_, ?_⟩
    · intro a W K N hK
      have e10 : a.tmps[10]?.getD undef = _ := N.dep' 3 10 (by kernel_rfl)
      have e14 : a.tmps[14]?.getD undef = _ := N.dep' 7 14 (by kernel_rfl)
      rw [if_pos (wanted_no rfl)]
      go_simp
      refine (C.out _ (below_undrew N.le)).mono ?_
      rintro e w4 ⟨rfl, b4⟩
      refine hK _ _ b4 ?_
      exact rfl
    refine ⟨?_, ?_⟩
    · intro a W K N hK
      have e15 : a.tmps[15]?.getD undef = _ := N.dep' 8 15 (by kernel_rfl)
      rw [if_pos (wanted_no rfl)]
      go_simp
      refine hK _ _ (slotLe_refl _) ?_
      exact rfl
    refine ⟨?_, ?_⟩
    · intro a W K N hK
      have e6 : a.tmps[6]?.getD undef = _ := N.dep' 9 6 (by kernel_rfl)
      rw [if_pos (wanted_no rfl)]
      go_simp
      refine hK _ _ (slotLe_refl _) ?_
      exact rfl
    refine ⟨?_, ?_⟩
    · intro a W K N hK
      have e6 : a.tmps[6]?.getD undef = _ := N.dep' 9 6 (by kernel_rfl)
      rw [if_pos (wanted_no rfl)]
      go_simp
      refine hK _ _ (slotLe_refl _) ?_
      exact rfl
    refine ⟨?_, ?_⟩
    · intro a W K N hK
      have e6 : a.tmps[6]?.getD undef = _ := N.dep' 9 6 (by kernel_rfl)
      rw [if_pos (wanted_no rfl)]
      go_simp
      refine hK _ _ (slotLe_refl _) ?_
      exact rfl
    refine ⟨?_, ?_⟩
    · intro a W K N hK
      have e16 : a.tmps[16]?.getD undef = _ := N.dep' 10 16 (by kernel_rfl)
      rw [if_pos (wanted_no rfl)]
      go_simp
      refine hK _ _ (slotLe_refl _) ?_
      exact rfl
    refine ⟨?_, ?_⟩
    · intro a W K N hK
      have e17 : a.tmps[17]?.getD undef = _ := N.dep' 11 17 (by kernel_rfl)
      rw [if_pos (wanted_no rfl)]
      go_simp
      refine hK _ _ (slotLe_refl _) ?_
      exact rfl
    refine ⟨?_, ?_⟩
    · intro a W K N hK
      have e18 : a.tmps[18]?.getD undef = _ := N.dep' 12 18 (by kernel_rfl)
      rw [if_pos (wanted_no rfl)]
      go_simp
      refine hK _ _ (slotLe_refl _) ?_
      exact rfl
    exact trivial
  case fin =>
    intro W1 hW1
    simp only [FinAll, slotPhi, List.getD_cons_zero, List.getD_cons_succ, forall_eq, Act.put, List.setIfInBounds_toArray, List.set_cons_zero, List.set_cons_succ]
    have bW := below_undrew hW1
    have hN := CN.out _ (HH.out.below bW)
    have HN := Lib.hid hN
    clear hc0 hc1 hN
    go_wp2_with fail
    refine HN.out.mono ?_
    rintro e w5 ⟨rfl, hT, hR⟩
    have HT := Lib.hid hT
    have HR := Lib.hid hR
    have hB5 := RdS.here hR
    have c5 := hB5.cell (i := 2) (v := .int .i64 0) rfl
    have c51 := hB5.cell (i := 1) (v := .int .i64 (p : Int)) rfl
    have f5 := hB5.frozen 1
    have HB5 := Lib.hid hB5
    clear hT hR hB5
    go_wp2_with fail
    go_ret
    have hB6 := HB5.out.set 1 (.int .i64 (nx : Int))
    rw [rCells1] at hB6
    exact ⟨rfl, ((Turn.of_below bW).then HT.out).then (turn_block HB5.out _), RdS.of hB6 (get_le HG.out).2 (readB_set HR.out.read HB5.out HR.out.read)⟩
set_option maxRecDepth 100000 in
set_option maxHeartbeats 2000000 in
theorem dname_bad (B : Nat) (b : List UInt8) (bv : Value) (s : Option Nat) (p : Nat) (n : List UInt8) (nx : Nat) (w : World) (h : RdS B b bv s w) (hcap : CapOk bv) (hlen : b.length ≤ 100000) (hB : ∃ e, Block w B (rCells bv p e) 60) (hp : p ≤ b.length) (hG : Wn.get b (p : Int) = some (n, nx)) (hs : s = none) :
    Calls Try.prog 58 #[.pointer (some ⟨B, 0, none⟩)] w (RdRet B b bv (.string ⟨#[]⟩) none w) := by
  subst hs
  obtain ⟨e, hB⟩ := hB
  have hc0 := hB.cell (i := 0) (v := bv) rfl
  have hc1 := hB.cell (i := 1) (v := .int .i64 (p : Int)) rfl
  have C := Lib.hid (fun W (hb : Below w.heap.size w W) => get_any b bv (p : Int) W (readB_below h.read hb) hcap hlen (by omega) (by omega))
  rw [hG] at C
  simp only [getRet] at C
  have CN := Lib.hid (fun W (hb : RdS B b bv none W) => dnote_any B b bv none true W hb)
  simp only [errOf, if_true, after_true] at CN
  have HH := Lib.hid h
  have HG := Lib.hid hG
  have dW := (Below.refl w.heap.size w).drew
  replace hc0 := keep_cell dW hc0
  replace hc1 := keep_cell dW hc1
  clear h hB hG dW
  go_enter Try.func58, Try.ntmps58
  go_wp2_with fail
  refine wp_region_slots slotLe (slotPhi ((fun v _ => v = ?sn7) :: (fun v _ => v = ?sn8) :: (fun v _ => v = ?sn9) :: (fun v _ => v = ?sn10) :: (fun v _ => v = ?sn11) :: (fun v _ => v = ?sn12) :: (fun v _ => v = ?sn13) :: (fun v _ => v = ?sn14) :: (fun v _ => v = ?sn15) :: (fun v _ => v = ?sn6) :: (fun v _ => v = ?sn16) :: (fun v _ => v = ?sn17) :: (fun v _ => v = ?sn18) :: (fun v _ => v = ?sn3) :: (fun v _ => v = ?sn4) :: (fun v _ => v = ?sn5) :: [])) slotLe_refl slotLe_trans (slotPhi_stable ?stb) (by kernel_rfl) (by kernel_rfl) (by kernel_rfl) ?steps ?fin
  case stb =>
    refine ⟨by intro _ _ _ _ h; exact h, ?_⟩
    refine ⟨by intro _ _ _ _ h; exact h, ?_⟩
    refine ⟨by intro _ _ _ _ h; exact h, ?_⟩
    refine ⟨by intro _ _ _ _ h; exact h, ?_⟩
    refine ⟨by intro _ _ _ _ h; exact h, ?_⟩
    refine ⟨by intro _ _ _ _ h; exact h, ?_⟩
    refine ⟨by intro _ _ _ _ h; exact h, ?_⟩
    refine ⟨by intro _ _ _ _ h; exact h, ?_⟩
    refine ⟨by intro _ _ _ _ h; exact h, ?_⟩
    refine ⟨by intro _ _ _ _ h; exact h, ?_⟩
    refine ⟨by intro _ _ _ _ h; exact h, ?_⟩
    refine ⟨by intro _ _ _ _ h; exact h, ?_⟩
    refine ⟨by intro _ _ _ _ h; exact h, ?_⟩
    refine ⟨by intro _ _ _ _ h; exact h, ?_⟩
    refine ⟨by intro _ _ _ _ h; exact h, ?_⟩
    refine ⟨by intro _ _ _ _ h; exact h, ?_⟩
    exact trivial
  case steps =>
    refine ⟨?_, ?_⟩
    · intro a W K N hK
      have e0 : a.tmps[0]?.getD undef = .pointer (some ⟨B, 0, none⟩) := N.was' 0 _ (by kernel_rfl) rfl
      rw [if_pos (wanted_no rfl)]
      go_simp
      refine hK _ _ (slotLe_refl _) ?_
      exact rfl
    refine ⟨?_, ?_⟩
    · intro a W K N hK
      have e7 : a.tmps[7]?.getD undef = _ := N.dep' 0 7 (by kernel_rfl)
      rw [if_pos (wanted_no rfl)]
      go_simp
      refine hK _ _ (slotLe_refl _) ?_
      exact rfl
    refine ⟨?_, ?_⟩
    · intro a W K N hK
      have e8 : a.tmps[8]?.getD undef = _ := N.dep' 1 8 (by kernel_rfl)
      rw [if_pos (wanted_no rfl)]
      go_simp
      refine hK _ _ (slotLe_refl _) ?_
      exact rfl
    refine ⟨?_, ?_⟩
    · intro a W K N hK
      have e9 : a.tmps[9]?.getD undef = _ := N.dep' 2 9 (by kernel_rfl)
      rw [if_pos (wanted_no rfl)]
      have z0 := keep_cell N.le hc0
      go_simp
      refine hK _ _ (slotLe_refl _) ?_
      exact rfl
    refine ⟨?_, ?_⟩
    · intro a W K N hK
      have e0 : a.tmps[0]?.getD undef = .pointer (some ⟨B, 0, none⟩) := N.was' 0 _ (by kernel_rfl) rfl
      rw [if_pos (wanted_no rfl)]
      go_simp
      refine hK _ _ (slotLe_refl _) ?_
      exact rfl
    refine ⟨?_, ?_⟩
    · intro a W K N hK
      have e11 : a.tmps[11]?.getD undef = _ := N.dep' 4 11 (by kernel_rfl)
      rw [if_pos (wanted_no rfl)]
      go_simp
      refine hK _ _ (slotLe_refl _) ?_
      exact rfl
    refine ⟨?_, ?_⟩
    · intro a W K N hK
      have e12 : a.tmps[12]?.getD undef = _ := N.dep' 5 12 (by kernel_rfl)
      rw [if_pos (wanted_no rfl)]
      go_simp
      refine hK _ _ (slotLe_refl _) ?_
      exact rfl
    refine ⟨?_, ?_⟩
    · intro a W K N hK
      have e13 : a.tmps[13]?.getD undef = _ := N.dep' 6 13 (by kernel_rfl)
      rw [if_pos (wanted_no rfl)]
      have z0 := keep_cell N.le hc1
      go_simp
      refine hK _ _ (slotLe_refl _) ?_
      exact rfl
    refine ⟨?_, ?_⟩
    · intro a W K N hK
      have e10 : a.tmps[10]?.getD undef = _ := N.dep' 3 10 (by kernel_rfl)
      have e14 : a.tmps[14]?.getD undef = _ := N.dep' 7 14 (by kernel_rfl)
      rw [if_pos (wanted_no rfl)]
      go_simp
      refine (C.out _ (below_undrew N.le)).mono ?_
      rintro e w4 ⟨rfl, b4⟩
      refine hK _ _ b4 ?_
      exact rfl
    refine ⟨?_, ?_⟩
    · intro a W K N hK
      have e15 : a.tmps[15]?.getD undef = _ := N.dep' 8 15 (by kernel_rfl)
      rw [if_pos (wanted_no rfl)]
      go_simp
      refine hK _ _ (slotLe_refl _) ?_
      exact rfl
    refine ⟨?_, ?_⟩
    · intro a W K N hK
      have e6 : a.tmps[6]?.getD undef = _ := N.dep' 9 6 (by kernel_rfl)
      rw [if_pos (wanted_no rfl)]
      go_simp
      refine hK _ _ (slotLe_refl _) ?_
      exact rfl
    refine ⟨?_, ?_⟩
    · intro a W K N hK
      have e6 : a.tmps[6]?.getD undef = _ := N.dep' 9 6 (by kernel_rfl)
      rw [if_pos (wanted_no rfl)]
      go_simp
      refine hK _ _ (slotLe_refl _) ?_
      exact rfl
    refine ⟨?_, ?_⟩
    · intro a W K N hK
      have e6 : a.tmps[6]?.getD undef = _ := N.dep' 9 6 (by kernel_rfl)
      rw [if_pos (wanted_no rfl)]
      go_simp
      refine hK _ _ (slotLe_refl _) ?_
      exact rfl
    refine ⟨?_, ?_⟩
    · intro a W K N hK
      have e16 : a.tmps[16]?.getD undef = _ := N.dep' 10 16 (by kernel_rfl)
      rw [if_pos (wanted_no rfl)]
      go_simp
      refine hK _ _ (slotLe_refl _) ?_
      exact rfl
    refine ⟨?_, ?_⟩
    · intro a W K N hK
      have e17 : a.tmps[17]?.getD undef = _ := N.dep' 11 17 (by kernel_rfl)
      rw [if_pos (wanted_no rfl)]
      go_simp
      refine hK _ _ (slotLe_refl _) ?_
      exact rfl
    refine ⟨?_, ?_⟩
    · intro a W K N hK
      have e18 : a.tmps[18]?.getD undef = _ := N.dep' 12 18 (by kernel_rfl)
      rw [if_pos (wanted_no rfl)]
      go_simp
      refine hK _ _ (slotLe_refl _) ?_
      exact rfl
    exact trivial
  case fin =>
    intro W1 hW1
    simp only [FinAll, slotPhi, List.getD_cons_zero, List.getD_cons_succ, forall_eq, Act.put, List.setIfInBounds_toArray, List.set_cons_zero, List.set_cons_succ]
    have bW := below_undrew hW1
    have hN := CN.out _ (HH.out.below bW)
    have HN := Lib.hid hN
    clear hc0 hc1 hN
    go_wp2_with fail
    refine HN.out.mono ?_
    rintro e w5 ⟨rfl, hT, hR⟩
    have HT := Lib.hid hT
    have HR := Lib.hid hR
    obtain ⟨q5, hB5, _⟩ := RdS.bad hR
    have c5 := hB5.cell (i := 2) (v := .int .i64 2) rfl
    clear hT hR hB5
    go_wp2_with fail
    go_ret
    exact ⟨rfl, (Turn.of_below bW).then HT.out, HR.out⟩
set_option maxRecDepth 100000 in
set_option maxHeartbeats 2000000 in
theorem dname_no (B : Nat) (b : List UInt8) (bv : Value) (s : Option Nat) (p : Nat) (_n : List UInt8) (_nx : Nat) (w : World) (h : RdS B b bv s w) (hcap : CapOk bv) (hlen : b.length ≤ 100000) (hB : ∃ e, Block w B (rCells bv p e) 60) (hp : p ≤ b.length) (hG : Wn.get b (p : Int) = none) :
    Calls Try.prog 58 #[.pointer (some ⟨B, 0, none⟩)] w (RdRet B b bv (.string ⟨#[]⟩) none w) := by
  obtain ⟨e, hB⟩ := hB
  have hc0 := hB.cell (i := 0) (v := bv) rfl
  have hc1 := hB.cell (i := 1) (v := .int .i64 (p : Int)) rfl
  have C := Lib.hid (fun W (hb : Below w.heap.size w W) => get_any b bv (p : Int) W (readB_below h.read hb) hcap hlen (by omega) (by omega))
  rw [hG] at C
  simp only [getRet] at C
  have CN := Lib.hid (fun W (hb : RdS B b bv s W) => dnote_any B b bv s false W hb)
  simp only [errOf, if_false, Bool.false_eq_true, after_false] at CN
  have HH := Lib.hid h
  have HG := Lib.hid hG
  have dW := (Below.refl w.heap.size w).drew
  replace hc0 := keep_cell dW hc0
  replace hc1 := keep_cell dW hc1
  clear h hB hG dW
  go_enter Try.func58, Try.ntmps58
  go_wp2_with fail
  refine wp_region_slots slotLe (slotPhi ((fun v _ => v = ?sn7) :: (fun v _ => v = ?sn8) :: (fun v _ => v = ?sn9) :: (fun v _ => v = ?sn10) :: (fun v _ => v = ?sn11) :: (fun v _ => v = ?sn12) :: (fun v _ => v = ?sn13) :: (fun v _ => v = ?sn14) :: (fun v _ => v = ?sn15) :: (fun v _ => v = ?sn6) :: (fun v _ => v = ?sn16) :: (fun v _ => v = ?sn17) :: (fun v _ => v = ?sn18) :: (fun v _ => v = ?sn3) :: (fun v _ => v = ?sn4) :: (fun v _ => v = ?sn5) :: [])) slotLe_refl slotLe_trans (slotPhi_stable ?stb) (by kernel_rfl) (by kernel_rfl) (by kernel_rfl) ?steps ?fin
  case stb =>
    refine ⟨by intro _ _ _ _ h; exact h, ?_⟩
    refine ⟨by intro _ _ _ _ h; exact h, ?_⟩
    refine ⟨by intro _ _ _ _ h; exact h, ?_⟩
    refine ⟨by intro _ _ _ _ h; exact h, ?_⟩
    refine ⟨by intro _ _ _ _ h; exact h, ?_⟩
    refine ⟨by intro _ _ _ _ h; exact h, ?_⟩
    refine ⟨by intro _ _ _ _ h; exact h, ?_⟩
    refine ⟨by intro _ _ _ _ h; exact h, ?_⟩
    refine ⟨by intro _ _ _ _ h; exact h, ?_⟩
    refine ⟨by intro _ _ _ _ h; exact h, ?_⟩
    refine ⟨by intro _ _ _ _ h; exact h, ?_⟩
    refine ⟨by intro _ _ _ _ h; exact h, ?_⟩
    refine ⟨by intro _ _ _ _ h; exact h, ?_⟩
    refine ⟨by intro _ _ _ _ h; exact h, ?_⟩
    refine ⟨by intro _ _ _ _ h; exact h, ?_⟩
    refine ⟨by intro _ _ _ _ h; exact h, ?_⟩
    exact trivial
  case steps =>
    refine ⟨?_, ?_⟩
    · intro a W K N hK
      have e0 : a.tmps[0]?.getD undef = .pointer (some ⟨B, 0, none⟩) := N.was' 0 _ (by kernel_rfl) rfl
      rw [if_pos (wanted_no rfl)]
      go_simp
      refine hK _ _ (slotLe_refl _) ?_
      exact rfl
    refine ⟨?_, ?_⟩
    · intro a W K N hK
      have e7 : a.tmps[7]?.getD undef = _ := N.dep' 0 7 (by kernel_rfl)
      rw [if_pos (wanted_no rfl)]
      go_simp
      refine hK _ _ (slotLe_refl _) ?_
      exact rfl
    refine ⟨?_, ?_⟩
    · intro a W K N hK
      have e8 : a.tmps[8]?.getD undef = _ := N.dep' 1 8 (by kernel_rfl)
      rw [if_pos (wanted_no rfl)]
      go_simp
      refine hK _ _ (slotLe_refl _) ?_
      exact rfl
    refine ⟨?_, ?_⟩
    · intro a W K N hK
      have e9 : a.tmps[9]?.getD undef = _ := N.dep' 2 9 (by kernel_rfl)
      rw [if_pos (wanted_no rfl)]
      have z0 := keep_cell N.le hc0
      go_simp
      refine hK _ _ (slotLe_refl _) ?_
      exact rfl
    refine ⟨?_, ?_⟩
    · intro a W K N hK
      have e0 : a.tmps[0]?.getD undef = .pointer (some ⟨B, 0, none⟩) := N.was' 0 _ (by kernel_rfl) rfl
      rw [if_pos (wanted_no rfl)]
      go_simp
      refine hK _ _ (slotLe_refl _) ?_
      exact rfl
    refine ⟨?_, ?_⟩
    · intro a W K N hK
      have e11 : a.tmps[11]?.getD undef = _ := N.dep' 4 11 (by kernel_rfl)
      rw [if_pos (wanted_no rfl)]
      go_simp
      refine hK _ _ (slotLe_refl _) ?_
      exact rfl
    refine ⟨?_, ?_⟩
    · intro a W K N hK
      have e12 : a.tmps[12]?.getD undef = _ := N.dep' 5 12 (by kernel_rfl)
      rw [if_pos (wanted_no rfl)]
      go_simp
      refine hK _ _ (slotLe_refl _) ?_
      exact rfl
    refine ⟨?_, ?_⟩
    · intro a W K N hK
      have e13 : a.tmps[13]?.getD undef = _ := N.dep' 6 13 (by kernel_rfl)
      rw [if_pos (wanted_no rfl)]
      have z0 := keep_cell N.le hc1
      go_simp
      refine hK _ _ (slotLe_refl _) ?_
      exact rfl
    refine ⟨?_, ?_⟩
    · intro a W K N hK
      have e10 : a.tmps[10]?.getD undef = _ := N.dep' 3 10 (by kernel_rfl)
      have e14 : a.tmps[14]?.getD undef = _ := N.dep' 7 14 (by kernel_rfl)
      rw [if_pos (wanted_no rfl)]
      go_simp
      refine (C.out _ (below_undrew N.le)).mono ?_
      rintro e w4 ⟨rfl, b4⟩
      refine hK _ _ b4 ?_
      exact rfl
    refine ⟨?_, ?_⟩
    · intro a W K N hK
      have e15 : a.tmps[15]?.getD undef = _ := N.dep' 8 15 (by kernel_rfl)
      rw [if_pos (wanted_no rfl)]
      go_simp
      refine hK _ _ (slotLe_refl _) ?_
      exact rfl
    refine ⟨?_, ?_⟩
    · intro a W K N hK
      have e6 : a.tmps[6]?.getD undef = _ := N.dep' 9 6 (by kernel_rfl)
      rw [if_pos (wanted_no rfl)]
      go_simp
      refine hK _ _ (slotLe_refl _) ?_
      exact rfl
    refine ⟨?_, ?_⟩
    · intro a W K N hK
      have e6 : a.tmps[6]?.getD undef = _ := N.dep' 9 6 (by kernel_rfl)
      rw [if_pos (wanted_no rfl)]
      go_simp
      refine hK _ _ (slotLe_refl _) ?_
      exact rfl
    refine ⟨?_, ?_⟩
    · intro a W K N hK
      have e6 : a.tmps[6]?.getD undef = _ := N.dep' 9 6 (by kernel_rfl)
      rw [if_pos (wanted_no rfl)]
      go_simp
      refine hK _ _ (slotLe_refl _) ?_
      exact rfl
    refine ⟨?_, ?_⟩
    · intro a W K N hK
      have e16 : a.tmps[16]?.getD undef = _ := N.dep' 10 16 (by kernel_rfl)
      rw [if_pos (wanted_no rfl)]
      go_simp
      refine hK _ _ (slotLe_refl _) ?_
      exact rfl
    refine ⟨?_, ?_⟩
    · intro a W K N hK
      have e17 : a.tmps[17]?.getD undef = _ := N.dep' 11 17 (by kernel_rfl)
      rw [if_pos (wanted_no rfl)]
      go_simp
      refine hK _ _ (slotLe_refl _) ?_
      exact rfl
    refine ⟨?_, ?_⟩
    · intro a W K N hK
      have e18 : a.tmps[18]?.getD undef = _ := N.dep' 12 18 (by kernel_rfl)
      rw [if_pos (wanted_no rfl)]
      go_simp
      refine hK _ _ (slotLe_refl _) ?_
      exact rfl
    exact trivial
  case fin =>
    intro W1 hW1
    simp only [FinAll, slotPhi, List.getD_cons_zero, List.getD_cons_succ, forall_eq, Act.put, List.setIfInBounds_toArray, List.set_cons_zero, List.set_cons_succ]
    have bW := below_undrew hW1
    have hN := CN.out _ (HH.out.below bW)
    have HN := Lib.hid hN
    clear hc0 hc1 hN
    go_wp2_with fail
    refine HN.out.mono ?_
    rintro e w5 ⟨rfl, hT, hR⟩
    have HT := Lib.hid hT
    have HR := Lib.hid hR
    obtain ⟨q5, hB5, _⟩ := RdS.bad hR
    have c5 := hB5.cell (i := 2) (v := .int .i64 2) rfl
    clear hT hR hB5
    go_wp2_with fail
    go_ret
    exact ⟨rfl, (Turn.of_below bW).then HT.out, HR.out⟩

theorem dname_any (B : Nat) (b : List UInt8) (bv : Value) (s : Option Nat) (w : World) (h : RdS B b bv s w) (hcap : CapOk bv) (hlen : b.length ≤ 100000) :
    Calls Try.prog 58 #[.pointer (some ⟨B, 0, none⟩)] w (RdRet B b bv (.string ⟨(nameAt b s).toArray⟩) (nameTo b s) w) := by
  obtain ⟨p, e, hB, ha, hs⟩ := h.ex
  rcases hs with ⟨hs, _⟩ | ⟨hs, _⟩
  · cases hG : Wn.get b (p : Int) with
    | none =>
      have e1 : nameAt b s = [] := by rw [hs, nameAt_no hG]
      have e2 : nameTo b s = none := by rw [hs, nameTo_no hG]
      rw [e1, e2]
      exact dname_no B b bv s p [] 0 w h hcap hlen ⟨e, hB⟩ ha hG
    | some x =>
      obtain ⟨n, nx⟩ := x
      have e1 : nameAt b s = n := by rw [hs, nameAt_yes hG]
      have e2 : nameTo b s = some nx := by rw [hs, nameTo_yes hG]
      rw [e1, e2]
      exact dname_some B b bv s p n nx w h hcap hlen ⟨e, hB⟩ ha hG hs
  · have e1 : nameAt b s = [] := by rw [hs]; rfl
    have e2 : nameTo b s = none := by rw [hs]; rfl
    rw [e1, e2]
    cases hG : Wn.get b (p : Int) with
    | none => exact dname_no B b bv s p [] 0 w h hcap hlen ⟨e, hB⟩ ha hG
    | some x => exact dname_bad B b bv s p x.1 x.2 w h hcap hlen ⟨e, hB⟩ ha hG hs
end Go.Proofs.Ytfmghbmbahembaa
