/- The document's own Valid, Fold, Made, Parent, Same (freshetref1). -/
import Derived.Test.YtiodfiegknkceaaDoorRLabels
import Derived.Test.YtiodfiegknkceaaDoorFold
import Derived.Test.YtiodfiegknkceaaDoorTexts
import Derived.Test.YtiodfiegknkceaaDoorShort
import Derived.Deep.RegionHeld3
namespace Go.Proofs.YtiodfiegknkceaaDoor
open Go.RowKit Go.Shelf
attribute [local go_sem] Oper.semAt_some

set_option maxRecDepth 100000 in
theorem rvalid_any (n : List UInt8) (w : World) (hs : n.length ≤ 100000) :
    Calls Tryd.prog 43 #[.string ⟨n.toArray⟩] w fun e w' => e = .returned (.bool (Nm.valid n)) ∧ Below w.heap.size w w' := by
  obtain ⟨x, hx⟩ : ∃ x, Nm.valid n = x := ⟨_, rfl⟩
  have HX := Lib.hid hx
  rw [hx]
  clear hx
  go_enter Tryd.func43, Tryd.ntmps43
  go_wp2_with (go_at_call 12; refine (rlabels_any n _ hs).mono ?_; rintro e w1 ⟨v, L, rfl, ho, b1, hL, hl⟩; rw [HX.out])
  go_ret
  exact ⟨rfl, b1⟩

set_option maxRecDepth 100000 in
set_option maxHeartbeats 2000000 in
theorem rfold_any (n : List UInt8) (w : World) (hs : n.length ≤ 100000) :
    Calls Tryd.prog 20 #[.string ⟨n.toArray⟩] w fun e w' => e = .returned (.string ⟨(Nm.fold n).toArray⟩) ∧ Below w.heap.size w w' := by
  cases hv : Nm.valid n
  · have H := Lib.hid (show Nm.fold n = n by unfold Nm.fold; rw [hv]; rfl)
    have HV := Lib.hid hv
    clear hv
    go_enter Tryd.func20, Tryd.ntmps20
    go_wp2_with (go_at_call 43; refine (rvalid_any n _ hs).mono ?_; rw [HV.out]; rintro e w' ⟨rfl, hb⟩)
    go_ret
    exact ⟨ret_str H.out.symm, hb⟩
  · have H := Lib.hid (show Nm.fold n = Nm.folded n by unfold Nm.fold; rw [hv]; rfl)
    have HV := Lib.hid hv
    clear hv
    go_enter Tryd.func20, Tryd.ntmps20
    go_wp2_with fail
    refine (rvalid_any n _ hs).mono ?_
    rw [HV.out]
    rintro e w1 ⟨rfl, b1⟩
    have hcv := Lib.run_convert_string_bytes (P := Tryd.prog) w1 9 44 5 ⟨n.toArray⟩ Tryd.underlying9 Tryd.underlying44 Tryd.underlying5
    have hr0 := row8_conv w1 5 n
    have hb0 := below_trans b1 (Lib.bytesWorld_below w1 5 ⟨n.toArray⟩)
    have hsz : (⟨n.toArray⟩ : ByteArray).size = n.length := by show n.toArray.size = _; simp
    generalize grownCap w1 (⟨n.toArray⟩ : ByteArray).size 0 5 = cap at hcv
    rw [hsz] at hcv
    generalize Lib.bytesWorld w1 5 ⟨n.toArray⟩ = W0 at *
    clear hsz
    have hw1 := b1.size
    go_wp2
    go_loopw [4] (fun i wr => ∃ k : Nat, k ≤ n.length ∧ i = .int .i64 k ∧ Hid (Row8 w1.heap.size (Nm.foldTo n k) wr) ∧ Below w.heap.size w wr) (fun i _ => n.length + 1 - (intOf i).toNat)
    case atStart => exact ⟨0, by omega, rfl, Lib.hid (by rw [Nm.foldTo_zero]; exact hr0), hb0⟩
    case round =>
      obtain ⟨k, hk, rfl, hr, hb⟩ := hrel
      by_cases hlt : k < n.length
      · obtain ⟨c1, f1⟩ := hr.out k (by rw [Nm.foldTo_length]; exact hlt)
        rw [Nm.foldTo_get hlt] at c1
        have hst := Lib.hid (Nm.foldTo_set hlt)
        have hset := Lib.hid (fun c => hr.out.set (by rw [Nm.foldTo_length]; exact hlt) (c := c) (k := k))
        have hskip : Hid (Nm.small n[k] = n[k] → Row8 w1.heap.size (Nm.foldTo n (k + 1)) wr) := Lib.hid (fun e => by
          have := hr.out
          rw [← hst.out, e, ← Nm.foldTo_get hlt, List.set_getElem_self]
          exact this)
        obtain ⟨c, hcc⟩ : ∃ c, c = n[k] := ⟨_, rfl⟩
        rw [← hcc] at c1 hst hskip
        have hc255 : c.toNat ≤ 255 := by have := c.toNat_lt; omega
        clear hcc
        by_cases h : 65 ≤ c.toNat ∧ c.toNat ≤ 90
        · have h1 := hset.out (Nm.small c)
          rw [hst.out, Nm.small_yes h.1 h.2] at h1
          have H1 := Lib.hid h1
          obtain ⟨h2, h3⟩ := h
          clear h1
          go_wp2
          go_roundw
          case rel => exact ⟨k + 1, by omega, by go_num, H1, hb.setCell (p := ⟨w1.heap.size, k, none⟩) hw1 _⟩
          case measure => simp [intOf]; omega
        · have H1 := Lib.hid (hskip.out (Nm.small_no h))
          have hcase : c.toNat < 65 ∨ (65 ≤ c.toNat ∧ 90 < c.toNat) := by omega
          clear h
          rcases hcase with h1 | ⟨h1, h2⟩
          all_goals
            go_wp2
            go_roundw
            case rel => exact ⟨k + 1, by omega, by go_num, H1, hb⟩
            case measure => simp [intOf]; omega
      · obtain rfl : k = n.length := by omega
        have hst := (hr.out).str (cap := cap) (src := 44) (dst := 9) (P := Tryd.prog) Tryd.underlying44 Tryd.underlying5 Tryd.underlying9
        rw [Nm.foldTo_length, Nm.foldTo_end] at hst
        go_wp2
        go_ret
        exact ⟨ret_str H.out.symm, hb⟩

set_option maxRecDepth 100000 in
set_option maxHeartbeats 2000000 in
theorem rsame_any (a b : List UInt8) (w : World) (ha : a.length ≤ 100000) (hb : b.length ≤ 100000) :
    Calls Tryd.prog 29 #[.string ⟨a.toArray⟩, .string ⟨b.toArray⟩] w fun e w' => e = .returned (.bool (Nm.same a b)) ∧ Below w.heap.size w w' := by
  obtain ⟨x, hx⟩ : ∃ x, Nm.valid a = x := ⟨_, rfl⟩
  obtain ⟨y, hy⟩ : ∃ y, Nm.valid b = y := ⟨_, rfl⟩
  obtain ⟨s, hs⟩ : ∃ s, Nm.same a b = s := ⟨_, rfl⟩
  obtain ⟨fa, hfa⟩ : ∃ f, Nm.fold a = f := ⟨_, rfl⟩
  obtain ⟨fb, hfb⟩ : ∃ f, Nm.fold b = f := ⟨_, rfl⟩
  have HX := Lib.hid hx
  have HY := Lib.hid hy
  have HA := Lib.hid hfa
  have HB := Lib.hid hfb
  have bb : Below w.heap.size w w := Below.refl _ _
  have hcase : (x = false ∧ s = false) ∨ (x = true ∧ y = false ∧ s = false) ∨ (x = true ∧ y = true ∧ s = (fa == fb)) := by
    cases x
    · exact .inl ⟨rfl, by rw [← hs]; simp [Nm.same, hx]⟩
    · cases y
      · exact .inr (.inl ⟨rfl, rfl, by rw [← hs]; simp [Nm.same, hy]⟩)
      · refine .inr (.inr ⟨rfl, rfl, ?_⟩)
        rw [← hs, ← hfa, ← hfb]
        unfold Nm.same Nm.fold
        rw [hx, hy]
        simp
  rw [hs]
  clear hx hy hs hfa hfb
  rcases hcase with ⟨rfl, rfl⟩ | ⟨rfl, rfl, rfl⟩ | ⟨rfl, rfl, hss⟩
  case' inr.inr => have HSS := Lib.hid hss; clear hss
  all_goals
    go_enter Tryd.func29, Tryd.ntmps29
    go_wp2_with (first
      | (go_at_call 43; with_reducible refine (rvalid_any a _ ha).mono ?_; rw [HX.out]; rintro e w' ⟨rfl, b1⟩; replace bb := below_trans bb b1; clear b1)
      | (go_at_call 43; with_reducible refine (rvalid_any b _ hb).mono ?_; rw [HY.out]; rintro e w' ⟨rfl, b1⟩; replace bb := below_trans bb b1; clear b1)
      | (go_at_call 20; with_reducible refine (rfold_any a _ ha).mono ?_; rw [HA.out]; rintro e w' ⟨rfl, b1⟩; replace bb := below_trans bb b1; clear b1)
      | (go_at_call 20; with_reducible refine (rfold_any b _ hb).mono ?_; rw [HB.out]; rintro e w' ⟨rfl, b1⟩; replace bb := below_trans bb b1; clear b1))
    go_ret
    first | exact ⟨rfl, bb⟩ | exact ⟨ret_bool HSS.out.symm, bb⟩

namespace Nm
theorem encs_len (ls : List (List UInt8)) (k : Nat) (h : ∀ l ∈ ls, l.length ≤ k) : (encs ls).length ≤ (k + 1) * ls.length := by
  induction ls with
  | nil => simp [encs]
  | cons l ls ih =>
    have h1 := h l (by simp)
    have h2 := ih (fun x hx => h x (List.mem_cons_of_mem _ hx))
    simp only [encs, List.length_append, List.length_cons, Nat.mul_succ]
    omega
end Nm

set_option maxRecDepth 100000 in
set_option maxHeartbeats 2000000 in
theorem rmade_any (ls : List (List UInt8)) (sv : Value) (w : World) (hr : ReadS sv ls w) (hn : Nm.encL ls ≤ 100000) :
    Calls Tryd.prog 44 #[sv] w fun e w' => e = .returned (.string ⟨(Nm.made ls).toArray⟩) ∧ Below w.heap.size w w' := by
  obtain ⟨ao, cap, rfl, hc⟩ := hr.form
  have hll : ls.length ≤ 100000 := Nat.le_trans Nm.length_le_encL hn
  have HC := Lib.hid hc
  have HE : Hid (∀ k, k ≤ ls.length → Nm.encL (ls.take k) ≤ 100000) := Lib.hid (fun k _ => by have := Nm.encL_take_drop ls k; omega)
  clear hc
  go_enter Tryd.func44, Tryd.ntmps44
  go_wp2
  go_loopw [3, 4] (fun s i wr => ∃ (k : Nat) (t : List UInt8), k ≤ ls.length ∧ s = .string ⟨t.toArray⟩ ∧ i = .int .i64 k ∧ t.length ≤ 100000 ∧ Hid (t = Nm.encs (ls.take k)) ∧ Below w.heap.size w wr) (fun _ i _ => ls.length + 1 - (intOf i).toNat)
  case atStart => exact ⟨0, [], by omega, rfl, rfl, by simp, Lib.hid rfl, Below.refl _ _⟩
  case round =>
    obtain ⟨k, t, hk, rfl, rfl, htl, hh, hb⟩ := hrel
    have hwr := hb.size
    by_cases hlt : k < ls.length
    · obtain ⟨b, off, rfl, c1⟩ := HC.out k hlt
      replace c1 := (hb.cell (p := ⟨b, off + k, none⟩) (cell_lt c1)).trans c1
      have het := Nm.encs_take hlt
      rw [← hh.out] at het
      obtain ⟨l, hl⟩ : ∃ l, l = ls[k] := ⟨_, rfl⟩
      have hel := HE.out (k + 1) hlt
      rw [Nm.encL_take_succ hlt, ← hl] at hel
      rw [← hl] at c1 het
      replace c1 : wr.cell? ⟨b, off + k, none⟩ = some (.string ⟨l.toArray⟩) := c1
      have HET := Lib.hid het
      have hl63 : l.length ≤ 100000 := by omega
      clear het hl hh
      have hu8 : encB (UInt8.ofNat l.length) = .int .u8 (IntKind.u8.wrap (l.length : Int)) := by
        unfold encB
        rw [UInt8.toNat_ofNat']
        congr 1
      have hcv : (convert 44 9 (.slice (some ⟨wr.heap.size, 0, none⟩) 1 1)).run Tryd.prog (wr.alloc (.cells #[.int .u8 (IntKind.u8.wrap (l.length : Int))] 5)).drew = .ok (.string ⟨[UInt8.ofNat l.length].toArray⟩) (wr.alloc (.cells #[.int .u8 (IntKind.u8.wrap (l.length : Int))] 5)).drew :=
        run_convert_bytes_back (P := Tryd.prog) _ 44 9 5 ⟨wr.heap.size, 0, none⟩ 1 [UInt8.ofNat l.length] Tryd.underlying44 Tryd.underlying5 Tryd.underlying9 (fun j hj => cells_new wr [.int .u8 (IntKind.u8.wrap (l.length : Int))] 5 j (encB [UInt8.ofNat l.length][j]) (by
          obtain rfl : j = 0 := by simpa using hj
          simp [hu8]))
      clear hu8
      have hbl : b < wr.heap.size := cell_lt c1
      have hcx : ∀ o, (wr.alloc o).cell? ⟨b, off + k, none⟩ = some (.string ⟨l.toArray⟩) := fun o => (((Below.refl wr.heap.size wr).alloc (Nat.le_refl _) o).cell (p := ⟨b, off + k, none⟩) hbl).trans c1
      have e1 := app_bytes t [UInt8.ofNat l.length]
      have e2 := app_bytes (t ++ [UInt8.ofNat l.length]) l
      obtain ⟨t2, ht2⟩ : ∃ t2, t2 = t ++ [UInt8.ofNat l.length] ++ l := ⟨_, rfl⟩
      rw [← ht2] at e2
      have hle : t2.length ≤ 100000 := by
        rw [ht2, ← HET.out, Nm.encs_length]
        exact HE.out (k + 1) hlt
      have hl1 : (t ++ [UInt8.ofNat l.length]).length ≤ 100001 := by simp; omega
      have HN : Hid (t2 = Nm.encs (ls.take (k + 1))) := Lib.hid (by rw [ht2, HET.out])
      clear ht2
      go_wp2
      go_region_with (fail)
      all_goals
        simp only [List.getElem_toArray, List.getElem_cons_succ, List.getElem_cons_zero, Act.put, List.setIfInBounds_toArray, List.set_cons_succ, List.set_cons_zero]
        go_wp2
        go_roundw
        case rel => exact ⟨k + 1, t2, by omega, rfl, by go_num, hle, HN, (hb.alloc hwr _).drew⟩
        case measure => simp [intOf]; omega
    · obtain rfl : k = ls.length := by omega
      have HT : Hid (t ++ [0] = Nm.made ls) := Lib.hid (by rw [hh.out, List.take_length, Nm.made_encs])
      have e1 := app_bytes t [0]
      have hl1 : (t ++ [0]).length ≤ 100001 := by simp; omega
      clear hh
      go_wp2
      go_ret
      exact ⟨ret_str HT.out, hb⟩
end Go.Proofs.YtiodfiegknkceaaDoor
