/- The document's own in: is a record among others? And its SameSet. -/
import Derived.Test.YtnnoooecbbkggaaDoorRSame
import Derived.Test.YtnnoooecbbkggaaDoorKeys
namespace Go.Proofs.YtnnoooecbbkggaaDoor
open Go.RowKit Go.Shelf
attribute [local go_sem] Oper.semAt_some

namespace Rd
theorem any_take_succ {l : List RR} {k : Nat} (h : k < l.length) (p : RR → Bool) : (l.take (k + 1)).any p = ((l.take k).any p || p l[k]) := by
  rw [List.take_succ_eq_append_getElem h, List.any_append]; simp
theorem any_at {l : List RR} {k : Nat} (h : k < l.length) {p : RR → Bool} (hp : p l[k] = true) : l.any p = true := List.any_eq_true.2 ⟨_, List.getElem_mem h, hp⟩
theorem all_take_succ {l : List RR} {k : Nat} (h : k < l.length) (p : RR → Bool) : (l.take (k + 1)).all p = ((l.take k).all p && p l[k]) := by
  rw [List.take_succ_eq_append_getElem h, List.all_append]; simp
theorem all_at {l : List RR} {k : Nat} (h : k < l.length) {p : RR → Bool} (hp : p l[k] = false) : l.all p = false := by
  rw [List.all_eq_false]
  exact ⟨_, List.getElem_mem h, by rw [hp]; simp⟩
end Rd

set_option maxRecDepth 100000 in
set_option maxHeartbeats 8000000 in
theorem rin_any (l : List Rd.RR) (sv : Value) (r : Rd.RR) (w : World) (hr : ReadR sv l w) (hf : ∀ x ∈ l, Fine x) (hrf : Fine r) (hl : l.length ≤ 100000) :
    Calls Tryd.prog 53 #[sv, rrV r] w fun e w' => e = .returned (.bool (l.any (fun y => Rd.sameR y r))) ∧ Below w.heap.size w w' := by
  obtain ⟨ao, cap, rfl, hc⟩ := hr.form
  obtain ⟨R, hR⟩ : ∃ R, l.any (fun y => Rd.sameR y r) = R := ⟨_, rfl⟩
  have HSAME := Lib.hid (fun (x : Rd.RR) (hx : x ∈ l) W => rsame_any x r W (hf x hx).name (hf x hx).data hrf.name hrf.data)
  have HT := Lib.hid (fun (k : Nat) (h : k < l.length) (q : Rd.sameR l[k] r = true) => show R = true from by rw [← hR]; exact Rd.any_at h q)
  have HE := Lib.hid (fun (h : (l.take l.length).any (fun y => Rd.sameR y r) = false) => show R = false from by rw [← hR]; rw [List.take_length] at h; exact h)
  have HN := Lib.hid (fun (k : Nat) (h : k < l.length) (q : Rd.sameR l[k] r = false) (q' : (l.take k).any (fun y => Rd.sameR y r) = false) => show (l.take (k + 1)).any (fun y => Rd.sameR y r) = false from by rw [Rd.any_take_succ h, q', q]; rfl)
  rw [hR]
  clear hR
  have HC := Lib.hid hc
  clear hc hr hf hrf
  obtain ⟨rn, rt, rc, rl, rd⟩ := r
  obtain ⟨S, hS⟩ : ∃ S : Rd.RR → Bool, (fun y => Rd.sameR y ⟨rn, rt, rc, rl, rd⟩) = S := ⟨_, rfl⟩
  have hSx : ∀ x, Rd.sameR x ⟨rn, rt, rc, rl, rd⟩ = S x := fun x => congrFun hS x
  rw [hS] at HE HN
  simp only [hSx] at HSAME HT HN
  clear hS hSx
  unfold rrV at HSAME ⊢
  simp only at HSAME ⊢
  refine (callsIn_wide (n := 9)).1 ?_
  refine callsIn_of_wp Tryd.func53 rfl trivial ?_ rfl
  simp only [Tryd.ntmps53, List.size_toArray, List.length_cons, List.length_nil, Nat.reduceAdd, Nat.reduceSub, Array.replicate_succ, Array.replicate_zero, List.push_toArray, List.append_toArray, List.nil_append, List.cons_append]
  have hF : Fence.wide.fn 26 := trivial
  gi_wp2
  gi_loopw [5] (fun i wr => ∃ k : Nat, i = .int .i64 (k : Int) ∧ k ≤ l.length ∧ Hid ((l.take k).any S = false) ∧ Below w.heap.size w wr ∧ Block wr w.heap.size #[.string ⟨rn.toArray⟩, .int .i64 rt, .int .i64 rc, .int .i64 rl, .string ⟨rd.toArray⟩] 23) (fun i _ => l.length + 1 - (intOf i).toNat)
  case atStart => exact ⟨0, rfl, by omega, Lib.hid rfl, (Below.refl _ w).alloc (Nat.le_refl _) _, Block.new w _ _⟩
  case round =>
    obtain ⟨k, rfl, hk, hn, hb, hx⟩ := hrel
    have hwr := hb.size
    by_cases hlt : k < l.length
    · obtain ⟨g, off, rfl, c0, c1, c2, c3, c4⟩ := HC.out k hlt
      have hgl : g < w.heap.size := cell_lt c0
      replace c0 := Grew.cell ((hb.cell (p := ⟨g, off + k * 5, none⟩) hgl).trans c0)
      replace c1 := Grew.cell ((hb.cell (p := ⟨g, off + k * 5 + 1, none⟩) hgl).trans c1)
      replace c2 := Grew.cell ((hb.cell (p := ⟨g, off + k * 5 + 2, none⟩) hgl).trans c2)
      replace c3 := Grew.cell ((hb.cell (p := ⟨g, off + k * 5 + 3, none⟩) hgl).trans c3)
      replace c4 := Grew.cell ((hb.cell (p := ⟨g, off + k * 5 + 4, none⟩) hgl).trans c4)
      have d0 := Grew.cell (hx.cell (i := 0) rfl)
      have d1 := Grew.cell (hx.cell (i := 1) rfl)
      have d2 := Grew.cell (hx.cell (i := 2) rfl)
      have d3 := Grew.cell (hx.cell (i := 3) rfl)
      have d4 := Grew.cell (hx.cell (i := 4) rfl)
      have hsame := HSAME.out l[k] (List.getElem_mem hlt)
      have HTk := Lib.hid (HT.out k hlt)
      have HNk := Lib.hid (fun q => HN.out k hlt q hn.out)
      obtain ⟨x, hxx⟩ : ∃ x, l[k] = x := ⟨_, rfl⟩
      rw [hxx] at c0 c1 c2 c3 c4 hsame HTk HNk
      obtain ⟨s, hs⟩ : ∃ s, S x = s := ⟨_, rfl⟩
      rw [hs] at hsame HTk HNk
      have HS := Lib.hid hsame
      obtain ⟨n, t, c, ttl, d⟩ := x
      simp only at c0 c1 c2 c3 c4 HS
      clear hsame hxx hs
      cases s
      · gi_wp2
        refine wpIn_region_grew (by kernel_rfl) (by kernel_rfl) (by kernel_rfl) ?_
        repeat (gi_big_quiet_step ((gi_at_call 26; (with_reducible exact Grew.calls _ _ (callsIn_wide.2 (HS.out _))))))
        refine wpQuietIn_nil ?_
        rintro W1 ⟨iG, hi⟩
        have hdw : Below wr.heap.size wr W1 := by rw [hi]; exact iG.below
        clear hi
        have hb1 : Below w.heap.size w W1 := hb.trans (hdw.mono hwr)
        have hx1 := hx.below hdw
        gi_wp2
        go_roundw
        case rel => exact ⟨k + 1, by go_num, by omega, Lib.hid (HNk.out (by first | rfl | trivial)), hb1, hx1⟩
        case measure => simp [intOf]; omega
      · gi_wp2
        refine wpIn_region_grew (by kernel_rfl) (by kernel_rfl) (by kernel_rfl) ?_
        repeat (gi_big_quiet_step ((gi_at_call 26; (with_reducible exact Grew.calls _ _ (callsIn_wide.2 (HS.out _))))))
        refine wpQuietIn_nil ?_
        rintro W1 ⟨iG, hi⟩
        have hdw : Below wr.heap.size wr W1 := by rw [hi]; exact iG.below
        clear hi
        have hb1 : Below w.heap.size w W1 := hb.trans (hdw.mono hwr)
        gi_wp2
        go_ret
        exact ⟨by rw [HTk.out (by first | rfl | trivial)]; rfl, hb1⟩
    · obtain rfl : k = l.length := by omega
      have HQ := HE.out hn.out
      subst HQ
      gi_wp2
      go_ret
      exact ⟨rfl, hb⟩

set_option maxRecDepth 100000 in
set_option maxHeartbeats 8000000 in
theorem rsameSet_any (a b : List Rd.RR) (sa sb : Value) (w : World) (ha : ReadR sa a w) (hb : ReadR sb b w) (fa : ∀ r ∈ a, Fine r) (fb : ∀ r ∈ b, Fine r) (la : a.length ≤ 100000) (lb : b.length ≤ 100000) :
    Calls Tryd.prog 28 #[sa, sb] w fun e w' => e = .returned (.bool (Rd.sameSet a b)) ∧ Below w.heap.size w w' := by
  obtain ⟨aoa, capa, rfl, hca⟩ := ha.form
  obtain ⟨aob, capb, rfl, hcb⟩ := hb.form
  have HA := Lib.hid ha
  have HB := Lib.hid hb
  have HCA := Lib.hid hca
  have HCB := Lib.hid hcb
  obtain ⟨p, hp⟩ : ∃ p : Rd.RR → Bool, (fun x => b.any (fun y => Rd.sameR y x)) = p := ⟨_, rfl⟩
  obtain ⟨q, hq⟩ : ∃ q : Rd.RR → Bool, (fun x => a.any (fun y => Rd.sameR y x)) = q := ⟨_, rfl⟩
  have HP := Lib.hid (fun (x : Rd.RR) (hx : Fine x) W (hR : ReadR (.slice aob b.length capb) b W) => rin_any b _ x W hR fb hx lb)
  have HQ := Lib.hid (fun (x : Rd.RR) (hx : Fine x) W (hR : ReadR (.slice aoa a.length capa) a W) => rin_any a _ x W hR fa hx la)
  have hpx : ∀ x, b.any (fun y => Rd.sameR y x) = p x := fun x => congrFun hp x
  have hqx : ∀ x, a.any (fun y => Rd.sameR y x) = q x := fun x => congrFun hq x
  simp only [hpx] at HP
  simp only [hqx] at HQ
  have hss : Rd.sameSet a b = (a.all p && b.all q) := by unfold Rd.sameSet; rw [hp, hq]
  rw [hss]
  have FA := Lib.hid fa
  have FB := Lib.hid fb
  clear hss hp hq hpx hqx ha hb hca hcb fa fb
  have HPN := Lib.hid (fun (k : Nat) (h : k < a.length) (e : p a[k] = false) => Rd.all_at h e)
  have HPS := Lib.hid (fun (k : Nat) (h : k < a.length) (e : p a[k] = true) (e' : (a.take k).all p = true) => show (a.take (k + 1)).all p = true from by rw [Rd.all_take_succ h, e', e]; rfl)
  have HQN := Lib.hid (fun (k : Nat) (h : k < b.length) (e : q b[k] = false) => Rd.all_at h e)
  have HQS := Lib.hid (fun (k : Nat) (h : k < b.length) (e : q b[k] = true) (e' : (b.take k).all q = true) => show (b.take (k + 1)).all q = true from by rw [Rd.all_take_succ h, e', e]; rfl)
  go_enter Tryd.func28, Tryd.ntmps28
  go_wp2
  go_loopw [5] (fun i wr => ∃ k : Nat, i = .int .i64 (k : Int) ∧ k ≤ a.length ∧ Hid ((a.take k).all p = true) ∧ Below w.heap.size w wr) (fun i _ => a.length + 1 - (intOf i).toNat)
  case atStart => exact ⟨0, rfl, by omega, Lib.hid rfl, Below.refl _ w⟩
  case round =>
    obtain ⟨k, rfl, hk, hn, hb⟩ := hrel
    by_cases hlt : k < a.length
    · obtain ⟨g, off, rfl, c0, c1, c2, c3, c4⟩ := HCA.out k hlt
      have hgl : g < w.heap.size := cell_lt c0
      replace c0 := (hb.cell (p := ⟨g, off + k * 5, none⟩) hgl).trans c0
      replace c1 := (hb.cell (p := ⟨g, off + k * 5 + 1, none⟩) hgl).trans c1
      replace c2 := (hb.cell (p := ⟨g, off + k * 5 + 2, none⟩) hgl).trans c2
      replace c3 := (hb.cell (p := ⟨g, off + k * 5 + 3, none⟩) hgl).trans c3
      replace c4 := (hb.cell (p := ⟨g, off + k * 5 + 4, none⟩) hgl).trans c4
      have hcall := HP.out a[k] (FA.out _ (List.getElem_mem hlt)) wr (readR_below HB.out hb)
      have HNk := Lib.hid (HPN.out k hlt)
      have HSk := Lib.hid (fun e => HPS.out k hlt e hn.out)
      obtain ⟨x, hxx⟩ : ∃ x, a[k] = x := ⟨_, rfl⟩
      rw [hxx] at c0 c1 c2 c3 c4 hcall HNk HSk
      obtain ⟨s, hs⟩ : ∃ s, p x = s := ⟨_, rfl⟩
      rw [hs] at hcall HNk HSk
      obtain ⟨n, t, c, ttl, d⟩ := x
      unfold rrV at hcall
      simp only at c0 c1 c2 c3 c4 hcall
      have HX := Lib.hid hcall
      clear hcall hxx hs
      cases s
      · go_wp2_with (go_at_call 53; refine (HX.out).mono ?_; rintro e w1 ⟨rfl, b1⟩)
        go_ret
        exact ⟨by rw [HNk.out (by first | rfl | trivial)]; rfl, hb.trans (b1.mono hb.size)⟩
      · go_wp2_with (go_at_call 53; refine (HX.out).mono ?_; rintro e w1 ⟨rfl, b1⟩)
        go_roundw
        case rel => exact ⟨k + 1, by go_num, by omega, Lib.hid (HSk.out (by first | rfl | trivial)), hb.trans (b1.mono hb.size)⟩
        case measure => simp [intOf]; omega
    · obtain rfl : k = a.length := by omega
      have hall : a.all p = true := by have := hn.out; rw [List.take_length] at this; exact this
      have HALL := Lib.hid hall
      clear hall hn
      go_wp2
      go_loopw [6] (fun i wr => ∃ k : Nat, i = .int .i64 (k : Int) ∧ k ≤ b.length ∧ Hid ((b.take k).all q = true) ∧ Below w.heap.size w wr) (fun i _ => b.length + 1 - (intOf i).toNat)
      case atStart => exact ⟨0, rfl, by omega, Lib.hid rfl, hb⟩
      case round =>
        clear hb
        obtain ⟨k, rfl, hk, hn, hb⟩ := hrel
        by_cases hlt : k < b.length
        · obtain ⟨g, off, rfl, c0, c1, c2, c3, c4⟩ := HCB.out k hlt
          have hgl : g < w.heap.size := cell_lt c0
          replace c0 := (hb.cell (p := ⟨g, off + k * 5, none⟩) hgl).trans c0
          replace c1 := (hb.cell (p := ⟨g, off + k * 5 + 1, none⟩) hgl).trans c1
          replace c2 := (hb.cell (p := ⟨g, off + k * 5 + 2, none⟩) hgl).trans c2
          replace c3 := (hb.cell (p := ⟨g, off + k * 5 + 3, none⟩) hgl).trans c3
          replace c4 := (hb.cell (p := ⟨g, off + k * 5 + 4, none⟩) hgl).trans c4
          have hcall := fun W (hbb : Below w.heap.size w W) => HQ.out b[k] (FB.out _ (List.getElem_mem hlt)) W (readR_below HA.out hbb)
          have HNk := Lib.hid (HQN.out k hlt)
          have HSk := Lib.hid (fun e => HQS.out k hlt e hn.out)
          obtain ⟨x, hxx⟩ : ∃ x, b[k] = x := ⟨_, rfl⟩
          rw [hxx] at c0 c1 c2 c3 c4 hcall HNk HSk
          obtain ⟨s, hs⟩ : ∃ s, q x = s := ⟨_, rfl⟩
          rw [hs] at HNk HSk
          simp only [hs] at hcall
          obtain ⟨n, t, c, ttl, d⟩ := x
          unfold rrV at hcall
          simp only at c0 c1 c2 c3 c4 hcall
          have HX := Lib.hid hcall
          clear hcall hxx hs
          cases s
          · go_wp2_with (go_at_call 53; refine (HX.out _ hb).mono ?_; rintro e w1 ⟨rfl, b1⟩)
            go_ret
            exact ⟨by rw [HNk.out (by first | rfl | trivial), Bool.and_false]; rfl, hb.trans (b1.mono hb.size)⟩
          · go_wp2_with (go_at_call 53; refine (HX.out _ hb).mono ?_; rintro e w1 ⟨rfl, b1⟩)
            go_roundw
            case rel => exact ⟨k + 1, by go_num, by omega, Lib.hid (HSk.out (by first | rfl | trivial)), hb.trans (b1.mono hb.size)⟩
            case measure => simp [intOf]; omega
        · obtain rfl : k = b.length := by omega
          have hall : b.all q = true := by have := hn.out; rw [List.take_length] at this; exact this
          have HALLB := Lib.hid hall
          clear hall hn
          go_wp2
          go_ret
          exact ⟨by rw [HALL.out, HALLB.out]; rfl, hb⟩
end Go.Proofs.YtnnoooecbbkggaaDoor
