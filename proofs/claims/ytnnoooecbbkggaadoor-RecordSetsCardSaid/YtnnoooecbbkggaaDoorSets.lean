/- foldedSet: a set's records as keys. -/
import Derived.Test.YtnnoooecbbkggaaDoorKeys
import Derived.Carry
namespace Go.Proofs.YtnnoooecbbkggaaDoor
open Go.RowKit Go.Shelf Go.Maps
attribute [local go_sem] Oper.semAt_some

def SetOwn (W : World) (b n : Nat) (l : List Rd.RR) : Prop := W.ownsMap Tryd.prog 23 (unitElem (H := Unit)) b n (setD l)
/-- What foldedSet gives. -/
def SetRet (l : List Rd.RR) (w : World) (e : Ending) (w' : World) : Prop := ∃ b, e = .returned (.map (some b)) ∧ w.heap.size ≤ b ∧ SetOwn w' b l.length (l.map Rd.foldR) ∧ Below w.heap.size w w'
theorem setOwn_below {W W' : World} {b n : Nat} {l : List Rd.RR} (h : SetOwn W b n l) (hb : Below W.heap.size W W') : SetOwn W' b n l :=
  World.ownsMap.kept h (row := none) ⟨hb.os, hb.tape, hb.output, hb.size, fun k hk _ => hb.block k hk⟩ (by simp)

set_option maxRecDepth 100000 in
set_option maxHeartbeats 4000000 in
theorem foldedSet_any (l : List Rd.RR) (sv : Value) (w : World) (hr : ReadR sv l w) (hf : ∀ r ∈ l, Fine r) (hl : l.length ≤ 100000) :
    Calls Tryd.prog 52 #[sv] w (SetRet l w) := by
  obtain ⟨ao, cap, rfl, hc⟩ := hr.form
  have HC := Lib.hid hc
  have HF := Lib.hid hf
  clear hc hf hr
  go_enter Tryd.func52, Tryd.ntmps52
  have hmm := @run_makeMap Tryd.prog
  go_wp2
  go_loopw [9] (fun i wr => ∃ k : Nat, i = .int .i64 (k : Int) ∧ k ≤ l.length ∧ Hid (SetOwn wr w.heap.size k ((l.take k).map Rd.foldR)) ∧ Below w.heap.size w wr) (fun i _ => l.length + 1 - (intOf i).toNat)
  case atStart => exact ⟨0, rfl, by omega, Lib.hid (World.ownsMap_made w _ _ _), (Below.refl _ w).alloc (Nat.le_refl _) _⟩
  case round =>
    obtain ⟨k, rfl, hk, ho, hb⟩ := hrel
    have hwr := hb.size
    by_cases hlt : k < l.length
    · obtain ⟨g, off, rfl, c0, c1, c2, c3, c4⟩ := HC.out k hlt
      have hgl : g < w.heap.size := cell_lt c0
      replace c0 := (hb.cell (p := ⟨g, off + k * 5, none⟩) hgl).trans c0
      replace c1 := (hb.cell (p := ⟨g, off + k * 5 + 1, none⟩) hgl).trans c1
      replace c2 := (hb.cell (p := ⟨g, off + k * 5 + 2, none⟩) hgl).trans c2
      replace c3 := (hb.cell (p := ⟨g, off + k * 5 + 3, none⟩) hgl).trans c3
      replace c4 := (hb.cell (p := ⟨g, off + k * 5 + 4, none⟩) hgl).trans c4
      have hfin := HF.out l[k] (List.getElem_mem hlt)
      have hfo := fun W => folded_any l[k] W hfin.name hfin.data
      have hkey := key_of (fine_fold hfin)
      have hsn : (l.take (k + 1)).map Rd.foldR = (l.take k).map Rd.foldR ++ [Rd.foldR l[k]] := by rw [List.take_succ_eq_append_getElem hlt, List.map_append]; rfl
      have hset := setD_snoc ((l.take k).map Rd.foldR) (Rd.foldR l[k])
      rw [← hsn] at hset
      obtain ⟨r, hrr⟩ : ∃ r, l[k] = r := ⟨_, rfl⟩
      rw [hrr] at c0 c1 c2 c3 c4 hfo hkey hset
      obtain ⟨⟨A0, A1, A2, A3, A4⟩, hA⟩ : ∃ A, Rd.foldR r = A := ⟨_, rfl⟩
      obtain ⟨n, t, c, ttl, d⟩ := r
      rw [hA] at hfo hkey hset
      obtain ⟨kl, hkl⟩ : ∃ kl, klOf ⟨A0, A1, A2, A3, A4⟩ = kl := ⟨_, rfl⟩
      rw [hkl] at hkey hset
      unfold rrV at hfo hkey
      simp only at hfo hkey c0 c1 c2 c3 c4
      have HFO := Lib.hid hfo
      have HK := Lib.hid hkey
      have HS := Lib.hid hset
      clear hfo hkey hset hsn hrr hA hkl hfin
      go_wp2_with (first
        | (go_at_call 49; refine (HFO.out _).mono ?_; rintro e w1 ⟨rfl, b1⟩; have hm1 := setOwn_below (World.ownsMap.alloc ho.out _) b1; refine Hid.out ?_))
      refine Lib.hid ?_
      have hw1 : wr.heap.size ≤ w1.heap.size := by have := b1.size; simp at this; omega
      have hbb := (hb.alloc hwr _).trans (b1.mono (by simp; omega))
      go_wp2_with (first
        | (at_mapUpdate; refine wpList_mapUpdate_own _ rfl _ _ _ 66 rfl 23 67 keyedRR Tryd.underlying66 (unitElem (H := Unit)) w.heap.size k _ rfl hm1 (by unfold maxLen; omega) _ _ kl rfl rfl HK.out unitD [] unitElem_mk ?_; intro w2 hm2 hg2; refine Hid.out ?_))
      refine Lib.hid ?_
      have hb2 : Below w.heap.size w w2 := hbb.grown hg2 (by omega) (fun j e => by cases e; exact Nat.le_refl _)
      have HM : Hid (SetOwn w2 w.heap.size (k + 1) ((l.take (k + 1)).map Rd.foldR)) := Lib.hid (by unfold SetOwn; rw [HS.out]; exact hm2)
      clear hm2 hm1
      go_wp2
      go_roundw
      case rel => exact ⟨k + 1, by go_num, by omega, HM, hb2⟩
      case measure => simp [intOf]; omega
    · obtain rfl : k = l.length := by omega
      have HO : Hid (SetOwn wr w.heap.size l.length (l.map Rd.foldR)) := Lib.hid (by have := ho.out; rw [List.take_length] at this; exact this)
      clear ho
      go_wp2
      go_ret
      exact ⟨w.heap.size, rfl, Nat.le_refl _, HO.out, hb⟩
end Go.Proofs.YtnnoooecbbkggaaDoor
