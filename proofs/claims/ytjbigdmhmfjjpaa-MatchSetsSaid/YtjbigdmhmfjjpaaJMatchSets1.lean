/- MatchSets of package freshetlaw5 (each record of the class is in just one set, once; sets come in the order of their first records; stopped anywhere they are the same so far) returns true at every list of records and int.
   Conditions: those of the row, none beside. -/
import Derived.Test.YtjbigdmhmfjjpaaJB20
import Derived.Test.YtjbigdmhmfjjpaaJB22
import Derived.Test.YtjbigdmhmfjjpaaJB3
import Derived.Test.YtjbigdmhmfjjpaaJB27
import Derived.Test.YtjbigdmhmfjjpaaJB26
import Derived.Test.YtjbigdmhmfjjpaaJB29
import Derived.Test.YtjbigdmhmfjjpaaJB23
/- same: two lists of groups that have the same in them. -/
set_option maxRecDepth 100000
namespace Go.Proofs.Ytjbigdmhmfjjpaa
open Go.RowKit Go.Shelf Go.Maps
attribute [local go_sem] Oper.semAt_some

theorem fieldsK : Try.prog.fieldsOf 52 = #[{ name := "Name", type := 9, offset := 0, embedded := false, tag := "", pkgPath := "", byteOffset := 0 }, { name := "Type", type := 3, offset := 1, embedded := false, tag := "", pkgPath := "", byteOffset := 16 }] := by
  unfold Program.fieldsOf
  rw [Try.underlying52]
theorem heldK : Try.prog.stoodInHeld 52 = false := by kernel_rfl
theorem neq_k (W : World) (n : List UInt8) (t : Int) : (binOp .neq 52 (.agg #[.string ⟨n.toArray⟩, .int .i64 t]) (.agg #[.string ⟨n.toArray⟩, .int .i64 t])).run Try.prog W = .ok (.bool false) W := by
  rw [run_neq_struct, run_equalIn_struct W 9999 52 _ _ (by rw [fieldsK]; exact Try.underlying52) heldK, fieldsK]
  simp [Op.eqFields, go_sem]
theorem gread_at {ao : Option Addr} {len cap : Nat} {L : List Ge} {W : World} (h : GRead (.slice ao len cap) L W) {j : Nat} (hj : j < L.length) :
    ∃ g off, ao = some ⟨g, off, none⟩ ∧ W.cell? ⟨g, off + j * 3, none⟩ = some (.string ⟨L[j].name.toArray⟩) ∧ W.cell? ⟨g, off + j * 3 + 1, none⟩ = some (.int .i64 L[j].typ) ∧ W.cell? ⟨g, off + j * 3 + 2, none⟩ = some L[j].v := by
  obtain ⟨ao', cap', e, hc⟩ := h.form
  cases e
  exact hc j hj

set_option maxHeartbeats 8000000 in
theorem gsame_any (L1 L2 : List Ge) (va vb : Value) (w : World) (ha : GRead va L1 w) (hb' : GRead vb L2 w) (he : L1.map Ge.gr = L2.map Ge.gr) (hl : L1.length ≤ 100000) (hr : ∀ g ∈ L1, g.rrs.length ≤ 100000) :
    Calls Try.prog 24 #[va, vb] w fun e w' => e = .returned (.bool true) ∧ Below w.heap.size w w' := by
  have HA := Lib.hid ha
  have HB := Lib.hid hb'
  have hll : L1.length = L2.length := by have := congrArg List.length he; simpa using this
  obtain ⟨ao1, cp1, rfl, _⟩ := ha.form
  obtain ⟨ao2, cp2, rfl, _⟩ := hb'.form
  have hli : ((L1.length : Int) != (L2.length : Int)) = false := by rw [bne_eq_false_iff_eq]; omega
  have HE := Lib.hid he
  have HR := Lib.hid hr
  have HNEQ := Lib.hid neq_k
  clear ha hb' he hr
  go_enter Try.func24, Try.ntmps24
  go_wp2_with fail
  go_loopw [5] (fun i wr => ∃ k : Nat, i = .int .i64 (k : Int) ∧ k ≤ L1.length ∧ Below w.heap.size w wr) (fun i _ => L1.length + 1 - (intOf i).toNat)
  case atStart => exact ⟨0, rfl, by omega, Below.refl _ w⟩
  case round =>
    obtain ⟨k, rfl, hk, hbl⟩ := hrel
    by_cases hlt : k < L1.length
    · have hlt2 : k < L2.length := by omega
      obtain ⟨g1, f1, rfl, x0, x1, x2⟩ := gread_at (HA.out.below hbl) hlt
      obtain ⟨g2, f2, rfl, y0, y1, y2⟩ := gread_at (HB.out.below hbl) hlt2
      have hr1 := (HA.out.below hbl).each k hlt
      have hr2 := (HB.out.below hbl).each k hlt2
      have hg : L1[k].gr = L2[k].gr := by
        have := congrArg (fun l => l[k]?) HE.out
        simpa [hlt, hlt2] using this
      have hrl := HR.out L1[k] (List.getElem_mem hlt)
      obtain ⟨⟨n1, t1, r1, a1, c1⟩, e1⟩ : ∃ x, L1[k] = x := ⟨_, rfl⟩
      obtain ⟨⟨n2, t2, r2, a2, c2⟩, e2⟩ : ∃ x, L2[k] = x := ⟨_, rfl⟩
      rw [e1] at x0 x1 x2 hr1 hg hrl
      rw [e2] at y0 y1 y2 hr2 hg
      unfold Ge.gr at hg
      injection hg with h1 h2 h3
      simp only at h1 h2 h3
      subst h1 h2 h3
      simp only [Ge.v] at x0 x1 x2 y0 y1 y2 hr1 hr2 hrl
      obtain ⟨p1, hp1⟩ : ∃ p : Option Addr, a1.map (fun b => (⟨b, 0, none⟩ : Addr)) = p := ⟨_, rfl⟩
      obtain ⟨p2, hp2⟩ : ∃ p : Option Addr, a2.map (fun b => (⟨b, 0, none⟩ : Addr)) = p := ⟨_, rfl⟩
      rw [hp1] at x2 hr1
      rw [hp2] at y2 hr2
      have HRS := Lib.hid (fun W (hb : Below wr.heap.size wr W) => rrs_same r1 _ _ W (readR_below hr1 hb) (readR_below hr2 hb) (by omega))
      clear e1 e2 hp1 hp2 hr1 hr2
      have hmp : Try.prog.follows .mixedOrders = true := by kernel_rfl
      go_wp2_with fail
      refine wp_region_slots slotLe (slotPhi ((fun v _ => v = ?sg17) :: (fun v _ => v = ?sg18) :: (fun v _ => v = ?sg19) :: (fun v _ => v = ?sg20) :: (fun v _ => v = ?sg21) :: (fun v _ => v = ?sg22) :: (fun v _ => v = ?sg23) :: (fun v _ => v = ?sg24) :: (fun v _ => v = ?sg25) :: (fun v _ => v = ?sg26) :: (fun v _ => v = ?sg27) :: (fun v _ => v = ?sg28) :: (fun v _ => v = ?sg29) :: (fun v _ => v = ?sg30) :: (fun v _ => v = ?sg31) :: (fun v _ => v = ?sg32) :: (fun v _ => v = ?sg33) :: (fun v _ => v = ?sg34) :: (fun v _ => v = ?sg35) :: (fun v _ => v = ?sg36) :: (fun v _ => v = ?sg37) :: (fun v _ => v = ?sg38) :: (fun v _ => v = ?sg39) :: (fun v _ => v = ?sg40) :: (fun v _ => v = ?sg41) :: [])) slotLe_refl slotLe_trans (slotPhi_stable ?stb) (by kernel_rfl) (by kernel_rfl) (by kernel_rfl) ?steps ?fin
      case stb =>
        refine ⟨by intro _ _ _ _ h; exact h, ?_⟩
        refine ⟨by intro _ _ _ _ h; exact h, ?_⟩
        refine ⟨by intro _ _ _ _ h; exact h, ?_⟩
        refine ⟨by intro _ _ _ _ h; exact h, ?_⟩
        refine ⟨by intro _ _ _ _ h; exact h, ?_⟩
        refine ⟨by intro _ _ _ _ h; exact h, ?_⟩
        refine ⟨by intro _ _ _ _ h; exact h, ?_⟩
        refine ⟨by intro _ _ _ _ h; exact h, ?_⟩
        refine ⟨by intro _ _ _ _ h; exact h, ?_⟩
        refine ⟨by intro _ _ _ _ h; exact h, ?_⟩
        refine ⟨by intro _ _ _ _ h; exact h, ?_⟩
        refine ⟨by intro _ _ _ _ h; exact h, ?_⟩
        refine ⟨by intro _ _ _ _ h; exact h, ?_⟩
        refine ⟨by intro _ _ _ _ h; exact h, ?_⟩
        refine ⟨by intro _ _ _ _ h; exact h, ?_⟩
        refine ⟨by intro _ _ _ _ h; exact h, ?_⟩
        refine ⟨by intro _ _ _ _ h; exact h, ?_⟩
        refine ⟨by intro _ _ _ _ h; exact h, ?_⟩
        refine ⟨by intro _ _ _ _ h; exact h, ?_⟩
        refine ⟨by intro _ _ _ _ h; exact h, ?_⟩
        refine ⟨by intro _ _ _ _ h; exact h, ?_⟩
        refine ⟨by intro _ _ _ _ h; exact h, ?_⟩
        refine ⟨by intro _ _ _ _ h; exact h, ?_⟩
        refine ⟨by intro _ _ _ _ h; exact h, ?_⟩
        refine ⟨by intro _ _ _ _ h; exact h, ?_⟩
        exact trivial
      case steps =>
        refine ⟨?_, ?_⟩
        · intro a W K N hK
          have e0 : a.tmps[0]?.getD undef = .slice (some ⟨g1, f1, none⟩) L1.length cp1 := N.was' 0 _ (by kernel_rfl) rfl
          rw [if_pos (wanted_no rfl)]
          go_simp
          refine hK _ _ (slotLe_refl _) ?_
          exact rfl
        refine ⟨?_, ?_⟩
        · intro a W K N hK
          have e5 : a.tmps[5]?.getD undef = .int .i64 (k : Int) := N.was' 5 _ (by kernel_rfl) rfl
          rw [if_pos (wanted_no rfl)]
          go_simp
          refine hK _ _ (slotLe_refl _) ?_
          exact rfl
        refine ⟨?_, ?_⟩
        · intro a W K N hK
          have e17 : a.tmps[17]?.getD undef = _ := N.dep' 0 17 (by kernel_rfl)
          have e18 : a.tmps[18]?.getD undef = _ := N.dep' 1 18 (by kernel_rfl)
          rw [if_pos (wanted_no rfl)]
          go_simp
          refine hK _ _ (slotLe_refl _) ?_
          exact rfl
        refine ⟨?_, ?_⟩
        · intro a W K N hK
          have e19 : a.tmps[19]?.getD undef = _ := N.dep' 2 19 (by kernel_rfl)
          rw [if_pos (wanted_no rfl)]
          go_simp
          refine hK _ _ (slotLe_refl _) ?_
          exact rfl
        refine ⟨?_, ?_⟩
        · intro a W K N hK
          have e20 : a.tmps[20]?.getD undef = _ := N.dep' 3 20 (by kernel_rfl)
          rw [if_pos (wanted_no rfl)]
          have z0 := keep_cell N.le x0
          have z1 := keep_cell N.le x1
          go_simp
          refine hK _ _ (slotLe_refl _) ?_
          exact rfl
        refine ⟨?_, ?_⟩
        · intro a W K N hK
          have e1 : a.tmps[1]?.getD undef = .slice (some ⟨g2, f2, none⟩) L2.length cp2 := N.was' 1 _ (by kernel_rfl) rfl
          rw [if_pos (wanted_no rfl)]
          go_simp
          refine hK _ _ (slotLe_refl _) ?_
          exact rfl
        refine ⟨?_, ?_⟩
        · intro a W K N hK
          have e5 : a.tmps[5]?.getD undef = .int .i64 (k : Int) := N.was' 5 _ (by kernel_rfl) rfl
          rw [if_pos (wanted_no rfl)]
          go_simp
          refine hK _ _ (slotLe_refl _) ?_
          exact rfl
        refine ⟨?_, ?_⟩
        · intro a W K N hK
          have e22 : a.tmps[22]?.getD undef = _ := N.dep' 5 22 (by kernel_rfl)
          have e23 : a.tmps[23]?.getD undef = _ := N.dep' 6 23 (by kernel_rfl)
          rw [if_pos (wanted_no rfl)]
          go_simp
          refine hK _ _ (slotLe_refl _) ?_
          exact rfl
        refine ⟨?_, ?_⟩
        · intro a W K N hK
          have e24 : a.tmps[24]?.getD undef = _ := N.dep' 7 24 (by kernel_rfl)
          rw [if_pos (wanted_no rfl)]
          go_simp
          refine hK _ _ (slotLe_refl _) ?_
          exact rfl
        refine ⟨?_, ?_⟩
        · intro a W K N hK
          have e25 : a.tmps[25]?.getD undef = _ := N.dep' 8 25 (by kernel_rfl)
          rw [if_pos (wanted_no rfl)]
          have z0 := keep_cell N.le y0
          have z1 := keep_cell N.le y1
          go_simp
          refine hK _ _ (slotLe_refl _) ?_
          exact rfl
        refine ⟨?_, ?_⟩
        · intro a W K N hK
          have e21 : a.tmps[21]?.getD undef = _ := N.dep' 4 21 (by kernel_rfl)
          have e26 : a.tmps[26]?.getD undef = _ := N.dep' 9 26 (by kernel_rfl)
          rw [if_pos (wanted_no rfl)]
          have hn := HNEQ.out
          go_simp
          refine hK _ _ (slotLe_refl _) ?_
          exact rfl
        refine ⟨?_, ?_⟩
        · intro a W K N hK
          have e27 : a.tmps[27]?.getD undef = _ := N.dep' 10 27 (by kernel_rfl)
          rw [if_pos (wanted_no rfl)]
          go_simp
          refine hK _ _ (slotLe_refl _) ?_
          exact rfl
        refine ⟨?_, ?_⟩
        · intro a W K N hK
          have e0 : a.tmps[0]?.getD undef = .slice (some ⟨g1, f1, none⟩) L1.length cp1 := N.was' 0 _ (by kernel_rfl) rfl
          have eg : a.tmps[28]?.getD undef = .bool false := N.dep' 11 28 (by kernel_rfl)
          rw [if_pos (by rw [wanted_get (g := 11) (d := 28) rfl rfl eg]; decide)]
          clear eg
          go_simp
          refine hK _ _ (slotLe_refl _) ?_
          exact rfl
        refine ⟨?_, ?_⟩
        · intro a W K N hK
          have e5 : a.tmps[5]?.getD undef = .int .i64 (k : Int) := N.was' 5 _ (by kernel_rfl) rfl
          have eg : a.tmps[28]?.getD undef = .bool false := N.dep' 11 28 (by kernel_rfl)
          rw [if_pos (by rw [wanted_get (g := 11) (d := 28) rfl rfl eg]; decide)]
          clear eg
          go_simp
          refine hK _ _ (slotLe_refl _) ?_
          exact rfl
        refine ⟨?_, ?_⟩
        · intro a W K N hK
          have e29 : a.tmps[29]?.getD undef = _ := N.dep' 12 29 (by kernel_rfl)
          have e30 : a.tmps[30]?.getD undef = _ := N.dep' 13 30 (by kernel_rfl)
          have eg : a.tmps[28]?.getD undef = .bool false := N.dep' 11 28 (by kernel_rfl)
          rw [if_pos (by rw [wanted_get (g := 11) (d := 28) rfl rfl eg]; decide)]
          clear eg
          go_simp
          refine hK _ _ (slotLe_refl _) ?_
          exact rfl
        refine ⟨?_, ?_⟩
        · intro a W K N hK
          have e31 : a.tmps[31]?.getD undef = _ := N.dep' 14 31 (by kernel_rfl)
          have eg : a.tmps[28]?.getD undef = .bool false := N.dep' 11 28 (by kernel_rfl)
          rw [if_pos (by rw [wanted_get (g := 11) (d := 28) rfl rfl eg]; decide)]
          clear eg
          go_simp
          refine hK _ _ (slotLe_refl _) ?_
          exact rfl
        refine ⟨?_, ?_⟩
        · intro a W K N hK
          have e32 : a.tmps[32]?.getD undef = _ := N.dep' 15 32 (by kernel_rfl)
          have eg : a.tmps[28]?.getD undef = .bool false := N.dep' 11 28 (by kernel_rfl)
          rw [if_pos (by rw [wanted_get (g := 11) (d := 28) rfl rfl eg]; decide)]
          clear eg
          have z0 := keep_cell N.le x2
          go_simp
          refine hK _ _ (slotLe_refl _) ?_
          exact rfl
        refine ⟨?_, ?_⟩
        · intro a W K N hK
          have e1 : a.tmps[1]?.getD undef = .slice (some ⟨g2, f2, none⟩) L2.length cp2 := N.was' 1 _ (by kernel_rfl) rfl
          have eg : a.tmps[28]?.getD undef = .bool false := N.dep' 11 28 (by kernel_rfl)
          rw [if_pos (by rw [wanted_get (g := 11) (d := 28) rfl rfl eg]; decide)]
          clear eg
          go_simp
          refine hK _ _ (slotLe_refl _) ?_
          exact rfl
        refine ⟨?_, ?_⟩
        · intro a W K N hK
          have e5 : a.tmps[5]?.getD undef = .int .i64 (k : Int) := N.was' 5 _ (by kernel_rfl) rfl
          have eg : a.tmps[28]?.getD undef = .bool false := N.dep' 11 28 (by kernel_rfl)
          rw [if_pos (by rw [wanted_get (g := 11) (d := 28) rfl rfl eg]; decide)]
          clear eg
          go_simp
          refine hK _ _ (slotLe_refl _) ?_
          exact rfl
        refine ⟨?_, ?_⟩
        · intro a W K N hK
          have e34 : a.tmps[34]?.getD undef = _ := N.dep' 17 34 (by kernel_rfl)
          have e35 : a.tmps[35]?.getD undef = _ := N.dep' 18 35 (by kernel_rfl)
          have eg : a.tmps[28]?.getD undef = .bool false := N.dep' 11 28 (by kernel_rfl)
          rw [if_pos (by rw [wanted_get (g := 11) (d := 28) rfl rfl eg]; decide)]
          clear eg
          go_simp
          refine hK _ _ (slotLe_refl _) ?_
          exact rfl
        refine ⟨?_, ?_⟩
        · intro a W K N hK
          have e36 : a.tmps[36]?.getD undef = _ := N.dep' 19 36 (by kernel_rfl)
          have eg : a.tmps[28]?.getD undef = .bool false := N.dep' 11 28 (by kernel_rfl)
          rw [if_pos (by rw [wanted_get (g := 11) (d := 28) rfl rfl eg]; decide)]
          clear eg
          go_simp
          refine hK _ _ (slotLe_refl _) ?_
          exact rfl
        refine ⟨?_, ?_⟩
        · intro a W K N hK
          have e37 : a.tmps[37]?.getD undef = _ := N.dep' 20 37 (by kernel_rfl)
          have eg : a.tmps[28]?.getD undef = .bool false := N.dep' 11 28 (by kernel_rfl)
          rw [if_pos (by rw [wanted_get (g := 11) (d := 28) rfl rfl eg]; decide)]
          clear eg
          have z0 := keep_cell N.le y2
          go_simp
          refine hK _ _ (slotLe_refl _) ?_
          exact rfl
        refine ⟨?_, ?_⟩
        · intro a W K N hK
          have e33 : a.tmps[33]?.getD undef = _ := N.dep' 16 33 (by kernel_rfl)
          have e38 : a.tmps[38]?.getD undef = _ := N.dep' 21 38 (by kernel_rfl)
          have eg : a.tmps[28]?.getD undef = .bool false := N.dep' 11 28 (by kernel_rfl)
          rw [if_pos (by rw [wanted_get (g := 11) (d := 28) rfl rfl eg]; decide)]
          clear eg
          go_simp
          refine (HRS.out _ (below_undrew N.le)).mono ?_
          rintro e w4 ⟨rfl, b4⟩
          refine hK _ _ b4 ?_
          exact rfl
        refine ⟨?_, ?_⟩
        · intro a W K N hK
          have e39 : a.tmps[39]?.getD undef = _ := N.dep' 22 39 (by kernel_rfl)
          have eg : a.tmps[28]?.getD undef = .bool false := N.dep' 11 28 (by kernel_rfl)
          rw [if_pos (by rw [wanted_get (g := 11) (d := 28) rfl rfl eg]; decide)]
          clear eg
          go_simp
          refine hK _ _ (slotLe_refl _) ?_
          exact rfl
        refine ⟨?_, ?_⟩
        · intro a W K N hK
          have e28 : a.tmps[28]?.getD undef = _ := N.dep' 11 28 (by kernel_rfl)
          have e40 : a.tmps[40]?.getD undef = _ := N.dep' 23 40 (by kernel_rfl)
          rw [if_pos (wanted_no rfl)]
          go_simp
          refine hK _ _ (slotLe_refl _) ?_
          exact rfl
        exact trivial
      case fin =>
        intro W1 hW1
        simp only [FinAll, slotPhi, List.getD_cons_zero, List.getD_cons_succ, forall_eq, Act.put, List.setIfInBounds_toArray, List.set_cons_zero, List.set_cons_succ]
        have bW1 := below_trans hbl (below_undrew hW1)
        go_wp2_with fail
        go_roundw
        case rel => exact ⟨k + 1, by go_num, by omega, bW1⟩
        case measure => simp [intOf]; omega
    · obtain rfl : k = L1.length := by omega
      go_wp2_with fail
      go_ret
      exact ⟨rfl, hbl⟩
end Go.Proofs.Ytjbigdmhmfjjpaa

/- How many records are told: as many as are unlike. -/
namespace Go.Proofs.Ytjbigdmhmfjjpaa
namespace Mt
open Rd
theorem snoc_ind {P : List RR → Prop} (h0 : P []) (h1 : ∀ l r, P l → P (l ++ [r])) : ∀ l, P l := by
  intro l
  rw [← List.reverse_reverse l]
  induction l.reverse with
  | nil => exact h0
  | cons r l ih => rw [List.reverse_cons]; exact h1 _ _ ih
theorem sameR_trans {a b c : RR} (h : sameR a b = true) (k : sameR b c = true) : sameR a c = true := sameR_iff.2 ((sameR_iff.1 h).trans (sameR_iff.1 k))
theorem met_sets (l : List RR) : ∀ r : RR, r.cls = 1 → met (sets l) r = l.any (fun x => sameR x r) := by
  refine snoc_ind (P := fun l => ∀ r : RR, r.cls = 1 → met (sets l) r = l.any (fun x => sameR x r)) (fun r _ => rfl) (fun l x ih r hr => ?_) l
  rw [sets_snoc, List.any_append]
  simp only [List.any_cons, List.any_nil, Bool.or_false]
  rw [← ih r hr]
  unfold step
  split
  · exact met_put _ _ _
  · rename_i hc
    cases hs : sameR x r with
    | false => rw [Bool.or_false]
    | true =>
      have hx : x.cls = 1 := by rw [(sameR_key hs).2.2]; exact hr
      have hm : met (sets l) x = true := by
        cases h : met (sets l) x with
        | true => rfl
        | false => exact absurd ⟨hx, h⟩ hc
      rw [Bool.or_true]
      unfold met at hm ⊢
      rw [List.any_eq_true] at hm ⊢
      obtain ⟨g, hg, hy⟩ := hm
      refine ⟨g, hg, ?_⟩
      rw [List.any_eq_true] at hy ⊢
      obtain ⟨y, hy1, hy2⟩ := hy
      exact ⟨y, hy1, sameR_trans hy2 hs⟩
/-- How many there are in groups. -/
def cnt (gs : List Gr) : Nat := (gs.map fun g => g.rrs.length).sum
/-- Is the record at i the first of its like, and of the class? -/
def firstAt (l : List RR) (i : Nat) : Bool := match l[i]? with
  | some r => decide (r.cls = 1) && !(l.take i).any (fun x => sameR x r)
  | none => false
def unlike (l : List RR) (i : Nat) : Nat := (List.range i).countP (firstAt l)
theorem cnt_put (gs : List Gr) (r : RR) : cnt (put gs r) = cnt gs + 1 := by
  have hlt := openK_len gs (Nm.fold r.name) r.typ
  have ho : cnt (openK gs (Nm.fold r.name) r.typ) = cnt gs := by
    unfold openK cnt
    split
    · rfl
    · simp
  rw [← ho]
  unfold put
  generalize openK gs (Nm.fold r.name) r.typ = G at *
  generalize atK gs (Nm.fold r.name) r.typ = i at *
  clear ho
  unfold cnt
  induction G generalizing i with
  | nil => simp at hlt
  | cons g G ih =>
    cases i with
    | zero => simp [List.modify_zero_cons, add]; omega
    | succ i =>
      have := ih i (by simpa using hlt)
      simp only [List.modify_succ_cons, List.map_cons, List.sum_cons] at this ⊢
      omega
theorem unlike_succ (l : List RR) (i : Nat) : unlike l (i + 1) = unlike l i + if firstAt l i then 1 else 0 := by
  unfold unlike
  rw [List.range_succ, List.countP_append]
  simp [List.countP_cons]
theorem cnt_take (l : List RR) : ∀ i, i ≤ l.length → cnt (sets (l.take i)) = unlike l i := by
  intro i
  induction i with
  | zero => intro _; rfl
  | succ i ih =>
    intro h
    have hlt : i < l.length := by omega
    rw [sets_take hlt, unlike_succ, ← ih (by omega)]
    have hfa : firstAt l i = (decide (l[i].cls = 1) && !(l.take i).any (fun x => sameR x l[i])) := by unfold firstAt; rw [List.getElem?_eq_getElem hlt]
    rw [hfa]
    unfold step
    by_cases hc : l[i].cls = 1
    · rw [met_sets _ _ hc]
      by_cases hm : (l.take i).any (fun x => sameR x l[i]) = true
      · rw [if_neg (fun h => by rw [hm] at h; exact absurd h.2 (by simp))]; simp [hm]
      · have hm' : (l.take i).any (fun x => sameR x l[i]) = false := by simpa using hm
        rw [if_pos ⟨hc, hm'⟩, cnt_put]
        simp [hc, hm']
    · rw [if_neg (fun h => hc h.1)]; simp [hc]
theorem cnt_sets (l : List RR) : cnt (sets l) = unlike l l.length := by
  have := cnt_take l l.length (Nat.le_refl _)
  rwa [List.take_length] at this
theorem cnt_step {gs : List Gr} {i : Nat} (h : i < gs.length) : cnt (gs.take (i + 1)) = cnt (gs.take i) + gs[i].rrs.length := by
  unfold cnt
  rw [List.take_succ_eq_append_getElem h, List.map_append, List.sum_append]
  simp
theorem cnt_le (gs : List Gr) (i : Nat) : cnt (gs.take i) ≤ cnt gs := by
  unfold cnt
  conv => rhs; rw [← List.take_append_drop i gs, List.map_append, List.sum_append]
  omega
theorem unlike_le (l : List RR) (i : Nat) : unlike l i ≤ i := by
  unfold unlike
  exact Nat.le_trans List.countP_le_length (by simp)
end Mt
end Go.Proofs.Ytjbigdmhmfjjpaa

/- An argument that is a list of records. -/
set_option maxRecDepth 100000
namespace Go.Proofs.Ytjbigdmhmfjjpaa
open Go.RowKit Go.Shelf Go.Maps Go.ChangeShapes Go.WideShapes Go.ChangeAt

theorem arg_rrl {H : Type} {enc : TypeId × Value → H} {W : World} {b0 : Nat} {v : Value} {d : DataW H} {ps : List MemPlace} (hval : Value.okWide Try.prog W .any b0 25 v) (hd : DataW.Trod enc Try.prog W 0 (fun _ => true) true 25 v d ps) :
    ∃ l, ReadR v l W ∧ l.length ≤ 9223372036854775807 ∧ (∀ r ∈ l, r.name.length ≤ 9223372036854775807 ∧ r.data.length ≤ 9223372036854775807) ∧ IntsR l := by
  obtain ⟨a0, len, cap, rfl⟩ := okWide_slice Try.underlying25 hval
  obtain ⟨fuel, hf⟩ := hd
  obtain ⟨l, h1, h2, h3⟩ := arg_rrs hf
  exact ⟨l, h1, h2, fun r hr => ⟨(h3 r hr).1, (h3 r hr).2.1⟩, fun r hr => (h3 r hr).2.2⟩

end Go.Proofs.Ytjbigdmhmfjjpaa

/- MatchSets of freshetlaw5. -/
set_option maxRecDepth 100000
namespace Go.Proofs.Ytjbigdmhmfjjpaa
open Go.RowKit Go.Shelf Go.Maps
attribute [local go_sem] Oper.semAt_some

theorem eql_k_ne (W : World) {n n2 : List UInt8} {t t2 : Int} (h : ¬ (n = n2 ∧ t = t2)) : (binOp .eql 52 (.agg #[.string ⟨n.toArray⟩, .int .i64 t]) (.agg #[.string ⟨n2.toArray⟩, .int .i64 t2])).run Try.prog W = .ok (.bool false) W := by
  rw [run_eql_struct, run_equalIn_struct W 9999 52 _ _ (by rw [fieldsK]; exact Try.underlying52) heldK, fieldsK]
  by_cases hn : n = n2
  · have ht : (t == t2) = false := by simpa using fun e => h ⟨hn, e⟩
    subst hn
    simp [Op.eqFields, go_sem, ht]
  · simp [Op.eqFields, go_sem, hn]

theorem sets_facts {l : List Rd.RR} {L : List Ge} (hm : L.map Ge.gr = Mt.sets l) {i : Nat} (hi : i < L.length) :
    L[i].gr.rrs ≠ [] ∧ (∀ x ∈ L[i].gr.rrs, Nm.fold x.name = L[i].gr.name ∧ x.typ = L[i].gr.typ ∧ x.cls = 1) ∧ (∀ x ∈ L[i].gr.rrs, x ∈ l) ∧ Mt.cnt ((Mt.sets l).take (i + 1)) = Mt.cnt ((Mt.sets l).take i) + L[i].gr.rrs.length ∧
    (∀ k (_hk : k < i) (hk2 : k < L.length), ¬ (L[k].name = L[i].name ∧ L[k].typ = L[i].typ)) ∧ Mt.cnt ((Mt.sets l).take (i + 1)) ≤ Mt.cnt (Mt.sets l) := by
  have hok := Mt.ok_sets l
  have hsub := Mt.mem_sets l
  rw [← hm] at hok hsub ⊢
  have hmem : L[i].gr ∈ L.map Ge.gr := List.mem_map.2 ⟨_, List.getElem_mem _, rfl⟩
  have hil : i < (L.map Ge.gr).length := by rw [List.length_map]; exact hi
  have hcs := Mt.cnt_step hil
  rw [List.getElem_map] at hcs
  refine ⟨hok.full _ hmem, hok.keyed _ hmem, hsub _ hmem, hcs, fun k hk hk2 => ?_, Mt.cnt_le _ _⟩
  have h := List.pairwise_iff_getElem.1 hok.apart k i (by rw [List.length_map]; exact hk2) hil hk
  rw [List.getElem_map, List.getElem_map] at h
  exact h

theorem run_takeG {ao : Option Addr} {cap : Nat} {L : List Ge} (hcap : L.length ≤ cap) {k : Nat} (hk : k ≤ L.length) :
    ∃ v, (∀ W' : World, (Instr.slice 43 (.slice ao L.length cap) none (some (.int .i64 (k : Int))) none).run Try.prog W' = .ok v W') ∧ (∀ W', GRead (.slice ao L.length cap) L W' → GRead v (L.take k) W') := by
  have hu : Try.prog.underlying 43 = some (.slice (Try.prog.elem 43)) := by kernel_rfl
  have hs : ∀ W', (sizeOf (Try.prog.elem 43)).run Try.prog W' = .ok 3 W' := fun W' => by
    obtain ⟨i, hi, _, h1, _⟩ := info_parts infoH
    have he : Try.prog.elem 43 = 54 := by kernel_rfl
    rw [he]
    simp [sizeOf, typeInfo, hi, h1]
  refine ⟨sliced ao 0 k cap 3, fun W' => by rw [run_slice_h (w := W') 43 ao L.length cap hu .i64 (k : Int) (by omega) (by omega), hs W']; rfl, fun W' h' => ⟨?_, fun i hi => ?_⟩⟩
  · refine ⟨_, _, by rw [List.length_take, Nat.min_eq_left hk]; rfl, fun j hj => ?_⟩
    rw [List.length_take] at hj
    obtain ⟨ao', cap', e, hc⟩ := h'.form
    cases e
    obtain ⟨g, off, e, c0, c1, c2⟩ := hc j (by omega)
    subst e
    refine ⟨g, off, ?_, ?_⟩
    · split
      · rfl
      · simp [Addr.add]
    · rw [List.getElem_take]
      exact ⟨c0, c1, c2⟩
  · rw [List.getElem_take]
    rw [List.length_take] at hi
    exact h'.each i (by omega)

set_option maxHeartbeats 16000000 in
theorem msets_any (l : List Rd.RR) (sv : Value) (z : Int) (w : World) (hr : ReadR sv l w) (hl : l.length ≤ 9223372036854775807) (hll : ∀ r ∈ l, r.name.length ≤ 9223372036854775807 ∧ r.data.length ≤ 9223372036854775807) (hi : IntsR l) (hz : -9223372036854775808 ≤ z ∧ z ≤ 9223372036854775807) :
    Calls Try.prog 6 #[sv, .int .i64 z] w fun e w' => e = .returned (.bool true) ∧ Below w.heap.size w w' := by
  have HAW := Lib.hid mawake_any
  obtain ⟨as2, cs2, rfl, _⟩ := hr.form
  have SR := Lib.hid (records_any l 3000 _ _ hr hl hll (by omega))
  have HR := Lib.hid hr
  have HI := Lib.hid hi
  clear hr hl hll hi
  go_enter Try.func6, Try.ntmps6
  go_wp2_with fail
  refine SR.out.mono ?_
  rintro e w1 ⟨b, rfl, hfw, b1⟩
  have HB1 := Lib.hid b1
  have HR1 := Lib.hid (readR_below HR.out b1)
  clear SR HR b1
  cases b with
  | false =>
    go_wp2_with fail
    refine (HAW.out _).mono ?_
    rintro e w3 ⟨rfl, b3⟩
    go_wp2_with fail
    go_ret
    exact ⟨rfl, below_trans HB1.out b3⟩
  | true =>
  have hF := hfw rfl
  clear hfw
  have hll := hF.len
  have hfine : ∀ r ∈ l, Fine r := fun r h => ⟨by have := (hF.all r h).1; omega, by have := (hF.all r h).2; omega, (HI.out r h).1, (HI.out r h).2.1, (HI.out r h).2.2⟩
  have HFI := Lib.hid hfine
  have HGR := Lib.hid (fun z W (h : ReadR (.slice as2 l.length cs2) l W) (hz : -9223372036854775808 ≤ z ∧ z ≤ 9223372036854775807) => groups_any l z _ W h hfine (by omega) hz)
  clear hF hfine HI
  go_wp2_with fail
  refine (HGR.out (-1) _ HR1.out (by omega)).mono ?_
  rintro e w2 ⟨v5, L, rfl, hG, hm, b2⟩
  rw [show mostOf (Mt.sets l) (-1) = Mt.sets l from by unfold mostOf; rw [if_neg (by omega)]] at hm
  obtain ⟨ao, cp, rfl, _⟩ := ownK_form hG.row
  have HB2 := Lib.hid (below_trans HB1.out b2)
  have HR2 := Lib.hid (readR_below HR1.out b2)
  have HG := Lib.hid hG.read
  have HCAP := Lib.hid (ownK_cap hG.row).2.1
  have HM := Lib.hid hm
  have hLl : L.length = (Mt.sets l).length := by rw [← hm, List.length_map]
  have hLk : L.length ≤ 3000 := by have := Mt.sets_len l; omega
  have HLL := Lib.hid hLl
  clear hLl
  have hcl : Mt.cnt (Mt.sets l) ≤ 3000 := by rw [Mt.cnt_sets]; have := Mt.unlike_le l l.length; omega
  clear hG hm b2 HB1 HR1
  go_wp2_with fail
  go_loopw [6, 7] (fun n j wr => ∃ i : Nat, j = .int .i64 (i : Int) ∧ i ≤ L.length ∧ n = .int .i64 (Mt.cnt ((Mt.sets l).take i) : Int) ∧ Below w2.heap.size w2 wr) (fun _ j _ => L.length + 1 - (intOf j).toNat)
  case atStart => exact ⟨0, rfl, by omega, rfl, Below.refl _ _⟩
  case round =>
    obtain ⟨i, rfl, hi, rfl, hbi⟩ := hrel
    obtain ⟨WO, hWO⟩ : ∃ W, wr = W := ⟨_, rfl⟩
    rw [hWO] at hbi ⊢
    clear hWO
    by_cases hlt : i < L.length
    · obtain ⟨g, f, rfl, x0, x1, x2⟩ := gread_at (HG.out.below hbi) hlt
      have hri := (HG.out.below hbi).each i hlt
      obtain ⟨hfull, hkey, hsub, hcs, hap, hcl2⟩ := sets_facts HM.out hlt
      obtain ⟨⟨gn, gt, gr, gao, gcap⟩, hge⟩ : ∃ x, L[i] = x := ⟨_, rfl⟩
      rw [hge] at x0 x1 x2 hri hfull hkey hsub hcs
      simp only [hge] at hap
      simp only [Ge.gr] at hfull hkey hsub hcs
      simp only [Ge.v] at x0 x1 x2 hri
      obtain ⟨p, hp⟩ : ∃ p : Option Addr, gao.map (fun b => (⟨b, 0, none⟩ : Addr)) = p := ⟨_, rfl⟩
      rw [hp] at x2 hri
      have hgl : ((gr.length : Int) == 0) = false := by rw [beq_eq_false_iff_ne]; have := List.length_pos_iff.2 hfull; omega
      have HAP := Lib.hid hap
      have HKEY := Lib.hid hkey
      have HSUB := Lib.hid hsub
      have HRI := Lib.hid hri
      have X0 := Lib.hid x0
      have X1 := Lib.hid x1
      have X2 := Lib.hid x2
      have HCS := Lib.hid hcs
      clear hge hp hri hap hkey hsub hcs hfull
      go_wp2_with fail
      go_loopw [8] (fun j wk => ∃ k : Nat, j = .int .i64 (k : Int) ∧ k ≤ i ∧ Below WO.heap.size WO wk) (fun j _ => i + 1 - (intOf j).toNat)
      case atStart => exact ⟨0, rfl, by omega, Below.refl _ _⟩
      case round =>
        obtain ⟨k, rfl, hk, hbk⟩ := hrel
        by_cases hki : k < i
        · obtain ⟨_, _, e, y0, y1, y2⟩ := gread_at (HG.out.below (below_trans hbi hbk)) (show k < L.length by omega)
          cases e
          have hne := HAP.out k hki (by omega)
          obtain ⟨⟨kn, kt, kr, kao, kcap⟩, hke⟩ : ∃ x, L[k] = x := ⟨_, rfl⟩
          rw [hke] at y0 y1
          simp only [hke] at hne
          have HNE := Lib.hid (fun W => eql_k_ne W hne)
          have x0 := keep_cell hbk X0.out
          have x1 := keep_cell hbk X1.out
          have hkL : k < L.length := by omega
          clear hke hne y2
          have hmp : Try.prog.follows .mixedOrders = true := by kernel_rfl
          go_wp2_with fail
          refine wp_region_slots slotLe (slotPhi ((fun v _ => v = ?sa40) :: (fun v _ => v = ?sa41) :: (fun v _ => v = ?sa42) :: (fun v _ => v = ?sa43) :: (fun v _ => v = ?sa44) :: (fun v _ => v = ?sa45) :: (fun v _ => v = ?sa46) :: (fun v _ => v = ?sa47) :: (fun v _ => v = ?sa48) :: (fun v _ => v = ?sa49) :: (fun v _ => v = ?sa50) :: [])) slotLe_refl slotLe_trans (slotPhi_stable ?stb) (by kernel_rfl) (by kernel_rfl) (by kernel_rfl) ?steps ?fin
          case stb =>
            refine ⟨by intro _ _ _ _ h; exact h, ?_⟩
            refine ⟨by intro _ _ _ _ h; exact h, ?_⟩
            refine ⟨by intro _ _ _ _ h; exact h, ?_⟩
            refine ⟨by intro _ _ _ _ h; exact h, ?_⟩
            refine ⟨by intro _ _ _ _ h; exact h, ?_⟩
            refine ⟨by intro _ _ _ _ h; exact h, ?_⟩
            refine ⟨by intro _ _ _ _ h; exact h, ?_⟩
            refine ⟨by intro _ _ _ _ h; exact h, ?_⟩
            refine ⟨by intro _ _ _ _ h; exact h, ?_⟩
            refine ⟨by intro _ _ _ _ h; exact h, ?_⟩
            refine ⟨by intro _ _ _ _ h; exact h, ?_⟩
            exact trivial
          case steps =>
            refine ⟨?_, ?_⟩
            · intro a W K N hK
              have e5 : a.tmps[5]?.getD undef = .slice (some ⟨g, f, none⟩) L.length cp := N.was' 5 _ (by kernel_rfl) rfl
              rw [if_pos (wanted_no rfl)]
              go_simp
              refine hK _ _ (slotLe_refl _) ?_
              exact rfl
            refine ⟨?_, ?_⟩
            · intro a W K N hK
              have e8 : a.tmps[8]?.getD undef = .int .i64 (k : Int) := N.was' 8 _ (by kernel_rfl) rfl
              rw [if_pos (wanted_no rfl)]
              go_simp
              refine hK _ _ (slotLe_refl _) ?_
              exact rfl
            refine ⟨?_, ?_⟩
            · intro a W K N hK
              have e40 : a.tmps[40]?.getD undef = _ := N.dep' 0 40 (by kernel_rfl)
              have e41 : a.tmps[41]?.getD undef = _ := N.dep' 1 41 (by kernel_rfl)
              rw [if_pos (wanted_no rfl)]
              go_simp
              refine hK _ _ (slotLe_refl _) ?_
              exact rfl
            refine ⟨?_, ?_⟩
            · intro a W K N hK
              have e42 : a.tmps[42]?.getD undef = _ := N.dep' 2 42 (by kernel_rfl)
              rw [if_pos (wanted_no rfl)]
              go_simp
              refine hK _ _ (slotLe_refl _) ?_
              exact rfl
            refine ⟨?_, ?_⟩
            · intro a W K N hK
              have e43 : a.tmps[43]?.getD undef = _ := N.dep' 3 43 (by kernel_rfl)
              rw [if_pos (wanted_no rfl)]
              have z0 := keep_cell N.le y0
              have z1 := keep_cell N.le y1
              go_simp
              refine hK _ _ (slotLe_refl _) ?_
              exact rfl
            refine ⟨?_, ?_⟩
            · intro a W K N hK
              have e5 : a.tmps[5]?.getD undef = .slice (some ⟨g, f, none⟩) L.length cp := N.was' 5 _ (by kernel_rfl) rfl
              rw [if_pos (wanted_no rfl)]
              go_simp
              refine hK _ _ (slotLe_refl _) ?_
              exact rfl
            refine ⟨?_, ?_⟩
            · intro a W K N hK
              have e7 : a.tmps[7]?.getD undef = .int .i64 (i : Int) := N.was' 7 _ (by kernel_rfl) rfl
              rw [if_pos (wanted_no rfl)]
              go_simp
              refine hK _ _ (slotLe_refl _) ?_
              exact rfl
            refine ⟨?_, ?_⟩
            · intro a W K N hK
              have e45 : a.tmps[45]?.getD undef = _ := N.dep' 5 45 (by kernel_rfl)
              have e46 : a.tmps[46]?.getD undef = _ := N.dep' 6 46 (by kernel_rfl)
              rw [if_pos (wanted_no rfl)]
              go_simp
              refine hK _ _ (slotLe_refl _) ?_
              exact rfl
            refine ⟨?_, ?_⟩
            · intro a W K N hK
              have e47 : a.tmps[47]?.getD undef = _ := N.dep' 7 47 (by kernel_rfl)
              rw [if_pos (wanted_no rfl)]
              go_simp
              refine hK _ _ (slotLe_refl _) ?_
              exact rfl
            refine ⟨?_, ?_⟩
            · intro a W K N hK
              have e48 : a.tmps[48]?.getD undef = _ := N.dep' 8 48 (by kernel_rfl)
              rw [if_pos (wanted_no rfl)]
              have z0 := keep_cell N.le x0
              have z1 := keep_cell N.le x1
              go_simp
              refine hK _ _ (slotLe_refl _) ?_
              exact rfl
            refine ⟨?_, ?_⟩
            · intro a W K N hK
              have e44 : a.tmps[44]?.getD undef = _ := N.dep' 4 44 (by kernel_rfl)
              have e49 : a.tmps[49]?.getD undef = _ := N.dep' 9 49 (by kernel_rfl)
              rw [if_pos (wanted_no rfl)]
              have hn := HNE.out
              go_simp
              refine hK _ _ (slotLe_refl _) ?_
              exact rfl
            exact trivial
          case fin =>
            intro W1 hW1
            simp only [FinAll, slotPhi, List.getD_cons_zero, List.getD_cons_succ, forall_eq, Act.put, List.setIfInBounds_toArray, List.set_cons_zero, List.set_cons_succ]
            have bU := below_undrew hW1
            go_wp2_with fail
            go_roundw
            case rel => exact ⟨k + 1, by go_num, by omega, below_trans hbk bU⟩
            case measure => simp [intOf]; omega
        · obtain rfl : k = i := by omega
          obtain ⟨WA, hWA⟩ : ∃ W, wr = W := ⟨_, rfl⟩
          rw [hWA] at hbk ⊢
          clear hWA
          have HBK := Lib.hid hbk
          go_wp2_with fail
          go_loopw [6, 9] (fun n j wc => ∃ q : Nat, j = .int .i64 (q : Int) ∧ q ≤ gr.length ∧ n = .int .i64 ((Mt.cnt ((Mt.sets l).take k) : Int) + (q : Int)) ∧ Below WA.heap.size WA wc) (fun _ j _ => gr.length + 1 - (intOf j).toNat)
          case atStart => exact ⟨0, rfl, by omega, by simp, Below.refl _ _⟩
          case round =>
            obtain ⟨q, rfl, hq, rfl, hbc⟩ := hrel
            have bq := below_trans HBK.out hbc
            have x0 := keep_cell bq X0.out
            have x1 := keep_cell bq X1.out
            have x2 := keep_cell bq X2.out
            by_cases hqg : q < gr.length
            · obtain ⟨g3, f3, rfl, r0, r1, r2, r3, r4⟩ := readR_at (readR_below HRI.out bq) hqg
              have hkq := HKEY.out gr[q] (List.getElem_mem hqg)
              have hfq := HFI.out gr[q] (HSUB.out gr[q] (List.getElem_mem hqg))
              obtain ⟨⟨rn, rt, rc, rl, rd⟩, hrq⟩ : ∃ x, gr[q] = x := ⟨_, rfl⟩
              rw [hrq] at r0 r1 r2 r3 r4 hkq hfq
              simp only at r0 r1 r2 r3 r4 hkq
              obtain ⟨hk1, rfl, rfl⟩ := hkq
              have HFO := Lib.hid (fun W => rfold_any rn W hfq.name)
              rw [hk1] at HFO
              have hov : Mt.cnt ((Mt.sets l).take k) + q ≤ 3000 := by have := HCS.out; omega
              have HBA := Lib.hid ((Below.refl wr.heap.size wr).alloc (Nat.le_refl _) (.cells #[.string ⟨rn.toArray⟩, .int .i64 rt, .int .i64 1, .int .i64 rl, .string ⟨rd.toArray⟩] 56))
              have kb := Block.new wr #[.string ⟨rn.toArray⟩, .int .i64 rt, .int .i64 1, .int .i64 rl, .string ⟨rd.toArray⟩] 56
              have q0 := kb.cell (i := 0) rfl
              have q1 := kb.cell (i := 1) rfl
              have q2 := kb.cell (i := 2) rfl
              clear hrq hk1 kb hfq
              have xx0 := keep_cell HBA.out x0
              have xx1 := keep_cell HBA.out x1
              have hmp : Try.prog.follows .mixedOrders = true := by kernel_rfl
              go_wp2_with fail
              refine wp_region_slots slotLe (slotPhi ((fun v _ => v = ?sb71) :: (fun v _ => v = ?sb72) :: (fun v _ => v = ?sb73) :: (fun v _ => v = ?sb74) :: (fun v _ => v = ?sb75) :: (fun v _ => v = ?sb76) :: (fun v _ => v = ?sb77) :: (fun v _ => v = ?sb78) :: (fun v _ => v = ?sb79) :: (fun v _ => v = ?sb80) :: (fun v _ => v = ?sb81) :: (fun v _ => v = ?sb82) :: (fun v _ => v = ?sb83) :: (fun v _ => v = ?sb84) :: (fun v _ => v = ?sb85) :: (fun v _ => v = ?sb86) :: (fun v _ => v = ?sb87) :: (fun v _ => v = ?sb88) :: (fun v _ => v = ?sb89) :: (fun v _ => v = ?sb90) :: (fun v _ => v = ?sb91) :: (fun v _ => v = ?sb92) :: (fun v _ => v = ?sb93) :: (fun v _ => v = ?sb94) :: (fun v _ => v = ?sb95) :: (fun v _ => v = ?sb96) :: [])) slotLe_refl slotLe_trans (slotPhi_stable ?stb) (by kernel_rfl) (by kernel_rfl) (by kernel_rfl) ?steps ?fin
              case stb =>
                refine ⟨by intro _ _ _ _ h; exact h, ?_⟩
                refine ⟨by intro _ _ _ _ h; exact h, ?_⟩
                refine ⟨by intro _ _ _ _ h; exact h, ?_⟩
                refine ⟨by intro _ _ _ _ h; exact h, ?_⟩
                refine ⟨by intro _ _ _ _ h; exact h, ?_⟩
                refine ⟨by intro _ _ _ _ h; exact h, ?_⟩
                refine ⟨by intro _ _ _ _ h; exact h, ?_⟩
                refine ⟨by intro _ _ _ _ h; exact h, ?_⟩
                refine ⟨by intro _ _ _ _ h; exact h, ?_⟩
                refine ⟨by intro _ _ _ _ h; exact h, ?_⟩
                refine ⟨by intro _ _ _ _ h; exact h, ?_⟩
                refine ⟨by intro _ _ _ _ h; exact h, ?_⟩
                refine ⟨by intro _ _ _ _ h; exact h, ?_⟩
                refine ⟨by intro _ _ _ _ h; exact h, ?_⟩
                refine ⟨by intro _ _ _ _ h; exact h, ?_⟩
                refine ⟨by intro _ _ _ _ h; exact h, ?_⟩
                refine ⟨by intro _ _ _ _ h; exact h, ?_⟩
                refine ⟨by intro _ _ _ _ h; exact h, ?_⟩
                refine ⟨by intro _ _ _ _ h; exact h, ?_⟩
                refine ⟨by intro _ _ _ _ h; exact h, ?_⟩
                refine ⟨by intro _ _ _ _ h; exact h, ?_⟩
                refine ⟨by intro _ _ _ _ h; exact h, ?_⟩
                refine ⟨by intro _ _ _ _ h; exact h, ?_⟩
                refine ⟨by intro _ _ _ _ h; exact h, ?_⟩
                refine ⟨by intro _ _ _ _ h; exact h, ?_⟩
                refine ⟨by intro _ _ _ _ h; exact h, ?_⟩
                exact trivial
              case steps =>
                refine ⟨?_, ?_⟩
                · intro a W K N hK
                  have e10 : a.tmps[10]?.getD undef = .pointer (some ⟨wr.heap.size, 0, none⟩) := N.was' 10 _ (by kernel_rfl) rfl
                  rw [if_pos (wanted_no rfl)]
                  go_simp
                  refine hK _ _ (slotLe_refl _) ?_
                  exact rfl
                refine ⟨?_, ?_⟩
                · intro a W K N hK
                  have e71 : a.tmps[71]?.getD undef = _ := N.dep' 0 71 (by kernel_rfl)
                  rw [if_pos (wanted_no rfl)]
                  have z0 := keep_cell N.le q2
                  go_simp
                  refine hK _ _ (slotLe_refl _) ?_
                  exact rfl
                refine ⟨?_, ?_⟩
                · intro a W K N hK
                  have e72 : a.tmps[72]?.getD undef = _ := N.dep' 1 72 (by kernel_rfl)
                  rw [if_pos (wanted_no rfl)]
                  go_simp
                  refine hK _ _ (slotLe_refl _) ?_
                  exact rfl
                refine ⟨?_, ?_⟩
                · intro a W K N hK
                  have e73 : a.tmps[73]?.getD undef = _ := N.dep' 2 73 (by kernel_rfl)
                  rw [if_pos (wanted_no rfl)]
                  go_simp
                  refine hK _ _ (slotLe_refl _) ?_
                  exact rfl
                refine ⟨?_, ?_⟩
                · intro a W K N hK
                  have e10 : a.tmps[10]?.getD undef = .pointer (some ⟨wr.heap.size, 0, none⟩) := N.was' 10 _ (by kernel_rfl) rfl
                  have eg : a.tmps[74]?.getD undef = .bool false := N.dep' 3 74 (by kernel_rfl)
                  rw [if_pos (by rw [wanted_get (g := 3) (d := 74) rfl rfl eg]; decide)]
                  clear eg
                  go_simp
                  refine hK _ _ (slotLe_refl _) ?_
                  exact rfl
                refine ⟨?_, ?_⟩
                · intro a W K N hK
                  have e75 : a.tmps[75]?.getD undef = _ := N.dep' 4 75 (by kernel_rfl)
                  have eg : a.tmps[74]?.getD undef = .bool false := N.dep' 3 74 (by kernel_rfl)
                  rw [if_pos (by rw [wanted_get (g := 3) (d := 74) rfl rfl eg]; decide)]
                  clear eg
                  have z0 := keep_cell N.le q1
                  go_simp
                  refine hK _ _ (slotLe_refl _) ?_
                  exact rfl
                refine ⟨?_, ?_⟩
                · intro a W K N hK
                  have e5 : a.tmps[5]?.getD undef = .slice (some ⟨g, f, none⟩) L.length cp := N.was' 5 _ (by kernel_rfl) rfl
                  have eg : a.tmps[74]?.getD undef = .bool false := N.dep' 3 74 (by kernel_rfl)
                  rw [if_pos (by rw [wanted_get (g := 3) (d := 74) rfl rfl eg]; decide)]
                  clear eg
                  go_simp
                  refine hK _ _ (slotLe_refl _) ?_
                  exact rfl
                refine ⟨?_, ?_⟩
                · intro a W K N hK
                  have e7 : a.tmps[7]?.getD undef = .int .i64 (k : Int) := N.was' 7 _ (by kernel_rfl) rfl
                  have eg : a.tmps[74]?.getD undef = .bool false := N.dep' 3 74 (by kernel_rfl)
                  rw [if_pos (by rw [wanted_get (g := 3) (d := 74) rfl rfl eg]; decide)]
                  clear eg
                  go_simp
                  refine hK _ _ (slotLe_refl _) ?_
                  exact rfl
                refine ⟨?_, ?_⟩
                · intro a W K N hK
                  have e77 : a.tmps[77]?.getD undef = _ := N.dep' 6 77 (by kernel_rfl)
                  have e78 : a.tmps[78]?.getD undef = _ := N.dep' 7 78 (by kernel_rfl)
                  have eg : a.tmps[74]?.getD undef = .bool false := N.dep' 3 74 (by kernel_rfl)
                  rw [if_pos (by rw [wanted_get (g := 3) (d := 74) rfl rfl eg]; decide)]
                  clear eg
                  go_simp
                  refine hK _ _ (slotLe_refl _) ?_
                  exact rfl
                refine ⟨?_, ?_⟩
                · intro a W K N hK
                  have e79 : a.tmps[79]?.getD undef = _ := N.dep' 8 79 (by kernel_rfl)
                  have eg : a.tmps[74]?.getD undef = .bool false := N.dep' 3 74 (by kernel_rfl)
                  rw [if_pos (by rw [wanted_get (g := 3) (d := 74) rfl rfl eg]; decide)]
                  clear eg
                  go_simp
                  refine hK _ _ (slotLe_refl _) ?_
                  exact rfl
                refine ⟨?_, ?_⟩
                · intro a W K N hK
                  have e80 : a.tmps[80]?.getD undef = _ := N.dep' 9 80 (by kernel_rfl)
                  have eg : a.tmps[74]?.getD undef = .bool false := N.dep' 3 74 (by kernel_rfl)
                  rw [if_pos (by rw [wanted_get (g := 3) (d := 74) rfl rfl eg]; decide)]
                  clear eg
                  go_simp
                  refine hK _ _ (slotLe_refl _) ?_
                  exact rfl
                refine ⟨?_, ?_⟩
                · intro a W K N hK
                  have e81 : a.tmps[81]?.getD undef = _ := N.dep' 10 81 (by kernel_rfl)
                  have eg : a.tmps[74]?.getD undef = .bool false := N.dep' 3 74 (by kernel_rfl)
                  rw [if_pos (by rw [wanted_get (g := 3) (d := 74) rfl rfl eg]; decide)]
                  clear eg
                  have z0 := keep_cell N.le xx1
                  go_simp
                  refine hK _ _ (slotLe_refl _) ?_
                  exact rfl
                refine ⟨?_, ?_⟩
                · intro a W K N hK
                  have e76 : a.tmps[76]?.getD undef = _ := N.dep' 5 76 (by kernel_rfl)
                  have e82 : a.tmps[82]?.getD undef = _ := N.dep' 11 82 (by kernel_rfl)
                  have eg : a.tmps[74]?.getD undef = .bool false := N.dep' 3 74 (by kernel_rfl)
                  rw [if_pos (by rw [wanted_get (g := 3) (d := 74) rfl rfl eg]; decide)]
                  clear eg
                  go_simp
                  refine hK _ _ (slotLe_refl _) ?_
                  exact rfl
                refine ⟨?_, ?_⟩
                · intro a W K N hK
                  have e74 : a.tmps[74]?.getD undef = _ := N.dep' 3 74 (by kernel_rfl)
                  have e83 : a.tmps[83]?.getD undef = _ := N.dep' 12 83 (by kernel_rfl)
                  rw [if_pos (wanted_no rfl)]
                  go_simp
                  refine hK _ _ (slotLe_refl _) ?_
                  exact rfl
                refine ⟨?_, ?_⟩
                · intro a W K N hK
                  have e84 : a.tmps[84]?.getD undef = _ := N.dep' 13 84 (by kernel_rfl)
                  rw [if_pos (wanted_no rfl)]
                  go_simp
                  refine hK _ _ (slotLe_refl _) ?_
                  exact rfl
                refine ⟨?_, ?_⟩
                · intro a W K N hK
                  have e10 : a.tmps[10]?.getD undef = .pointer (some ⟨wr.heap.size, 0, none⟩) := N.was' 10 _ (by kernel_rfl) rfl
                  have eg : a.tmps[85]?.getD undef = .bool false := N.dep' 14 85 (by kernel_rfl)
                  rw [if_pos (by rw [wanted_get (g := 14) (d := 85) rfl rfl eg]; decide)]
                  clear eg
                  go_simp
                  refine hK _ _ (slotLe_refl _) ?_
                  exact rfl
                refine ⟨?_, ?_⟩
                · intro a W K N hK
                  have e86 : a.tmps[86]?.getD undef = _ := N.dep' 15 86 (by kernel_rfl)
                  have eg : a.tmps[85]?.getD undef = .bool false := N.dep' 14 85 (by kernel_rfl)
                  rw [if_pos (by rw [wanted_get (g := 14) (d := 85) rfl rfl eg]; decide)]
                  clear eg
                  have z0 := keep_cell N.le q0
                  go_simp
                  refine hK _ _ (slotLe_refl _) ?_
                  exact rfl
                refine ⟨?_, ?_⟩
                · intro a W K N hK
                  have e87 : a.tmps[87]?.getD undef = _ := N.dep' 16 87 (by kernel_rfl)
                  have eg : a.tmps[85]?.getD undef = .bool false := N.dep' 14 85 (by kernel_rfl)
                  rw [if_pos (by rw [wanted_get (g := 14) (d := 85) rfl rfl eg]; decide)]
                  clear eg
                  go_simp
                  refine (HFO.out _).mono ?_
                  rintro e w4 ⟨rfl, b4⟩
                  refine hK _ _ b4 ?_
                  exact rfl
                refine ⟨?_, ?_⟩
                · intro a W K N hK
                  have e5 : a.tmps[5]?.getD undef = .slice (some ⟨g, f, none⟩) L.length cp := N.was' 5 _ (by kernel_rfl) rfl
                  have eg : a.tmps[85]?.getD undef = .bool false := N.dep' 14 85 (by kernel_rfl)
                  rw [if_pos (by rw [wanted_get (g := 14) (d := 85) rfl rfl eg]; decide)]
                  clear eg
                  go_simp
                  refine hK _ _ (slotLe_refl _) ?_
                  exact rfl
                refine ⟨?_, ?_⟩
                · intro a W K N hK
                  have e7 : a.tmps[7]?.getD undef = .int .i64 (k : Int) := N.was' 7 _ (by kernel_rfl) rfl
                  have eg : a.tmps[85]?.getD undef = .bool false := N.dep' 14 85 (by kernel_rfl)
                  rw [if_pos (by rw [wanted_get (g := 14) (d := 85) rfl rfl eg]; decide)]
                  clear eg
                  go_simp
                  refine hK _ _ (slotLe_refl _) ?_
                  exact rfl
                refine ⟨?_, ?_⟩
                · intro a W K N hK
                  have e89 : a.tmps[89]?.getD undef = _ := N.dep' 18 89 (by kernel_rfl)
                  have e90 : a.tmps[90]?.getD undef = _ := N.dep' 19 90 (by kernel_rfl)
                  have eg : a.tmps[85]?.getD undef = .bool false := N.dep' 14 85 (by kernel_rfl)
                  rw [if_pos (by rw [wanted_get (g := 14) (d := 85) rfl rfl eg]; decide)]
                  clear eg
                  go_simp
                  refine hK _ _ (slotLe_refl _) ?_
                  exact rfl
                refine ⟨?_, ?_⟩
                · intro a W K N hK
                  have e91 : a.tmps[91]?.getD undef = _ := N.dep' 20 91 (by kernel_rfl)
                  have eg : a.tmps[85]?.getD undef = .bool false := N.dep' 14 85 (by kernel_rfl)
                  rw [if_pos (by rw [wanted_get (g := 14) (d := 85) rfl rfl eg]; decide)]
                  clear eg
                  go_simp
                  refine hK _ _ (slotLe_refl _) ?_
                  exact rfl
                refine ⟨?_, ?_⟩
                · intro a W K N hK
                  have e92 : a.tmps[92]?.getD undef = _ := N.dep' 21 92 (by kernel_rfl)
                  have eg : a.tmps[85]?.getD undef = .bool false := N.dep' 14 85 (by kernel_rfl)
                  rw [if_pos (by rw [wanted_get (g := 14) (d := 85) rfl rfl eg]; decide)]
                  clear eg
                  go_simp
                  refine hK _ _ (slotLe_refl _) ?_
                  exact rfl
                refine ⟨?_, ?_⟩
                · intro a W K N hK
                  have e93 : a.tmps[93]?.getD undef = _ := N.dep' 22 93 (by kernel_rfl)
                  have eg : a.tmps[85]?.getD undef = .bool false := N.dep' 14 85 (by kernel_rfl)
                  rw [if_pos (by rw [wanted_get (g := 14) (d := 85) rfl rfl eg]; decide)]
                  clear eg
                  have z0 := keep_cell N.le xx0
                  go_simp
                  refine hK _ _ (slotLe_refl _) ?_
                  exact rfl
                refine ⟨?_, ?_⟩
                · intro a W K N hK
                  have e88 : a.tmps[88]?.getD undef = _ := N.dep' 17 88 (by kernel_rfl)
                  have e94 : a.tmps[94]?.getD undef = _ := N.dep' 23 94 (by kernel_rfl)
                  have eg : a.tmps[85]?.getD undef = .bool false := N.dep' 14 85 (by kernel_rfl)
                  rw [if_pos (by rw [wanted_get (g := 14) (d := 85) rfl rfl eg]; decide)]
                  clear eg
                  go_simp
                  refine hK _ _ (slotLe_refl _) ?_
                  exact rfl
                refine ⟨?_, ?_⟩
                · intro a W K N hK
                  have e85 : a.tmps[85]?.getD undef = _ := N.dep' 14 85 (by kernel_rfl)
                  have e95 : a.tmps[95]?.getD undef = _ := N.dep' 24 95 (by kernel_rfl)
                  rw [if_pos (wanted_no rfl)]
                  go_simp
                  refine hK _ _ (slotLe_refl _) ?_
                  exact rfl
                exact trivial
              case fin =>
                intro W1 hW1
                simp only [FinAll, slotPhi, List.getD_cons_zero, List.getD_cons_succ, forall_eq, Act.put, List.setIfInBounds_toArray, List.set_cons_zero, List.set_cons_succ]
                have bU := below_undrew hW1
                go_wp2_with fail
                go_roundw
                case rel => exact ⟨q + 1, by go_num, by omega, by congr 1, below_trans (below_trans hbc HBA.out) bU⟩
                case measure => simp [intOf]; omega
            · obtain rfl : q = gr.length := by omega
              go_wp2_with fail
              go_roundw
              case rel => exact ⟨k + 1, by go_num, by omega, by have := HCS.out; rw [this]; simp, below_trans hbi bq⟩
              case measure => simp [intOf]; omega
    · obtain rfl : i = L.length := by omega
      obtain ⟨W3, hW3⟩ : ∃ W, WO = W := ⟨_, rfl⟩
      rw [hW3] at hbi ⊢
      clear hW3
      have hcn : Mt.cnt ((Mt.sets l).take L.length) = Mt.unlike l l.length := by rw [HLL.out, List.take_length, Mt.cnt_sets]
      rw [hcn]
      obtain ⟨CN, hCN⟩ : ∃ n, Mt.unlike l l.length = n := ⟨_, rfl⟩
      rw [hCN]
      have HCN := Lib.hid hCN
      have HR3 := Lib.hid (readR_below HR2.out hbi)
      have HB3 := Lib.hid (below_trans HB2.out hbi)
      have HG3 := Lib.hid (HG.out.below hbi)
      clear hcn hCN
      go_wp2_with fail
      go_loopw [11, 12] (fun n j wr => ∃ i : Nat, j = .int .i64 (i : Int) ∧ i ≤ l.length ∧ n = .int .i64 (Mt.unlike l i : Int) ∧ Below W3.heap.size W3 wr) (fun _ j _ => l.length + 1 - (intOf j).toNat)
      case atStart => exact ⟨0, rfl, by omega, rfl, Below.refl _ _⟩
      case round =>
        obtain ⟨i, rfl, hi, rfl, hbd⟩ := hrel
        obtain ⟨WO, hWO⟩ : ∃ W, wr = W := ⟨_, rfl⟩
        rw [hWO] at hbd ⊢
        clear hWO
        by_cases hlt : i < l.length
        · have hul := Mt.unlike_le l i
          have hus := Mt.unlike_succ l i
          have hfa : Mt.firstAt l i = !((l[i].cls != 1) || (l.take i).any (fun x => Rd.sameR x l[i])) := by
            unfold Mt.firstAt
            rw [List.getElem?_eq_getElem hlt]
            by_cases hc : l[i].cls = 1 <;> simp [hc]
          have hfi := HFI.out l[i] (List.getElem_mem hlt)
          obtain ⟨g0, f0, rfl, r0, r1, r2, r3, r4⟩ := readR_at (readR_below HR3.out hbd) hlt
          have HRD := Lib.hid (readR_below HR3.out hbd)
          obtain ⟨R, hRe⟩ : ∃ x, l[i] = x := ⟨_, rfl⟩
          rw [hRe] at r0 r1 r2 r3 r4 hfa hfi
          obtain ⟨b0, hb0⟩ : ∃ b, (R.cls != 1) = b := ⟨_, rfl⟩
          rw [hb0] at hfa
          have HSM := Lib.hid (fun (x : Rd.RR) (hx : x ∈ l) W => rsame_any x R W (HFI.out x hx).name (HFI.out x hx).data hfi.name hfi.data)
          have HFA := Lib.hid hfa
          have HUS := Lib.hid hus
          obtain ⟨rn, rt, rc, rl, rd⟩ := R
          simp only at r0 r1 r2 r3 r4 hb0
          unfold rrV at HSM
          simp only at HSM
          have R0 := Lib.hid r0
          have R1 := Lib.hid r1
          have R2 := Lib.hid r2
          have R3 := Lib.hid r3
          have R4 := Lib.hid r4
          clear hRe hfa hus hfi
          go_wp2_with fail
          go_loopw [13, 14] (fun m j wr => ∃ k : Nat, j = .int .i64 (k : Int) ∧ k ≤ i ∧ m = .bool (b0 || (l.take k).any (fun x => Rd.sameR x ⟨rn, rt, rc, rl, rd⟩)) ∧ Below WO.heap.size WO wr) (fun _ j _ => i + 1 - (intOf j).toNat)
          case atStart => exact ⟨0, rfl, by omega, by simp, Below.refl _ _⟩
          case round =>
            obtain ⟨k, rfl, hk, rfl, hbk⟩ := hrel
            by_cases hki : k < i
            · have hkl : k < l.length := by omega
              obtain ⟨_, _, e, y0, y1, y2, y3, y4⟩ := readR_at (readR_below HRD.out hbk) hkl
              cases e
              have r0 := keep_cell hbk R0.out
              have r1 := keep_cell hbk R1.out
              have r2 := keep_cell hbk R2.out
              have r3 := keep_cell hbk R3.out
              have r4 := keep_cell hbk R4.out
              have hsm := HSM.out l[k] (List.getElem_mem hkl)
              have hts := Rd.any_take_succ hkl (fun x => Rd.sameR x ⟨rn, rt, rc, rl, rd⟩)
              have HTS := Lib.hid hts
              obtain ⟨m, hbm⟩ : ∃ m, (b0 || (l.take k).any (fun x => Rd.sameR x ⟨rn, rt, rc, rl, rd⟩)) = m := ⟨_, rfl⟩
              rw [hbm]
              obtain ⟨S, hS⟩ : ∃ b, Rd.sameR l[k] ⟨rn, rt, rc, rl, rd⟩ = b := ⟨_, rfl⟩
              rw [hS] at hsm
              simp only [hS] at HTS
              obtain ⟨⟨an, at2, ac, al, ad⟩, hae⟩ : ∃ x, l[k] = x := ⟨_, rfl⟩
              rw [hae] at y0 y1 y2 y3 y4 hsm
              simp only at y0 y1 y2 y3 y4 hsm
              have HSM2 := Lib.hid hsm
              clear hts hS hae hsm
              have hmp : Try.prog.follows .mixedOrders = true := by kernel_rfl
              cases m with
              | true =>
                go_wp2_with fail
                refine wp_region_slots slotLe (slotPhi ((fun v _ => v = ?sc114) :: (fun v _ => v = ?sc115) :: (fun v _ => v = undef) :: (fun v _ => v = undef) :: (fun v _ => v = undef) :: (fun v _ => v = undef) :: (fun v _ => v = undef) :: (fun v _ => v = undef) :: (fun v _ => v = undef) :: (fun v _ => v = undef) :: (fun v _ => v = undef) :: (fun v _ => v = ?sc125) :: (fun v _ => v = ?sc13) :: [])) slotLe_refl slotLe_trans (slotPhi_stable ?stb) (by kernel_rfl) (by kernel_rfl) (by kernel_rfl) ?steps ?fin
                case stb =>
                  refine ⟨by intro _ _ _ _ h; exact h, ?_⟩
                  refine ⟨by intro _ _ _ _ h; exact h, ?_⟩
                  refine ⟨by intro _ _ _ _ h; exact h, ?_⟩
                  refine ⟨by intro _ _ _ _ h; exact h, ?_⟩
                  refine ⟨by intro _ _ _ _ h; exact h, ?_⟩
                  refine ⟨by intro _ _ _ _ h; exact h, ?_⟩
                  refine ⟨by intro _ _ _ _ h; exact h, ?_⟩
                  refine ⟨by intro _ _ _ _ h; exact h, ?_⟩
                  refine ⟨by intro _ _ _ _ h; exact h, ?_⟩
                  refine ⟨by intro _ _ _ _ h; exact h, ?_⟩
                  refine ⟨by intro _ _ _ _ h; exact h, ?_⟩
                  refine ⟨by intro _ _ _ _ h; exact h, ?_⟩
                  refine ⟨by intro _ _ _ _ h; exact h, ?_⟩
                  exact trivial
                case steps =>
                  refine ⟨?_, ?_⟩
                  · intro a W K N hK
                    have e13 : a.tmps[13]?.getD undef = .bool true := N.was' 13 _ (by kernel_rfl) rfl
                    rw [if_pos (wanted_no rfl)]
                    go_simp
                    refine hK _ _ (slotLe_refl _) ?_
                    exact rfl
                  refine ⟨?_, ?_⟩
                  · intro a W K N hK
                    have e114 : a.tmps[114]?.getD undef = _ := N.dep' 0 114 (by kernel_rfl)
                    rw [if_pos (wanted_no rfl)]
                    go_simp
                    refine hK _ _ (slotLe_refl _) ?_
                    exact rfl
                  refine ⟨?_, ?_⟩
                  · intro a W K N hK
                    have eg : a.tmps[115]?.getD undef = .bool true := N.dep' 1 115 (by kernel_rfl)
                    rw [if_neg (by rw [wanted_get (g := 1) (d := 115) rfl rfl eg]; decide)]
                    refine hK _ _ (slotLe_refl _) ?_
                    exact rfl
                  refine ⟨?_, ?_⟩
                  · intro a W K N hK
                    have eg : a.tmps[115]?.getD undef = .bool true := N.dep' 1 115 (by kernel_rfl)
                    rw [if_neg (by rw [wanted_get (g := 1) (d := 115) rfl rfl eg]; decide)]
                    refine hK _ _ (slotLe_refl _) ?_
                    exact rfl
                  refine ⟨?_, ?_⟩
                  · intro a W K N hK
                    have eg : a.tmps[115]?.getD undef = .bool true := N.dep' 1 115 (by kernel_rfl)
                    rw [if_neg (by rw [wanted_get (g := 1) (d := 115) rfl rfl eg]; decide)]
                    refine hK _ _ (slotLe_refl _) ?_
                    exact rfl
                  refine ⟨?_, ?_⟩
                  · intro a W K N hK
                    have eg : a.tmps[115]?.getD undef = .bool true := N.dep' 1 115 (by kernel_rfl)
                    rw [if_neg (by rw [wanted_get (g := 1) (d := 115) rfl rfl eg]; decide)]
                    refine hK _ _ (slotLe_refl _) ?_
                    exact rfl
                  refine ⟨?_, ?_⟩
                  · intro a W K N hK
                    have eg : a.tmps[115]?.getD undef = .bool true := N.dep' 1 115 (by kernel_rfl)
                    rw [if_neg (by rw [wanted_get (g := 1) (d := 115) rfl rfl eg]; decide)]
                    refine hK _ _ (slotLe_refl _) ?_
                    exact rfl
                  refine ⟨?_, ?_⟩
                  · intro a W K N hK
                    have eg : a.tmps[115]?.getD undef = .bool true := N.dep' 1 115 (by kernel_rfl)
                    rw [if_neg (by rw [wanted_get (g := 1) (d := 115) rfl rfl eg]; decide)]
                    refine hK _ _ (slotLe_refl _) ?_
                    exact rfl
                  refine ⟨?_, ?_⟩
                  · intro a W K N hK
                    have eg : a.tmps[115]?.getD undef = .bool true := N.dep' 1 115 (by kernel_rfl)
                    rw [if_neg (by rw [wanted_get (g := 1) (d := 115) rfl rfl eg]; decide)]
                    refine hK _ _ (slotLe_refl _) ?_
                    exact rfl
                  refine ⟨?_, ?_⟩
                  · intro a W K N hK
                    have eg : a.tmps[115]?.getD undef = .bool true := N.dep' 1 115 (by kernel_rfl)
                    rw [if_neg (by rw [wanted_get (g := 1) (d := 115) rfl rfl eg]; decide)]
                    refine hK _ _ (slotLe_refl _) ?_
                    exact rfl
                  refine ⟨?_, ?_⟩
                  · intro a W K N hK
                    have eg : a.tmps[115]?.getD undef = .bool true := N.dep' 1 115 (by kernel_rfl)
                    rw [if_neg (by rw [wanted_get (g := 1) (d := 115) rfl rfl eg]; decide)]
                    refine hK _ _ (slotLe_refl _) ?_
                    exact rfl
                  refine ⟨?_, ?_⟩
                  · intro a W K N hK
                    have e115 : a.tmps[115]?.getD undef = _ := N.dep' 1 115 (by kernel_rfl)
                    have e124 : a.tmps[124]?.getD undef = undef := N.dep' 10 124 (by kernel_rfl)
                    rw [if_pos (wanted_no rfl)]
                    go_simp
                    refine hK _ _ (slotLe_refl _) ?_
                    exact rfl
                  refine ⟨?_, ?_⟩
                  · intro a W K N hK
                    have e125 : a.tmps[125]?.getD undef = _ := N.dep' 11 125 (by kernel_rfl)
                    rw [if_pos (wanted_no rfl)]
                    go_simp
                    refine hK _ _ (slotLe_refl _) ?_
                    exact rfl
                  exact trivial
                case fin =>
                  intro W1 hW1
                  simp only [FinAll, slotPhi, List.getD_cons_zero, List.getD_cons_succ, forall_eq, Act.put, List.setIfInBounds_toArray, List.set_cons_zero, List.set_cons_succ]
                  have bU := below_undrew hW1
                  go_wp2_with fail
                  go_roundw
                  case rel => exact ⟨k + 1, by go_num, by omega, by rw [HTS.out, ← Bool.or_assoc, hbm]; rfl, below_trans hbk bU⟩
                  case measure => simp [intOf]; omega
              | false =>
                go_wp2_with fail
                refine wp_region_slots slotLe (slotPhi ((fun v _ => v = ?sd114) :: (fun v _ => v = ?sd115) :: (fun v _ => v = ?sd116) :: (fun v _ => v = ?sd117) :: (fun v _ => v = ?sd118) :: (fun v _ => v = ?sd119) :: (fun v _ => v = ?sd120) :: (fun v _ => v = ?sd121) :: (fun v _ => v = ?sd122) :: (fun v _ => v = ?sd123) :: (fun v _ => v = ?sd124) :: (fun v _ => v = ?sd125) :: (fun v _ => v = ?sd13) :: [])) slotLe_refl slotLe_trans (slotPhi_stable ?stb) (by kernel_rfl) (by kernel_rfl) (by kernel_rfl) ?steps ?fin
                case stb =>
                  refine ⟨by intro _ _ _ _ h; exact h, ?_⟩
                  refine ⟨by intro _ _ _ _ h; exact h, ?_⟩
                  refine ⟨by intro _ _ _ _ h; exact h, ?_⟩
                  refine ⟨by intro _ _ _ _ h; exact h, ?_⟩
                  refine ⟨by intro _ _ _ _ h; exact h, ?_⟩
                  refine ⟨by intro _ _ _ _ h; exact h, ?_⟩
                  refine ⟨by intro _ _ _ _ h; exact h, ?_⟩
                  refine ⟨by intro _ _ _ _ h; exact h, ?_⟩
                  refine ⟨by intro _ _ _ _ h; exact h, ?_⟩
                  refine ⟨by intro _ _ _ _ h; exact h, ?_⟩
                  refine ⟨by intro _ _ _ _ h; exact h, ?_⟩
                  refine ⟨by intro _ _ _ _ h; exact h, ?_⟩
                  refine ⟨by intro _ _ _ _ h; exact h, ?_⟩
                  exact trivial
                case steps =>
                  refine ⟨?_, ?_⟩
                  · intro a W K N hK
                    have e13 : a.tmps[13]?.getD undef = .bool false := N.was' 13 _ (by kernel_rfl) rfl
                    rw [if_pos (wanted_no rfl)]
                    go_simp
                    refine hK _ _ (slotLe_refl _) ?_
                    exact rfl
                  refine ⟨?_, ?_⟩
                  · intro a W K N hK
                    have e114 : a.tmps[114]?.getD undef = _ := N.dep' 0 114 (by kernel_rfl)
                    rw [if_pos (wanted_no rfl)]
                    go_simp
                    refine hK _ _ (slotLe_refl _) ?_
                    exact rfl
                  refine ⟨?_, ?_⟩
                  · intro a W K N hK
                    have e0 : a.tmps[0]?.getD undef = .slice (some ⟨g0, f0, none⟩) l.length cs2 := N.was' 0 _ (by kernel_rfl) rfl
                    have eg : a.tmps[115]?.getD undef = .bool false := N.dep' 1 115 (by kernel_rfl)
                    rw [if_pos (by rw [wanted_get (g := 1) (d := 115) rfl rfl eg]; decide)]
                    clear eg
                    go_simp
                    refine hK _ _ (slotLe_refl _) ?_
                    exact rfl
                  refine ⟨?_, ?_⟩
                  · intro a W K N hK
                    have e14 : a.tmps[14]?.getD undef = .int .i64 (k : Int) := N.was' 14 _ (by kernel_rfl) rfl
                    have eg : a.tmps[115]?.getD undef = .bool false := N.dep' 1 115 (by kernel_rfl)
                    rw [if_pos (by rw [wanted_get (g := 1) (d := 115) rfl rfl eg]; decide)]
                    clear eg
                    go_simp
                    refine hK _ _ (slotLe_refl _) ?_
                    exact rfl
                  refine ⟨?_, ?_⟩
                  · intro a W K N hK
                    have e116 : a.tmps[116]?.getD undef = _ := N.dep' 2 116 (by kernel_rfl)
                    have e117 : a.tmps[117]?.getD undef = _ := N.dep' 3 117 (by kernel_rfl)
                    have eg : a.tmps[115]?.getD undef = .bool false := N.dep' 1 115 (by kernel_rfl)
                    rw [if_pos (by rw [wanted_get (g := 1) (d := 115) rfl rfl eg]; decide)]
                    clear eg
                    go_simp
                    refine hK _ _ (slotLe_refl _) ?_
                    exact rfl
                  refine ⟨?_, ?_⟩
                  · intro a W K N hK
                    have e118 : a.tmps[118]?.getD undef = _ := N.dep' 4 118 (by kernel_rfl)
                    have eg : a.tmps[115]?.getD undef = .bool false := N.dep' 1 115 (by kernel_rfl)
                    rw [if_pos (by rw [wanted_get (g := 1) (d := 115) rfl rfl eg]; decide)]
                    clear eg
                    have z0 := keep_cell N.le y0
                    have z1 := keep_cell N.le y1
                    have z2 := keep_cell N.le y2
                    have z3 := keep_cell N.le y3
                    have z4 := keep_cell N.le y4
                    go_simp
                    refine hK _ _ (slotLe_refl _) ?_
                    exact rfl
                  refine ⟨?_, ?_⟩
                  · intro a W K N hK
                    have e0 : a.tmps[0]?.getD undef = .slice (some ⟨g0, f0, none⟩) l.length cs2 := N.was' 0 _ (by kernel_rfl) rfl
                    have eg : a.tmps[115]?.getD undef = .bool false := N.dep' 1 115 (by kernel_rfl)
                    rw [if_pos (by rw [wanted_get (g := 1) (d := 115) rfl rfl eg]; decide)]
                    clear eg
                    go_simp
                    refine hK _ _ (slotLe_refl _) ?_
                    exact rfl
                  refine ⟨?_, ?_⟩
                  · intro a W K N hK
                    have e12 : a.tmps[12]?.getD undef = .int .i64 (i : Int) := N.was' 12 _ (by kernel_rfl) rfl
                    have eg : a.tmps[115]?.getD undef = .bool false := N.dep' 1 115 (by kernel_rfl)
                    rw [if_pos (by rw [wanted_get (g := 1) (d := 115) rfl rfl eg]; decide)]
                    clear eg
                    go_simp
                    refine hK _ _ (slotLe_refl _) ?_
                    exact rfl
                  refine ⟨?_, ?_⟩
                  · intro a W K N hK
                    have e120 : a.tmps[120]?.getD undef = _ := N.dep' 6 120 (by kernel_rfl)
                    have e121 : a.tmps[121]?.getD undef = _ := N.dep' 7 121 (by kernel_rfl)
                    have eg : a.tmps[115]?.getD undef = .bool false := N.dep' 1 115 (by kernel_rfl)
                    rw [if_pos (by rw [wanted_get (g := 1) (d := 115) rfl rfl eg]; decide)]
                    clear eg
                    go_simp
                    refine hK _ _ (slotLe_refl _) ?_
                    exact rfl
                  refine ⟨?_, ?_⟩
                  · intro a W K N hK
                    have e122 : a.tmps[122]?.getD undef = _ := N.dep' 8 122 (by kernel_rfl)
                    have eg : a.tmps[115]?.getD undef = .bool false := N.dep' 1 115 (by kernel_rfl)
                    rw [if_pos (by rw [wanted_get (g := 1) (d := 115) rfl rfl eg]; decide)]
                    clear eg
                    have z0 := keep_cell N.le r0
                    have z1 := keep_cell N.le r1
                    have z2 := keep_cell N.le r2
                    have z3 := keep_cell N.le r3
                    have z4 := keep_cell N.le r4
                    go_simp
                    refine hK _ _ (slotLe_refl _) ?_
                    exact rfl
                  refine ⟨?_, ?_⟩
                  · intro a W K N hK
                    have e119 : a.tmps[119]?.getD undef = _ := N.dep' 5 119 (by kernel_rfl)
                    have e123 : a.tmps[123]?.getD undef = _ := N.dep' 9 123 (by kernel_rfl)
                    have eg : a.tmps[115]?.getD undef = .bool false := N.dep' 1 115 (by kernel_rfl)
                    rw [if_pos (by rw [wanted_get (g := 1) (d := 115) rfl rfl eg]; decide)]
                    clear eg
                    go_simp
                    refine (HSM2.out _).mono ?_
                    rintro e w4 ⟨rfl, b4⟩
                    refine hK _ _ b4 ?_
                    exact rfl
                  refine ⟨?_, ?_⟩
                  · intro a W K N hK
                    have e115 : a.tmps[115]?.getD undef = _ := N.dep' 1 115 (by kernel_rfl)
                    have e124 : a.tmps[124]?.getD undef = _ := N.dep' 10 124 (by kernel_rfl)
                    rw [if_pos (wanted_no rfl)]
                    go_simp
                    refine hK _ _ (slotLe_refl _) ?_
                    exact rfl
                  refine ⟨?_, ?_⟩
                  · intro a W K N hK
                    have e125 : a.tmps[125]?.getD undef = _ := N.dep' 11 125 (by kernel_rfl)
                    rw [if_pos (wanted_no rfl)]
                    go_simp
                    refine hK _ _ (slotLe_refl _) ?_
                    exact rfl
                  exact trivial
                case fin =>
                  intro W1 hW1
                  simp only [FinAll, slotPhi, List.getD_cons_zero, List.getD_cons_succ, forall_eq, Act.put, List.setIfInBounds_toArray, List.set_cons_zero, List.set_cons_succ]
                  have bU := below_undrew hW1
                  go_wp2_with fail
                  go_roundw
                  case rel => exact ⟨k + 1, by go_num, by omega, by rw [HTS.out, ← Bool.or_assoc, hbm]; rfl, below_trans hbk bU⟩
                  case measure => simp [intOf]; omega
            · obtain rfl : k = i := by omega
              have hbe := below_trans hbd hbk
              obtain ⟨m, hbm⟩ : ∃ m, (b0 || (l.take k).any (fun x => Rd.sameR x ⟨rn, rt, rc, rl, rd⟩)) = m := ⟨_, rfl⟩
              have hus := HUS.out
              rw [HFA.out, hbm] at hus
              rw [hbm]
              clear hbm
              cases m with
              | true =>
                simp only [Bool.not_true, Bool.false_eq_true, if_false, Nat.add_zero] at hus
                go_wp2_with fail
                go_roundw
                case rel => exact ⟨k + 1, by go_num, by omega, by rw [hus], hbe⟩
                case measure => simp [intOf]; omega
              | false =>
                simp only [Bool.not_false, if_true] at hus
                have HUU := Lib.hid hus
                clear hus
                go_wp2_with fail
                go_roundw
                case rel => exact ⟨k + 1, by go_num, by omega, by rw [HUU.out]; congr 1, hbe⟩
                case measure => simp [intOf]; omega
        · obtain rfl : i = l.length := by omega
          rw [HCN.out]
          obtain ⟨WZ, hWZ⟩ : ∃ W, WO = W := ⟨_, rfl⟩
          rw [hWZ] at hbd ⊢
          clear hWZ
          have HBZ := Lib.hid (below_trans HB3.out hbd)
          have HRZ := Lib.hid (readR_below HR3.out hbd)
          have HGZ := Lib.hid (HG3.out.below hbd)
          have HRN := Lib.hid (fun W => round_any z ((L.length : Int) + 1) W (by omega) (by omega) hz.1 hz.2)
          obtain ⟨q, hq⟩ : ∃ q : Nat, roundI z ((L.length : Int) + 1) = (q : Int) := ⟨(roundI z ((L.length : Int) + 1)).toNat, by have := roundI_bounds z ((L.length : Int) + 1) (by omega); omega⟩
          have hqb := roundI_bounds z ((L.length : Int) + 1) (by omega)
          rw [hq] at HRN hqb
          clear hq
          go_wp2_with fail
          refine (HRN.out _).mono ?_
          rintro e w9 ⟨rfl, rfl⟩
          obtain ⟨vT, hT1, hT2⟩ := run_takeG (ao := ao) HCAP.out (show q ≤ L.length by omega)
          have HT1 := Lib.hid hT1
          have HTK := Lib.hid (fun W (hb : Below WZ.heap.size WZ W) => hT2 W (HGZ.out.below hb))
          have hmp : Try.prog.follows .mixedOrders = true := by kernel_rfl
          clear hT1 hT2
          by_cases hq0 : q = 0
          · subst hq0
            simp only [show ((0 : Nat) : Int) = 0 from rfl]
            go_wp2_with fail
            refine wp_region_slots slotLe (slotPhi ((fun v _ => v = ?se135) :: (fun v _ => v = ?se136) :: (fun v _ => v = ?se137) :: (fun v _ => v = ?se138) :: (fun v _ => v = ?se139) :: (fun v _ => v = ?se140) :: (fun v _ => v = ?se141) :: (fun v _ => v = undef) :: (fun v _ => v = undef) :: (fun v _ => v = undef) :: (fun v _ => v = undef) :: (fun v _ => v = undef) :: (fun v _ => v = undef) :: (fun v _ => v = undef) :: (fun v _ => v = ?se149) :: (fun v _ => v = ?se150) :: (fun v _ => v = ?se151) :: (fun v _ => v = ?se152) :: (fun v _ => v = ?se153) :: (fun v _ => v = ?se4) :: [])) slotLe_refl slotLe_trans (slotPhi_stable ?stb) (by kernel_rfl) (by kernel_rfl) (by kernel_rfl) ?steps ?fin
            case stb =>
              refine ⟨by intro _ _ _ _ h; exact h, ?_⟩
              refine ⟨by intro _ _ _ _ h; exact h, ?_⟩
              refine ⟨by intro _ _ _ _ h; exact h, ?_⟩
              refine ⟨by intro _ _ _ _ h; exact h, ?_⟩
              refine ⟨by intro _ _ _ _ h; exact h, ?_⟩
              refine ⟨by intro _ _ _ _ h; exact h, ?_⟩
              refine ⟨by intro _ _ _ _ h; exact h, ?_⟩
              refine ⟨by intro _ _ _ _ h; exact h, ?_⟩
              refine ⟨by intro _ _ _ _ h; exact h, ?_⟩
              refine ⟨by intro _ _ _ _ h; exact h, ?_⟩
              refine ⟨by intro _ _ _ _ h; exact h, ?_⟩
              refine ⟨by intro _ _ _ _ h; exact h, ?_⟩
              refine ⟨by intro _ _ _ _ h; exact h, ?_⟩
              refine ⟨by intro _ _ _ _ h; exact h, ?_⟩
              refine ⟨by intro _ _ _ _ h; exact h, ?_⟩
              refine ⟨by intro _ _ _ _ h; exact h, ?_⟩
              refine ⟨by intro _ _ _ _ h; exact h, ?_⟩
              refine ⟨by intro _ _ _ _ h; exact h, ?_⟩
              refine ⟨by intro _ _ _ _ h; exact h, ?_⟩
              refine ⟨by intro _ _ _ _ h; exact h, ?_⟩
              exact trivial
            case steps =>
              refine ⟨?_, ?_⟩
              · intro a W K N hK
                have e6 : a.tmps[6]?.getD undef = .int .i64 (CN : Int) := N.was' 6 _ (by kernel_rfl) rfl
                rw [if_pos (wanted_no rfl)]
                go_simp
                refine hK _ _ (slotLe_refl _) ?_
                exact rfl
              refine ⟨?_, ?_⟩
              · intro a W K N hK
                have e11 : a.tmps[11]?.getD undef = .int .i64 (CN : Int) := N.was' 11 _ (by kernel_rfl) rfl
                rw [if_pos (wanted_no rfl)]
                go_simp
                refine hK _ _ (slotLe_refl _) ?_
                exact rfl
              refine ⟨?_, ?_⟩
              · intro a W K N hK
                have e135 : a.tmps[135]?.getD undef = _ := N.dep' 0 135 (by kernel_rfl)
                have e136 : a.tmps[136]?.getD undef = _ := N.dep' 1 136 (by kernel_rfl)
                rw [if_pos (wanted_no rfl)]
                go_simp
                refine hK _ _ (slotLe_refl _) ?_
                exact rfl
              refine ⟨?_, ?_⟩
              · intro a W K N hK
                have e137 : a.tmps[137]?.getD undef = _ := N.dep' 2 137 (by kernel_rfl)
                rw [if_pos (wanted_no rfl)]
                go_simp
                refine hK _ _ (slotLe_refl _) ?_
                exact rfl
              refine ⟨?_, ?_⟩
              · intro a W K N hK
                have e15 : a.tmps[15]?.getD undef = .int .i64 0 := N.was' 15 _ (by kernel_rfl) rfl
                have eg : a.tmps[138]?.getD undef = .bool true := N.dep' 3 138 (by kernel_rfl)
                rw [if_pos (by rw [wanted_get (g := 3) (d := 138) rfl rfl eg]; decide)]
                clear eg
                go_simp
                refine hK _ _ (slotLe_refl _) ?_
                exact rfl
              refine ⟨?_, ?_⟩
              · intro a W K N hK
                have e139 : a.tmps[139]?.getD undef = _ := N.dep' 4 139 (by kernel_rfl)
                have eg : a.tmps[138]?.getD undef = .bool true := N.dep' 3 138 (by kernel_rfl)
                rw [if_pos (by rw [wanted_get (g := 3) (d := 138) rfl rfl eg]; decide)]
                clear eg
                go_simp
                refine hK _ _ (slotLe_refl _) ?_
                exact rfl
              refine ⟨?_, ?_⟩
              · intro a W K N hK
                have e140 : a.tmps[140]?.getD undef = _ := N.dep' 5 140 (by kernel_rfl)
                have eg : a.tmps[138]?.getD undef = .bool true := N.dep' 3 138 (by kernel_rfl)
                rw [if_pos (by rw [wanted_get (g := 3) (d := 138) rfl rfl eg]; decide)]
                clear eg
                go_simp
                refine hK _ _ (slotLe_refl _) ?_
                exact rfl
              refine ⟨?_, ?_⟩
              · intro a W K N hK
                have eg : a.tmps[141]?.getD undef = .bool true := N.dep' 6 141 (by kernel_rfl)
                rw [if_neg (by rw [wanted_get (g := 6) (d := 141) rfl rfl eg]; decide)]
                refine hK _ _ (slotLe_refl _) ?_
                exact rfl
              refine ⟨?_, ?_⟩
              · intro a W K N hK
                have eg : a.tmps[141]?.getD undef = .bool true := N.dep' 6 141 (by kernel_rfl)
                rw [if_neg (by rw [wanted_get (g := 6) (d := 141) rfl rfl eg]; decide)]
                refine hK _ _ (slotLe_refl _) ?_
                exact rfl
              refine ⟨?_, ?_⟩
              · intro a W K N hK
                have eg : a.tmps[141]?.getD undef = .bool true := N.dep' 6 141 (by kernel_rfl)
                rw [if_neg (by rw [wanted_get (g := 6) (d := 141) rfl rfl eg]; decide)]
                refine hK _ _ (slotLe_refl _) ?_
                exact rfl
              refine ⟨?_, ?_⟩
              · intro a W K N hK
                have eg : a.tmps[141]?.getD undef = .bool true := N.dep' 6 141 (by kernel_rfl)
                rw [if_neg (by rw [wanted_get (g := 6) (d := 141) rfl rfl eg]; decide)]
                refine hK _ _ (slotLe_refl _) ?_
                exact rfl
              refine ⟨?_, ?_⟩
              · intro a W K N hK
                have eg : a.tmps[141]?.getD undef = .bool true := N.dep' 6 141 (by kernel_rfl)
                rw [if_neg (by rw [wanted_get (g := 6) (d := 141) rfl rfl eg]; decide)]
                refine hK _ _ (slotLe_refl _) ?_
                exact rfl
              refine ⟨?_, ?_⟩
              · intro a W K N hK
                have eg : a.tmps[141]?.getD undef = .bool true := N.dep' 6 141 (by kernel_rfl)
                rw [if_neg (by rw [wanted_get (g := 6) (d := 141) rfl rfl eg]; decide)]
                refine hK _ _ (slotLe_refl _) ?_
                exact rfl
              refine ⟨?_, ?_⟩
              · intro a W K N hK
                have eg : a.tmps[141]?.getD undef = .bool true := N.dep' 6 141 (by kernel_rfl)
                rw [if_neg (by rw [wanted_get (g := 6) (d := 141) rfl rfl eg]; decide)]
                refine hK _ _ (slotLe_refl _) ?_
                exact rfl
              refine ⟨?_, ?_⟩
              · intro a W K N hK
                have e141 : a.tmps[141]?.getD undef = _ := N.dep' 6 141 (by kernel_rfl)
                have e148 : a.tmps[148]?.getD undef = undef := N.dep' 13 148 (by kernel_rfl)
                have eg : a.tmps[138]?.getD undef = .bool true := N.dep' 3 138 (by kernel_rfl)
                rw [if_pos (by rw [wanted_get (g := 3) (d := 138) rfl rfl eg]; decide)]
                clear eg
                go_simp
                refine hK _ _ (slotLe_refl _) ?_
                exact rfl
              refine ⟨?_, ?_⟩
              · intro a W K N hK
                have e138 : a.tmps[138]?.getD undef = _ := N.dep' 3 138 (by kernel_rfl)
                have e149 : a.tmps[149]?.getD undef = _ := N.dep' 14 149 (by kernel_rfl)
                rw [if_pos (wanted_no rfl)]
                go_simp
                refine hK _ _ (slotLe_refl _) ?_
                exact rfl
              refine ⟨?_, ?_⟩
              · intro a W K N hK
                have e150 : a.tmps[150]?.getD undef = _ := N.dep' 15 150 (by kernel_rfl)
                rw [if_pos (wanted_no rfl)]
                go_simp
                refine hK _ _ (slotLe_refl _) ?_
                exact rfl
              refine ⟨?_, ?_⟩
              · intro a W K N hK
                have eg : a.tmps[151]?.getD undef = .bool true := N.dep' 16 151 (by kernel_rfl)
                rw [if_pos (by rw [wanted_get (g := 16) (d := 151) rfl rfl eg]; decide)]
                clear eg
                go_simp
                refine (HAW.out _).mono ?_
                rintro e w4 ⟨rfl, b4⟩
                refine hK _ _ b4 ?_
                exact rfl
              refine ⟨?_, ?_⟩
              · intro a W K N hK
                have e151 : a.tmps[151]?.getD undef = _ := N.dep' 16 151 (by kernel_rfl)
                have e152 : a.tmps[152]?.getD undef = _ := N.dep' 17 152 (by kernel_rfl)
                rw [if_pos (wanted_no rfl)]
                go_simp
                refine hK _ _ (slotLe_refl _) ?_
                exact rfl
              refine ⟨?_, ?_⟩
              · intro a W K N hK
                have e153 : a.tmps[153]?.getD undef = _ := N.dep' 18 153 (by kernel_rfl)
                rw [if_pos (wanted_no rfl)]
                go_simp
                refine hK _ _ (slotLe_refl _) ?_
                exact rfl
              exact trivial
            case fin =>
              intro W1 hW1
              simp only [FinAll, slotPhi, List.getD_cons_zero, List.getD_cons_succ, forall_eq, Act.put, List.setIfInBounds_toArray, List.set_cons_zero, List.set_cons_succ]
              have bU := below_undrew hW1
              go_wp2_with fail
              go_ret
              exact ⟨rfl, HBZ.out.trans (bU.mono HBZ.out.size)⟩
          · have hq0b : ((q : Int) == 0) = false := by rw [beq_eq_false_iff_ne]; omega
            have HMQ := Lib.hid (show mostOf (Mt.sets l) (q : Int) = (L.take q).map Ge.gr from by unfold mostOf; rw [if_pos (by have := HLL.out; omega), List.map_take, HM.out]; rfl)
            have HL2 := Lib.hid (fun (L2 : List Ge) (h : L2.map Ge.gr = (L.take q).map Ge.gr) => show L2.length ≤ 100000 ∧ ∀ g ∈ L2, g.rrs.length ≤ 100000 from by
              refine ⟨by have := congrArg List.length h; rw [List.length_map, List.length_map, List.length_take] at this; omega, fun g hg => ?_⟩
              have h1 : g.gr ∈ (L.take q).map Ge.gr := by rw [← h]; exact List.mem_map.2 ⟨g, hg, rfl⟩
              rw [List.map_take, HM.out] at h1
              have := Mt.rrs_len l _ (List.mem_of_mem_take h1)
              simp only [Ge.gr] at this
              omega)
            go_wp2_with fail
            refine wp_region_slots slotLe (slotPhi ((fun v _ => v = ?sf135) :: (fun v _ => v = ?sf136) :: (fun v _ => v = ?sf137) :: (fun v _ => v = ?sf138) :: (fun v _ => v = ?sf139) :: (fun v _ => v = ?sf140) :: (fun v _ => v = ?sf141) :: (fun v _ => v = ?sf142) :: (fun v _ => v = ?sf143) :: (fun v W' => ∃ L2, GRead v L2 W' ∧ L2.map Ge.gr = (L.take q).map Ge.gr) :: (fun v _ => v = ?sf145) :: (fun v _ => v = ?sf146) :: (fun v _ => v = ?sf147) :: (fun v _ => v = ?sf148) :: (fun v _ => v = ?sf149) :: (fun v _ => v = ?sf150) :: (fun v _ => v = ?sf151) :: (fun v _ => v = ?sf152) :: (fun v _ => v = ?sf153) :: (fun v _ => v = ?sf4) :: [])) slotLe_refl slotLe_trans (slotPhi_stable ?stb) (by kernel_rfl) (by kernel_rfl) (by kernel_rfl) ?steps ?fin
            case stb =>
              refine ⟨by intro _ _ _ _ h; exact h, ?_⟩
              refine ⟨by intro _ _ _ _ h; exact h, ?_⟩
              refine ⟨by intro _ _ _ _ h; exact h, ?_⟩
              refine ⟨by intro _ _ _ _ h; exact h, ?_⟩
              refine ⟨by intro _ _ _ _ h; exact h, ?_⟩
              refine ⟨by intro _ _ _ _ h; exact h, ?_⟩
              refine ⟨by intro _ _ _ _ h; exact h, ?_⟩
              refine ⟨by intro _ _ _ _ h; exact h, ?_⟩
              refine ⟨by intro _ _ _ _ h; exact h, ?_⟩
              refine ⟨by rintro v x y h ⟨L2, h1, h2⟩; exact ⟨L2, h1.below h, h2⟩, ?_⟩
              refine ⟨by intro _ _ _ _ h; exact h, ?_⟩
              refine ⟨by intro _ _ _ _ h; exact h, ?_⟩
              refine ⟨by intro _ _ _ _ h; exact h, ?_⟩
              refine ⟨by intro _ _ _ _ h; exact h, ?_⟩
              refine ⟨by intro _ _ _ _ h; exact h, ?_⟩
              refine ⟨by intro _ _ _ _ h; exact h, ?_⟩
              refine ⟨by intro _ _ _ _ h; exact h, ?_⟩
              refine ⟨by intro _ _ _ _ h; exact h, ?_⟩
              refine ⟨by intro _ _ _ _ h; exact h, ?_⟩
              refine ⟨by intro _ _ _ _ h; exact h, ?_⟩
              exact trivial
            case steps =>
              refine ⟨?_, ?_⟩
              · intro a W K N hK
                have e6 : a.tmps[6]?.getD undef = .int .i64 (CN : Int) := N.was' 6 _ (by kernel_rfl) rfl
                rw [if_pos (wanted_no rfl)]
                go_simp
                refine hK _ _ (slotLe_refl _) ?_
                exact rfl
              refine ⟨?_, ?_⟩
              · intro a W K N hK
                have e11 : a.tmps[11]?.getD undef = .int .i64 (CN : Int) := N.was' 11 _ (by kernel_rfl) rfl
                rw [if_pos (wanted_no rfl)]
                go_simp
                refine hK _ _ (slotLe_refl _) ?_
                exact rfl
              refine ⟨?_, ?_⟩
              · intro a W K N hK
                have e135 : a.tmps[135]?.getD undef = _ := N.dep' 0 135 (by kernel_rfl)
                have e136 : a.tmps[136]?.getD undef = _ := N.dep' 1 136 (by kernel_rfl)
                rw [if_pos (wanted_no rfl)]
                go_simp
                refine hK _ _ (slotLe_refl _) ?_
                exact rfl
              refine ⟨?_, ?_⟩
              · intro a W K N hK
                have e137 : a.tmps[137]?.getD undef = _ := N.dep' 2 137 (by kernel_rfl)
                rw [if_pos (wanted_no rfl)]
                go_simp
                refine hK _ _ (slotLe_refl _) ?_
                exact rfl
              refine ⟨?_, ?_⟩
              · intro a W K N hK
                have e15 : a.tmps[15]?.getD undef = .int .i64 (q : Int) := N.was' 15 _ (by kernel_rfl) rfl
                have eg : a.tmps[138]?.getD undef = .bool true := N.dep' 3 138 (by kernel_rfl)
                rw [if_pos (by rw [wanted_get (g := 3) (d := 138) rfl rfl eg]; decide)]
                clear eg
                go_simp
                refine hK _ _ (slotLe_refl _) ?_
                exact rfl
              refine ⟨?_, ?_⟩
              · intro a W K N hK
                have e139 : a.tmps[139]?.getD undef = _ := N.dep' 4 139 (by kernel_rfl)
                have eg : a.tmps[138]?.getD undef = .bool true := N.dep' 3 138 (by kernel_rfl)
                rw [if_pos (by rw [wanted_get (g := 3) (d := 138) rfl rfl eg]; decide)]
                clear eg
                go_simp
                refine hK _ _ (slotLe_refl _) ?_
                exact rfl
              refine ⟨?_, ?_⟩
              · intro a W K N hK
                have e140 : a.tmps[140]?.getD undef = _ := N.dep' 5 140 (by kernel_rfl)
                have eg : a.tmps[138]?.getD undef = .bool true := N.dep' 3 138 (by kernel_rfl)
                rw [if_pos (by rw [wanted_get (g := 3) (d := 138) rfl rfl eg]; decide)]
                clear eg
                go_simp
                refine hK _ _ (slotLe_refl _) ?_
                exact rfl
              refine ⟨?_, ?_⟩
              · intro a W K N hK
                have e0 : a.tmps[0]?.getD undef = .slice as2 l.length cs2 := N.was' 0 _ (by kernel_rfl) rfl
                have eg : a.tmps[141]?.getD undef = .bool false := N.dep' 6 141 (by kernel_rfl)
                rw [if_pos (by rw [wanted_get (g := 6) (d := 141) rfl rfl eg]; decide)]
                clear eg
                go_simp
                refine hK _ _ (slotLe_refl _) ?_
                exact rfl
              refine ⟨?_, ?_⟩
              · intro a W K N hK
                have e15 : a.tmps[15]?.getD undef = .int .i64 (q : Int) := N.was' 15 _ (by kernel_rfl) rfl
                have eg : a.tmps[141]?.getD undef = .bool false := N.dep' 6 141 (by kernel_rfl)
                rw [if_pos (by rw [wanted_get (g := 6) (d := 141) rfl rfl eg]; decide)]
                clear eg
                go_simp
                refine hK _ _ (slotLe_refl _) ?_
                exact rfl
              refine ⟨?_, ?_⟩
              · intro a W K N hK
                have e142 : a.tmps[142]?.getD undef = _ := N.dep' 7 142 (by kernel_rfl)
                have e143 : a.tmps[143]?.getD undef = _ := N.dep' 8 143 (by kernel_rfl)
                have eg : a.tmps[141]?.getD undef = .bool false := N.dep' 6 141 (by kernel_rfl)
                rw [if_pos (by rw [wanted_get (g := 6) (d := 141) rfl rfl eg]; decide)]
                clear eg
                go_simp
                refine (HGR.out (q : Int) _ (readR_below HRZ.out (below_undrew N.le)) (by omega)).mono ?_
                rintro e w4 ⟨v4, L4, rfl, hG4, hm4, b4⟩
                refine hK _ _ b4 ?_
                exact ⟨L4, hG4.read, by rw [hm4, HMQ.out]⟩
              refine ⟨?_, ?_⟩
              · intro a W K N hK
                have e5 : a.tmps[5]?.getD undef = .slice ao L.length cp := N.was' 5 _ (by kernel_rfl) rfl
                have eg : a.tmps[141]?.getD undef = .bool false := N.dep' 6 141 (by kernel_rfl)
                rw [if_pos (by rw [wanted_get (g := 6) (d := 141) rfl rfl eg]; decide)]
                clear eg
                go_simp
                refine hK _ _ (slotLe_refl _) ?_
                exact rfl
              refine ⟨?_, ?_⟩
              · intro a W K N hK
                have e15 : a.tmps[15]?.getD undef = .int .i64 (q : Int) := N.was' 15 _ (by kernel_rfl) rfl
                have eg : a.tmps[141]?.getD undef = .bool false := N.dep' 6 141 (by kernel_rfl)
                rw [if_pos (by rw [wanted_get (g := 6) (d := 141) rfl rfl eg]; decide)]
                clear eg
                go_simp
                refine hK _ _ (slotLe_refl _) ?_
                exact rfl
              refine ⟨?_, ?_⟩
              · intro a W K N hK
                have e145 : a.tmps[145]?.getD undef = _ := N.dep' 10 145 (by kernel_rfl)
                have e146 : a.tmps[146]?.getD undef = _ := N.dep' 11 146 (by kernel_rfl)
                have eg : a.tmps[141]?.getD undef = .bool false := N.dep' 6 141 (by kernel_rfl)
                rw [if_pos (by rw [wanted_get (g := 6) (d := 141) rfl rfl eg]; decide)]
                clear eg
                have hT := HT1.out
                go_simp
                refine hK _ _ (slotLe_refl _) ?_
                exact rfl
              refine ⟨?_, ?_⟩
              · intro a W K N hK
                have e144 := Lib.hid (show (fun v W' => ∃ L2, GRead v L2 W' ∧ L2.map Ge.gr = (L.take q).map Ge.gr) (a.tmps[144]?.getD undef) W from N.dep' 9 144 (by kernel_rfl))
                have e147 : a.tmps[147]?.getD undef = _ := N.dep' 12 147 (by kernel_rfl)
                have eg : a.tmps[141]?.getD undef = .bool false := N.dep' 6 141 (by kernel_rfl)
                rw [if_pos (by rw [wanted_get (g := 6) (d := 141) rfl rfl eg]; decide)]
                clear eg
                obtain ⟨L2, hL2, hm2⟩ := e144.out
                go_simp
                refine (gsame_any L2 (L.take q) _ _ _ hL2 (HTK.out _ (below_undrew N.le)) hm2 (HL2.out L2 hm2).1 (HL2.out L2 hm2).2).mono ?_
                rintro e w4 ⟨rfl, b4⟩
                refine hK _ _ b4 ?_
                exact rfl
              refine ⟨?_, ?_⟩
              · intro a W K N hK
                have e141 : a.tmps[141]?.getD undef = _ := N.dep' 6 141 (by kernel_rfl)
                have e148 : a.tmps[148]?.getD undef = _ := N.dep' 13 148 (by kernel_rfl)
                have eg : a.tmps[138]?.getD undef = .bool true := N.dep' 3 138 (by kernel_rfl)
                rw [if_pos (by rw [wanted_get (g := 3) (d := 138) rfl rfl eg]; decide)]
                clear eg
                go_simp
                refine hK _ _ (slotLe_refl _) ?_
                exact rfl
              refine ⟨?_, ?_⟩
              · intro a W K N hK
                have e138 : a.tmps[138]?.getD undef = _ := N.dep' 3 138 (by kernel_rfl)
                have e149 : a.tmps[149]?.getD undef = _ := N.dep' 14 149 (by kernel_rfl)
                rw [if_pos (wanted_no rfl)]
                go_simp
                refine hK _ _ (slotLe_refl _) ?_
                exact rfl
              refine ⟨?_, ?_⟩
              · intro a W K N hK
                have e150 : a.tmps[150]?.getD undef = _ := N.dep' 15 150 (by kernel_rfl)
                rw [if_pos (wanted_no rfl)]
                go_simp
                refine hK _ _ (slotLe_refl _) ?_
                exact rfl
              refine ⟨?_, ?_⟩
              · intro a W K N hK
                have eg : a.tmps[151]?.getD undef = .bool true := N.dep' 16 151 (by kernel_rfl)
                rw [if_pos (by rw [wanted_get (g := 16) (d := 151) rfl rfl eg]; decide)]
                clear eg
                go_simp
                refine (HAW.out _).mono ?_
                rintro e w4 ⟨rfl, b4⟩
                refine hK _ _ b4 ?_
                exact rfl
              refine ⟨?_, ?_⟩
              · intro a W K N hK
                have e151 : a.tmps[151]?.getD undef = _ := N.dep' 16 151 (by kernel_rfl)
                have e152 : a.tmps[152]?.getD undef = _ := N.dep' 17 152 (by kernel_rfl)
                rw [if_pos (wanted_no rfl)]
                go_simp
                refine hK _ _ (slotLe_refl _) ?_
                exact rfl
              refine ⟨?_, ?_⟩
              · intro a W K N hK
                have e153 : a.tmps[153]?.getD undef = _ := N.dep' 18 153 (by kernel_rfl)
                rw [if_pos (wanted_no rfl)]
                go_simp
                refine hK _ _ (slotLe_refl _) ?_
                exact rfl
              exact trivial
            case fin =>
              intro W1 hW1
              simp only [FinAll, slotPhi, List.getD_cons_zero, List.getD_cons_succ, forall_eq, Act.put, List.setIfInBounds_toArray, List.set_cons_zero, List.set_cons_succ]
              intro v144 h144
              have bU := below_undrew hW1
              go_wp2_with fail
              go_ret
              exact ⟨rfl, HBZ.out.trans (bU.mono HBZ.out.size)⟩
end Go.Proofs.Ytjbigdmhmfjjpaa

/- MatchSets of package freshetlaw5 (each record of the class is in just one set, once; sets come in the order of their first records; stopped anywhere they are the same so far) returns true at every list of records and int.
   Conditions: those of the row, none beside. -/
namespace Go.Proofs.Ytjbigdmhmfjjpaa.matchSets
open Go.ChangeShapes Go.WideShapes Go.ChangeAt Go.RowKit

set_option maxRecDepth 100000 in
theorem contract (H : Type) (enc : TypeId × Value → H) (W : World) (base : Nat) (args : Array Value) (ds gs : List (DataW H)) (before : List MemPlace)
    (hval : ∀ (j : Nat) t v, Try.f6.params[j]? = some t → args[j]? = some v → Value.okWide Try.prog W .any base t v)
    (hW : DataW.Whole enc Try.prog Try.f6.params.toList Rows.matchSetsSpec.vars false W args.toList ds gs before) (_hL : laidMetH Try.prog laidList W) :
    Calls Try.prog 6 args W fun e W' => ∃ v, e = .returned v ∧ Rows.matchSetsSpec.post enc Try.prog Try.f6 false true false false W args v W' := by
  have hW' := hW
  obtain ⟨p, q, hA0, hV, rfl, _, _⟩ := hW
  have hA : DataW.TrodAll enc Try.prog W 0 (fun _ => true) true Try.f6.params.toList args.toList ds p := hA0
  clear hA0
  rw [Try.params6] at hA hval
  obtain ⟨v0, vs0, d0, ds0, p0, q0, hargs0, rfl, rfl, h0, r0⟩ := trodAll_cons hA
  obtain ⟨v1, vs1, d1, ds1, p1, q1, hargs1, rfl, rfl, h1, r1⟩ := trodAll_cons r0
  subst hargs1
  obtain ⟨rfl, rfl, rfl⟩ := trodAll_nil r1
  obtain rfl : args = #[v0, v1] := by cases args; simp_all
  obtain ⟨rfl, rfl⟩ := trodVars_none hV
  obtain ⟨l0, hr0, hl0, hs0, hi0⟩ := arg_rrl (hval 0 _ v0 rfl rfl) h0
  obtain ⟨z1, rfl, hz1⟩ := arg_int (hval 1 _ _ rfl rfl) h1
  refine (msets_any l0 v0 z1 W hr0 hl0 hs0 hi0 hz1).mono fun e W' ⟨he, hbl⟩ => ?_
  exact ⟨_, he, law_post hW' rfl hbl rfl rfl (fun t ht => readT5 t (by rw [Try.params6] at ht; exact (show ∀ t ∈ (#[25, 3] : Array TypeId).toList, t ∈ [9, 3, 27, 25, 36, 60] by decide) t ht))⟩

set_option maxRecDepth 100000 in
theorem reads (os : Os) {H : Type} (enc : TypeId × Value → H) : ∃ places, DataW.whole enc Try.prog ((laidWorld os).forCall (fun _ _ => 0) ⟨#[], #[.slice none 0 0, .int .i64 0], []⟩).memory Try.f6.params.toList Rows.matchSetsSpec.vars false (#[.slice none 0 0, .int .i64 0] : Array Value).toList 8 = some ([.nil, .lit (.int .i64 0)], [], places) :=
  ⟨[], by kernel_rfl⟩

set_option maxRecDepth 100000 in
theorem lifted (os : Os) (started : os.Started) (H : Type) (enc : TypeId × Value → H) (F : Stop.Interp) :
    ReturnsInHanded {} Try.checked os 6 .any ((OpenSpec.ofChange Rows.matchSetsSpec).preRow enc Try.prog Try.f6 Rows.matchSetsRow.domain false Rows.matchSetsRow.laid) (((OpenSpec.ofChange Rows.matchSetsSpec).at F).post enc Try.prog Try.f6 false true false false) := by
  obtain ⟨places, hx⟩ := reads os enc
  refine returnsInHanded_of_row (C := Try.checked) (s := OpenSpec.ofChange Rows.matchSetsSpec) own started (by kernel_rfl) Try.func6
    (witness_row_atRef (enc := enc) (C := Try.checked) false (laidWorld os) #[.slice none 0 0, .int .i64 0] rfl (by kernel_rfl) (by kernel_rfl) (by kernel_rfl)
      (OpenSpec.preRow_of_cond 8 hx (by kernel_rfl) (fun k hk => by cases hk) (by kernel_rfl) (laid_met os _))) ?_
  intro W base args ds gs before hval hW _ _ _ hL _ _
  exact contract H enc W base args ds gs before hval hW hL

theorem said : Rows.MatchSetsSaid :=
  OpenClaim.holds_of_cond 6 Try.f6 rfl rfl rfl rfl rfl rfl rfl ⟨rfl, rfl, rfl, rfl, rfl⟩ rfl rfl rfl rfl rfl (by kernel_rfl) Try.func6 (by kernel_rfl)
    (of_decide_eq_true (by kernel_rfl)) (by unfold Func.isWrapper; first | (rw [if_pos (by decide +kernel)]; kernel_rfl) | (rw [if_neg (by decide +kernel)]; exact ⟨rfl, rfl⟩))
    (fun os started H enc _ F => by rw [OpenClaim.pre_eq_preRow]; exact lifted os started H enc F)
end Go.Proofs.Ytjbigdmhmfjjpaa.matchSets
