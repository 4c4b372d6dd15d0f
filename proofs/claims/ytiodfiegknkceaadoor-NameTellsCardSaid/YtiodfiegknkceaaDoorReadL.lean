/- readLabel. -/
import Derived.Test.YtiodfiegknkceaaDoorRead
namespace Go.Proofs.YtiodfiegknkceaaDoor
open Go.RowKit Go.Shelf
attribute [local go_sem] Oper.semAt_some

namespace Nm
theorem readB_le (s : List UInt8) : (readB s).2 ≤ s.length := by
  unfold readB
  split
  · simp
  · split
    · split <;> simp
    · split
      · simp
      · rename_i d r'
        split
        · simp
        · split
          · rename_i h
            split
            · split <;> simp; omega
            · simp
          · simp
/-- A label read from s on, what is read already in front of it. -/
def rlF : Nat → List UInt8 → List UInt8 → Nat → List UInt8 × Nat
  | 0, _, _, _ => ([], 0)
  | _ + 1, [], _, _ => ([], 0)
  | f + 1, c :: r, acc, k => if c = 46 then (acc, k + 1) else if (readB (c :: r)).2 = 0 then ([], 0) else rlF f ((c :: r).drop (readB (c :: r)).2) (acc ++ [(readB (c :: r)).1]) (k + (readB (c :: r)).2)
theorem rlF_fuel : ∀ (f g : Nat) (s acc : List UInt8) (k : Nat), s.length < f → s.length < g → rlF f s acc k = rlF g s acc k
  | 0, _, _, _, _, h, _ => by omega
  | _ + 1, 0, _, _, _, _, h => by omega
  | f + 1, g + 1, [], _, _, _, _ => rfl
  | f + 1, g + 1, c :: r, acc, k, h, h' => by
    simp only [rlF]
    split
    · rfl
    · split
      · rfl
      · rename_i hk
        have : ((c :: r).drop (readB (c :: r)).2).length < (c :: r).length := by rw [List.length_drop]; simp only [List.length_cons]; omega
        exact rlF_fuel f g _ _ _ (by omega) (by omega)
def rl (s acc : List UInt8) (k : Nat) : List UInt8 × Nat := rlF (s.length + 1) s acc k
theorem rl_nil (acc : List UInt8) (k : Nat) : rl [] acc k = ([], 0) := rfl
theorem rl_dot (r acc : List UInt8) (k : Nat) : rl (46 :: r) acc k = (acc, k + 1) := by simp [rl, rlF]
theorem rl_bad {c : UInt8} {r acc : List UInt8} {k : Nat} (h : c ≠ 46) (hb : (readB (c :: r)).2 = 0) : rl (c :: r) acc k = ([], 0) := by
  simp [rl, rlF, h, hb]
theorem rl_step {c : UInt8} {r acc : List UInt8} {k : Nat} (h : c ≠ 46) (hb : (readB (c :: r)).2 ≠ 0) : rl (c :: r) acc k = rl ((c :: r).drop (readB (c :: r)).2) (acc ++ [(readB (c :: r)).1]) (k + (readB (c :: r)).2) := by
  unfold rl
  rw [show (c :: r).length + 1 = ((c :: r).length) + 1 from rfl, rlF, if_neg h, if_neg hb]
  exact rlF_fuel _ _ _ _ _ (by rw [List.length_drop]; simp only [List.length_cons]; omega) (by omega)
end Nm

def rlRet (s : List UInt8) : Value := .tuple #[.string ⟨(Nm.rl s [] 0).1.toArray⟩, .int .i64 ((Nm.rl s [] 0).2 : Int)]
theorem rlRet_of {s l : List UInt8} {k : Nat} (h : Nm.rl s [] 0 = (l, k)) : rlRet s = .tuple #[.string ⟨l.toArray⟩, .int .i64 (k : Int)] := by unfold rlRet; rw [h]

set_option maxRecDepth 100000 in
set_option maxHeartbeats 2000000 in
theorem readLabel_any (s : List UInt8) (w : World) (hs : s.length ≤ 100000) (hv : VarsOk w) :
    Calls Tryd.prog 37 #[.string ⟨s.toArray⟩] w fun e w' => e = .returned (rlRet s) ∧ Below w.heap.size w w' := by
  refine (callsIn_wide (n := 8)).1 ?_
  refine callsIn_of_wp Tryd.func37 rfl trivial ?_ rfl
  simp only [Tryd.ntmps37, List.size_toArray, List.length_cons, List.length_nil, Nat.reduceAdd, Nat.reduceSub, Array.replicate_succ, Array.replicate_zero, List.push_toArray, List.append_toArray, List.nil_append, List.cons_append]
  gi_wp2
  gi_loopw [4, 5] (fun v i wr => ∃ (v1 : Value) (k : Nat) (L : List UInt8), v = v1 ∧ k ≤ s.length ∧ L.length ≤ k ∧ i = .int .i64 k ∧ OwnE encB 5 w.heap.size v1 L wr ∧ Below w.heap.size w wr ∧ Hid (Nm.rl (s.drop k) L k = Nm.rl s [] 0)) (fun _ i _ => s.length + 1 - (intOf i).toNat)
  case atStart => exact ⟨_, 0, [], rfl, by omega, by simp, rfl, ownE_nil _ _ _ _, Below.refl _ _, Lib.hid rfl⟩
  case round =>
    obtain ⟨v1, k, L, rfl, hk, hLk, rfl, ho, hb, hr⟩ := hrel
    have hwr := hb.size
    by_cases hlt : k < s.length
    · have hc : ((⟨s.toArray⟩ : ByteArray)[k]'hlt) = s[k] := rfl
      have hd := Nm.drop_cons hlt
      by_cases h46 : s[k] = 46
      · have t1 : ((s[k].toNat : Int) != 46) = false := by rw [h46]; rfl
        have hfin : Nm.rl s [] 0 = (L, k + 1) := by rw [← hr.out, hd, h46, Nm.rl_dot]
        have H := Lib.hid (rlRet_of hfin)
        have hst := run_str (src := 44) (dst := 9) (P := Tryd.prog) Tryd.underlying44 Tryd.underlying5 Tryd.underlying9 ho
        have t2 : ((k : Int) == (s.length : Int)) = false := by rw [beq_eq_false_iff_ne]; omega
        clear h46 hd hfin
        gi_wp2
        go_ret2
        exact ⟨by rw [H.out]; rfl, hb⟩
      · have t1 : ((s[k].toNat : Int) != 46) = true := by have h : ((s[k].toNat : Int) == 46) = false := nbeqI (b := 46) h46; rw [bne, h]; rfl
        have hex := ext_from s k
        have hle := Nm.readB_le (s.drop k)
        rw [List.length_drop] at hle
        have hrb := fun W (hW : VarsOk W) => readByte_any (s.drop k) W (by simp; omega) (fun e => by rw [hd] at e; cases e) hW
        have HRB := Lib.hid hrb
        clear hrb
        by_cases h0 : (Nm.readB (s.drop k)).2 = 0
        · have hfin : Nm.rl s [] 0 = ([], 0) := by rw [← hr.out, hd]; exact Nm.rl_bad h46 (by rw [← hd]; exact h0)
          have H := Lib.hid (rlRet_of hfin)
          have HB := Lib.hid (show rbRet (s.drop k) = .tuple #[.int .u8 ((Nm.readB (s.drop k)).1.toNat : Int), .int .i64 0] by unfold rbRet; rw [h0]; rfl)
          clear h46 hd hfin h0
          gi_wp2_with (refine ⟨trivial, ?_⟩; gi_at_call 49; refine (callsIn_wide.2 (HRB.out _ (hv.below hb))).mono ?_; rw [HB.out]; rintro e w1 ⟨rfl, hb1⟩)
          go_ret2
          exact ⟨by rw [H.out]; rfl, below_trans hb hb1⟩
        · obtain ⟨c, hcc⟩ : ∃ c, c = (Nm.readB (s.drop k)).1 := ⟨_, rfl⟩
          obtain ⟨d, hdd⟩ : ∃ d, d = (Nm.readB (s.drop k)).2 := ⟨_, rfl⟩
          have HB := Lib.hid (show rbRet (s.drop k) = .tuple #[.int .u8 (c.toNat : Int), .int .i64 (d : Int)] by unfold rbRet; rw [hcc, hdd])
          have hstep : Nm.rl (s.drop (k + d)) (L ++ [c]) (k + d) = Nm.rl s [] 0 := by
            rw [← hr.out, hd, Nm.rl_step h46 (by rw [← hd]; exact h0), ← hd, ← hcc, ← hdd, List.drop_drop]
          have HS := Lib.hid hstep
          rw [← hdd] at h0 hle
          have t3 : ((d : Int) == 0) = false := by rw [beq_eq_false_iff_ne]; omega
          clear h46 hd hstep hcc hdd
          gi_wp2_with (first
            | (refine ⟨trivial, ?_⟩; gi_at_call 49; refine (callsIn_wide.2 (HRB.out _ (hv.below hb))).mono ?_; rw [HB.out]; rintro e w1 ⟨rfl, hb1⟩; have hbb := below_trans hb hb1; have hwb := hbb.size; have ho1 := ownE_below ho hb1)
            | (gi_at_builtin; refine wpListIn_apd _ rfl _ _ 44 rfl encB encB_one w.heap.size 5 _ 1 Tryd.underlying44 infoByte rfl _ L rfl (ownE_alloc ho1 _) ⟨_, 0, none⟩ 1 1 [c] rfl rfl (cell_one_new _ _ _) (by omega) (by omega) (by simp; omega) ?_; intro v2 w2 ho2 ha2 hn2; refine Hid.out ?_))
          refine Lib.hid ?_
          gi_wp2
          go_roundw
          case rel => exact ⟨_, k + d, L ++ [c], rfl, by omega, by simp; omega, by go_num, ho2, hbb.trans (ha2.of_alloc hwb).below, HS⟩
          case measure => simp [intOf]; omega
    · obtain rfl : k = s.length := by omega
      have hfin : Nm.rl s [] 0 = ([], 0) := by rw [← hr.out, List.drop_length, Nm.rl_nil]
      have H := Lib.hid (rlRet_of hfin)
      clear hfin
      gi_wp2
      go_ret2
      exact ⟨by rw [H.out]; rfl, hb⟩
end Go.Proofs.YtiodfiegknkceaaDoor
