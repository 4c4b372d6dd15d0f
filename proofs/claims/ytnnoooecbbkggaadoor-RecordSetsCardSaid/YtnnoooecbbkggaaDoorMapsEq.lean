/- maps.Equal at two sets of records, and SameSet. -/
import Derived.Test.YtnnoooecbbkggaaDoorSets
import Derived.Test.YtnnoooecbbkggaaDoorSetMath
namespace Go.Proofs.YtnnoooecbbkggaaDoor
open Go.RowKit Go.Shelf Go.Maps
attribute [local go_sem] Oper.semAt_some

theorem lits_string {m : Nat} {c : Value} {ls : List Lit} (h : Tryd.prog.keyLits (m + 1) 9 [c] = some ls) : ∃ l : List UInt8, c = .string ⟨l.toArray⟩ := by
  unfold Program.keyLits at h
  rw [Tryd.underlying9] at h
  cases c <;> simp at h
  rename_i s
  obtain ⟨⟨l⟩⟩ := s
  exact ⟨l, rfl⟩
theorem lits_int {m : Nat} {c : Value} {ls : List Lit} (h : Tryd.prog.keyLits (m + 1) 3 [c] = some ls) : ∃ z : Int, c = .int .i64 z := by
  unfold Program.keyLits at h
  rw [Tryd.underlying3] at h
  cases c <;> simp at h
  rename_i q n
  obtain ⟨⟨rfl, _⟩, _⟩ := h
  exact ⟨n, rfl⟩
theorem key_inv {key : Value} {kl : Lit} (h : keyOf Tryd.prog 23 key = some kl) : ∃ x : Rd.RR, key = .agg #[.string ⟨x.name.toArray⟩, .int .i64 x.typ, .int .i64 x.cls, .int .i64 x.ttl, .string ⟨x.data.toArray⟩] := by
  have h2 : Tryd.prog.cellsOf 23 = 5 := by kernel_rfl
  have h3 : Tryd.prog.cellsOf 9 = 1 := by kernel_rfl
  have h4 : Tryd.prog.cellsOf 3 = 1 := by kernel_rfl
  obtain ⟨m, hm⟩ : ∃ m, Tryd.prog.types.size = m + 1 := ⟨Tryd.prog.types.size - 1, by have := Nat.lt_of_le_of_lt (Nat.zero_le _) rowRR; omega⟩
  unfold keyOf at h
  rw [Tryd.underlying23] at h
  simp only at h
  split at h
  · rename_i hk
    rw [Bool.and_eq_true] at hk
    have hf := hk.2
    cases key <;> simp [Value.formed, Tryd.underlying23] at hf
    rename_i cs
    rw [h2] at hf
    obtain ⟨cs⟩ := cs
    match cs, hf with
    | [c0, c1, c2, c3, c4], _ =>
      rw [hm] at h
      simp only [Value.cells, Option.map_eq_some_iff] at h
      obtain ⟨ls, hls, _⟩ := h
      unfold Program.keyLits at hls
      rw [Tryd.underlying23] at hls
      simp [h2, h3, h4, List.mapM_cons] at hls
      simp only [Option.bind_eq_some_iff] at hls
      obtain ⟨a0, e0, hr⟩ := hls
      cases e1 : Tryd.prog.keyLits (m + 1) 3 [c1] with
      | none => simp [e1] at hr
      | some a1 =>
        cases e2 : Tryd.prog.keyLits (m + 1) 3 [c2] with
        | none => simp [e1, e2] at hr
        | some a2 =>
          cases e3 : Tryd.prog.keyLits (m + 1) 3 [c3] with
          | none => simp [e1, e2, e3] at hr
          | some a3 =>
            cases e4 : Tryd.prog.keyLits (m + 1) 9 [c4] with
            | none => simp [e1, e2, e3, e4] at hr
            | some a4 =>
              obtain ⟨n, rfl⟩ := lits_string e0
              obtain ⟨t, rfl⟩ := lits_int e1
              obtain ⟨c, rfl⟩ := lits_int e2
              obtain ⟨l, rfl⟩ := lits_int e3
              obtain ⟨d, rfl⟩ := lits_string e4
              exact ⟨⟨n, t, c, l, d⟩, rfl⟩
  · cases h

theorem neq_unit (W : World) : (binOp .neq 67 (.agg #[]) (.agg #[])).run Tryd.prog W = .ok (.bool false) W := by
  have hf : Tryd.prog.fieldsOf 67 = #[] := by
    unfold Program.fieldsOf
    rw [Tryd.underlying67]
  rw [run_neq_struct, run_equalIn_struct W 9999 67 _ _ (by rw [hf]; exact Tryd.underlying67) (by kernel_rfl), hf]
  simp [Op.eqFields]
theorem guard_unit (W : World) (x y : Operand) : (eqGuard .neq 67 x y (.agg #[]) (.agg #[])).run Tryd.prog W = .ok () W :=
  run_eqGuard_agg W .neq 67 x y _ _ (by kernel_rfl)
theorem zero_unit (W : World) : (zeroValue 67).run Tryd.prog W = .ok (.agg #[]) W := by kernel_rfl

set_option maxRecDepth 100000 in
set_option maxHeartbeats 8000000 in
theorem mapsEq_any (b1 b2 n1 n2 : Nat) (D1 D2 : DataW Unit) (w : World) (h1 : w.ownsMap Tryd.prog 23 (unitElem (H := Unit)) b1 n1 D1) (h2 : w.ownsMap Tryd.prog 23 (unitElem (H := Unit)) b2 n2 D2) :
    Calls Tryd.prog 51 #[.map (some b1), .map (some b2)] w fun e w' => e = .returned (.bool (setEq D1 D2)) ∧ w.grownBy w' none := by
  have l1 := fun ty => h1.len (t := 66) Tryd.underlying66 ty
  have l2 := fun ty => h2.len (t := 66) Tryd.underlying66 ty
  obtain ⟨es1, rfl, hap, hkeys⟩ := h1.entries keyedRR
  have hb2 := h2.lt
  obtain ⟨res, hres⟩ : ∃ res, setEq (.map es1) D2 = res := ⟨_, rfl⟩
  have RES : Hid (Lib.equalFuncD (fun _ _ => true) (.map es1) D2 = res) := Lib.hid hres
  rw [hres]
  clear hres
  have HAP := Lib.hid hap
  have HKEYS := Lib.hid hkeys
  clear hap hkeys
  by_cases hsz : size (.map es1 : DataW Unit) = size D2
  · have HSZ := Lib.hid hsz
    have hq : ((size (.map es1 : DataW Unit) : Int) != (size D2 : Int)) = false := by rw [bne_eq_false_iff_eq]; omega
    clear hsz
    go_enter Tryd.func51, Tryd.ntmps51
    go_wp2_with (at_range; refine wpList_range_own _ rfl _ 66 rfl 23 67 keyedRR Tryd.underlying66 (unitElem (H := Unit)) b1 n1 _ rfl h1 ?_; intro w0 hrg0 hg0 hs0; refine Hid.out ?_)
    refine Lib.hid ?_
    go_wp2
    go_loopw [16] (fun _ wr => ∃ (left : Lit → Bool) (cnt : Nat), wr.ranges Tryd.prog 23 (unitElem (H := Unit)) b1 w.heap.size n1 (.map es1) left cnt ∧ wr.ownsMap Tryd.prog 23 (unitElem (H := Unit)) b2 n2 D2 ∧ w.grownBy wr none ∧ Hid (GoodAt (fun _ _ => true) es1 D2 left))
      (fun _ wr => wr.rangeLeft b1 w.heap.size)
    case atStart => exact ⟨_, _, hrg0, h2.kept hg0 (by simp), hg0, Lib.hid (good_start HKEYS.out D2)⟩
    case round =>
      obtain ⟨left, cnt, hrg, h2r, hgw, G⟩ := hrel
      go_wp2_with (at_next; refine wpList_next_ranges _ rfl _ rfl 23 keyedRR (unitElem (H := Unit)) (fun x : Rd.RR => Value.agg #[.string ⟨x.name.toArray⟩, .int .i64 x.typ, .int .i64 x.cls, .int .i64 x.ttl, .string ⟨x.data.toArray⟩]) (fun _ : Unit => Value.agg #[]) (fun _ _ h => key_inv h) (fun v y h => ⟨(), (unitElem_inv h).1⟩) b1 w.heap.size n1 _ _ _ rfl hrg ?_ ?_)
      · intro _ hl0
        go_wp2
        go_ret
        exact ⟨by rw [← RES.out, all_good G.out hl0 HSZ.out]; rfl, hgw⟩
      · intro x kl yd yp w1 cnt1 hkey hlx hv hat hrg1 hlt hg1 hs1 hen
        have hgw1 : w.grownBy w1 none := hgw.andThen hg1 (fun j hj => by cases hj; exact Or.inl (Nat.le_refl _))
        have h2w1 := h2r.kept hg1 (fun e => by have := Option.some.inj e; omega)
        have HAT : Hid (∀ zd, (DataW.map es1).atKey kl zd = yd) := Lib.hid hat
        clear hat hlx
        obtain ⟨x0, x1, x2, x3, x4⟩ := x
        simp only at hkey hen ⊢
        have HKEY := Lib.hid hkey
        clear hkey hv
        cases hh : has D2 kl
        · have hbad : Lib.goodD (fun _ _ => true) D2 (kl, yd) = false := by unfold Lib.goodD; rw [hh]; rfl
          have HH := Lib.hid hh
          have HB := Lib.hid hbad
          clear hh hbad
          go_wp2_with (at_lookup; refine wpList_lookup_own_unit _ rfl _ _ 66 rfl 23 67 keyedRR Tryd.underlying66 (zero_unit _) b2 n2 D2 rfl ((h2w1.alloc _).alloc _) _ kl rfl HKEY.out ?_; rw [HH.out])
          go_ret
          exact ⟨by rw [← RES.out, bad_false HAP.out HKEYS.out HAT.out HB.out]; rfl, ((hgw1.andThen (World.grownBy_alloc _ _ none) (fun j hj => by cases hj)).andThen (World.grownBy_alloc _ _ none) (fun j hj => by cases hj)).andThen (World.grownBy_alloc _ _ none) (fun j hj => by cases hj)⟩
        · have hgood : Lib.goodD (fun _ _ => true) D2 (kl, yd) = true := by unfold Lib.goodD; rw [hh]; rfl
          have HH := Lib.hid hh
          have HG := Lib.hid hgood
          have hnq := neq_unit
          have hgu := guard_unit
          clear hh hgood
          go_wp2_with (at_lookup; refine wpList_lookup_own_unit _ rfl _ _ 66 rfl 23 67 keyedRR Tryd.underlying66 (zero_unit _) b2 n2 D2 rfl ((h2w1.alloc _).alloc _) _ kl rfl HKEY.out ?_; rw [HH.out])
          go_roundw
          case rel => exact ⟨_, cnt1, ((hrg1.alloc _).alloc _).alloc _, ((h2w1.alloc _).alloc _).alloc _, ((hgw1.andThen (World.grownBy_alloc _ _ none) (fun j hj => by cases hj)).andThen (World.grownBy_alloc _ _ none) (fun j hj => by cases hj)).andThen (World.grownBy_alloc _ _ none) (fun j hj => by cases hj), Lib.hid (good_step HAP.out HKEYS.out HAT.out G.out HG.out)⟩
          case measure => rw [(((hrg1.alloc _).alloc _).alloc _).left_eq, hrg.left_eq]; exact hlt
  · have hq : ((size (.map es1 : DataW Unit) : Int) != (size D2 : Int)) = true := by rw [bne_iff_ne]; omega
    have HSZ := Lib.hid hsz
    clear hsz
    go_enter Tryd.func51, Tryd.ntmps51
    go_wp2
    go_ret
    exact ⟨by rw [← RES.out, sizes_false HSZ.out]; rfl, World.grownBy.refl _ _⟩
end Go.Proofs.YtnnoooecbbkggaaDoor
