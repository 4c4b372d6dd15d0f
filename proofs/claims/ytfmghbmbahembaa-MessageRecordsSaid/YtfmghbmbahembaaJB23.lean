/- 3 texts put together: MRec, MsgC, MsgS. -/
import Derived.Test.YtfmghbmbahembaaJB20
import Derived.Test.YtfmghbmbahembaaJB22
/- writeRecord. -/
namespace Go.Proofs.Ytfmghbmbahembaa
open Go.RowKit Go.Shelf Go.Maps
attribute [local go_sem] Oper.semAt_some

theorem wdAt_take {S : WS} {sq : Bool} {t : Int} {d : List UInt8} (hT : TabOk S) : ∀ k, k ≤ (Rd.partsD t d).length → ∃ Sk, WdAt S sq d (Rd.partsD t d) ((Rd.partsD t d).take k) Sk
  | 0, _ => ⟨S, WdAt.start S sq d _ hT⟩
  | k + 1, h => by
    obtain ⟨Sk, hk⟩ := wdAt_take (sq := sq) (t := t) (d := d) hT k (by omega)
    have e : (Rd.partsD t d).take (k + 1) = (Rd.partsD t d).take k ++ [(Rd.partsD t d)[k]] := by simp
    have hp : (Rd.partsD t d).take k ++ [(Rd.partsD t d)[k]] <+: Rd.partsD t d := by rw [← e]; exact List.take_prefix _ _
    obtain ⟨h1, h2⟩ := Rd.partsD_chain hp
    exact ⟨_, by rw [e]; exact hk.next hp h1 h2⟩
theorem wD_le {S : WS} (hT : TabOk S) (r : Rd.RR) : TabOk (Ms.wD S r) ∧ (Ms.wD S r).size ≤ S.size + r.data.length ∧ (Ms.wD S r).tab.length ≤ S.tab.length + r.data.length := by
  obtain ⟨Sk, hk⟩ := wdAt_take (sq := r.typ != 33) (t := r.typ) (d := r.data) hT _ (Nat.le_refl _)
  rw [List.take_length] at hk
  have hd := hk.done
  have hs := hk.size
  have ht := hk.tab
  have he := Rd.endOf_le (t := r.typ) (d := r.data) List.prefix_rfl
  unfold Ms.wD
  rw [hd]
  have e1 : (Sk.put (r.data.drop (Rd.endOf 0 (Rd.partsD r.typ r.data)))).size = Sk.size + (r.data.length - Rd.endOf 0 (Rd.partsD r.typ r.data)) := by simp [WS.put]
  have e2 : (Sk.put (r.data.drop (Rd.endOf 0 (Rd.partsD r.typ r.data)))).tab = Sk.tab := rfl
  refine ⟨tabOk_put hk.ok _, ?_, ?_⟩
  · rw [e1]; omega
  · rw [e2]; omega
theorem wR0_le {S : WS} (hT : TabOk S) (r : Rd.RR) : TabOk (Ms.wR0 S r) ∧ (Ms.wR0 S r).size ≤ S.size + r.name.length + 8 ∧ (Ms.wR0 S r).tab.length ≤ S.tab.length + r.name.length := by
  have h := name_size_le S r.name true
  refine ⟨tabOk_put (tabOk_put (tabOk_put (tabOk_name hT _ _) _) _) _, ?_, ?_⟩
  · have : (Ms.wR0 S r).size = (S.name r.name true).size + 2 + 2 + 4 := rfl
    omega
  · have : (Ms.wR0 S r).tab = (S.name r.name true).tab := rfl
    rw [this]; omega
theorem wR_le {S : WS} (hT : TabOk S) (r : Rd.RR) : TabOk (Ms.wR S r) ∧ (Ms.wR S r).size ≤ S.size + r.name.length + r.data.length + 10 ∧ (Ms.wR S r).tab.length ≤ S.tab.length + r.name.length + r.data.length := by
  obtain ⟨h1, h2, h3⟩ := wR0_le hT r
  obtain ⟨h4, h5, h6⟩ := wD_le (S := (Ms.wR0 S r).put (two 0)) (tabOk_put h1 _) r
  have e1 : ((Ms.wR0 S r).put (two 0)).size = (Ms.wR0 S r).size + 2 := rfl
  have e2 : ((Ms.wR0 S r).put (two 0)).tab = (Ms.wR0 S r).tab := rfl
  have e3 : ∀ (S : WS) (z n : Int), (S.set z n).size = S.size ∧ (S.set z n).tab = S.tab := fun S z n => by unfold WS.set; split <;> exact ⟨rfl, rfl⟩
  unfold Ms.wR
  rw [e1] at h5
  rw [e2] at h6
  refine ⟨?_, ?_, ?_⟩
  · unfold TabOk; rw [(e3 _ _ _).2]; exact h4
  · rw [(e3 _ _ _).1]; omega
  · rw [(e3 _ _ _).2]; omega

set_option maxRecDepth 100000 in
set_option maxHeartbeats 4000000 in
theorem wrec_any (B : Nat) (S : WS) (f : Nat → Prop) (r : Rd.RR) (w : World) (h : WrE B S f w) (hf : ∀ k, f k → k < w.heap.size) (hn : r.name.length ≤ 3000) (hd : r.data.length ≤ 3000) (hl : S.size ≤ 650000) (htb : S.tab.length ≤ 650000) (hT : TabOk S) :
    Calls Try.prog 39 #[.pointer (some ⟨B, 0, none⟩), rrV r] w (ActRet B (Ms.wR S r) f w) := by
  obtain ⟨n, t, c, l, d⟩ := r
  simp only at hn hd
  obtain ⟨hT1, hz1, hy1⟩ := (⟨tabOk_name hT n true, (name_size_le S n true).1, (name_size_le S n true).2⟩ : TabOk (S.name n true) ∧ _ ∧ _)
  obtain ⟨hT5, hz5, hy5⟩ := wR0_le hT ⟨n, t, c, l, d⟩
  obtain ⟨hT7, hz7, hy7⟩ := wD_le (S := (Ms.wR0 S ⟨n, t, c, l, d⟩).put (two 0)) (tabOk_put hT5 _) ⟨n, t, c, l, d⟩
  have e6 : ((Ms.wR0 S ⟨n, t, c, l, d⟩).put (two 0)).size = (Ms.wR0 S ⟨n, t, c, l, d⟩).size + 2 := rfl
  have e6t : ((Ms.wR0 S ⟨n, t, c, l, d⟩).put (two 0)).tab = (Ms.wR0 S ⟨n, t, c, l, d⟩).tab := rfl
  rw [e6] at hz7
  rw [e6t] at hy7
  have hWR : Ms.wR S ⟨n, t, c, l, d⟩ = (Ms.wD ((Ms.wR0 S ⟨n, t, c, l, d⟩).put (two 0)) ⟨n, t, c, l, d⟩).set ((Ms.wR0 S ⟨n, t, c, l, d⟩).size : Int) (((Ms.wD ((Ms.wR0 S ⟨n, t, c, l, d⟩).put (two 0)) ⟨n, t, c, l, d⟩).size : Int) - ((Ms.wR0 S ⟨n, t, c, l, d⟩).size : Int) - 2) := rfl
  rw [hWR]
  have h5 : (((S.name n true).put (two t)).put (two c)).put (four l) = Ms.wR0 S ⟨n, t, c, l, d⟩ := rfl
  obtain ⟨S5, hS5⟩ : ∃ S5, Ms.wR0 S ⟨n, t, c, l, d⟩ = S5 := ⟨_, rfl⟩
  rw [hS5] at h5 hT5 hz5 hy5 hT7 hz7 hy7 e6 e6t ⊢
  obtain ⟨S7, hS7⟩ : ∃ S7, Ms.wD (S5.put (two 0)) ⟨n, t, c, l, d⟩ = S7 := ⟨_, rfl⟩
  rw [hS7] at hT7 hz7 hy7 ⊢
  simp only at hz5 hy5 hz7 hy7
  have D6 := Lib.hid (fun (F : Nat → Prop) W (h : WrE B (S5.put (two 0)) F W) (hF : ∀ k, F k → k < W.heap.size) => wdata_any B (S5.put (two 0)) F ⟨n, t, c, l, d⟩ W h hF (by simp only; omega) (by rw [e6]; omega) (by rw [e6t]; omega) hT5)
  rw [hS7] at D6
  have D1 := Lib.hid (fun (F : Nat → Prop) W (h : WrE B S F W) => name_any B S F n true W h (by omega) (by omega) (by omega) hT)
  obtain ⟨S1, hS1⟩ : ∃ S1, S.name n true = S1 := ⟨_, rfl⟩
  rw [hS1] at D1 h5 hz1
  have H5 := Lib.hid h5
  clear h5 hS5 hS7 hWR hT1 hT5 hT7 e6 e6t hy1 hy5 hy7 hS1 hT htb
  obtain ⟨w0, hw0⟩ : ∃ w0, w.alloc (.cells #[.string ⟨n.toArray⟩, .int .i64 t, .int .i64 c, .int .i64 l, .string ⟨d.toArray⟩] 45) = w0 := ⟨_, rfl⟩
  have hb0 : Below w.heap.size w w0 := by rw [← hw0]; exact (Below.refl _ _).alloc (Nat.le_refl _) _
  have K0 : Hid (Block w0 w.heap.size #[.string ⟨n.toArray⟩, .int .i64 t, .int .i64 c, .int .i64 l, .string ⟨d.toArray⟩] 45) := Lib.hid (by rw [← hw0]; exact Block.new _ _ _)
  have HW := Lib.hid ((h.below hb0).widen (f := f) (g := grow f w0 w0) fun _ _ => .inl)
  have HT : Hid (Turn f w0 w0) := Lib.hid (Turn.refl _ _)
  have hR : ¬ f w.heap.size := fun e => by have := hf _ e; omega
  have hf0 : Hid (∀ k, f k → k < w0.heap.size) := Lib.hid (fun k hk => Nat.lt_of_lt_of_le (hf k hk) hb0.size)
  have HFIN : Hid (∀ S' e w', ActRet B S' f w0 e w' → ActRet B S' f w e w') := Lib.hid (fun S' e w' h => ⟨h.1, (Turn.of_below hb0).trans (h.2.1.mono fun _ _ => .inl), h.2.2.widen fun k _ hk => by
    subst hw0; exact grow_alloc k hk⟩)
  clear h hf hb0
  have HW0 := Lib.hid hw0
  clear hw0
  unfold rrV
  simp only
  go_enter Try.func39, Try.ntmps39
  go_wp2_with fail
  rw [HW0.out]
  clear HW0
  obtain ⟨R, hRR⟩ : ∃ R, w.heap.size = R := ⟨_, rfl⟩
  rw [hRR] at K0 hR ⊢
  clear hRR
  refine (D1.out _ _ HW.out).mono ?_
  intro e1 w1 h1
  have h1' := h1.then HT.out
  obtain ⟨rfl, ht1, hw1⟩ := h1'
  replace HT := Lib.hid ht1
  replace HW := Lib.hid hw1
  clear h1 ht1 hw1
  have c1 := (K0.out.turnF HT.out hR).cell (i := 1) (v := .int .i64 t) rfl
  go_wp2_with fail
  refine (wtwo_any B S1 _ t _ HW.out (by omega)).mono ?_
  intro e2 w2 h2
  have h2' := h2.then HT.out
  obtain ⟨rfl, ht2, hw2⟩ := h2'
  replace HT := Lib.hid ht2
  replace HW := Lib.hid hw2
  clear h2 ht2 hw2
  clear c1
  have c2 := (K0.out.turnF HT.out hR).cell (i := 2) (v := .int .i64 c) rfl
  go_wp2_with fail
  refine (wtwo_any B (S1.put (two t)) _ c _ HW.out (by simp only [WS.put, two_len]; omega)).mono ?_
  intro e3 w3 h3
  have h3' := h3.then HT.out
  obtain ⟨rfl, ht3, hw3⟩ := h3'
  replace HT := Lib.hid ht3
  replace HW := Lib.hid hw3
  clear h3 ht3 hw3
  clear c2
  have c3 := (K0.out.turnF HT.out hR).cell (i := 3) (v := .int .i64 l) rfl
  go_wp2_with fail
  refine (wfour_any B ((S1.put (two t)).put (two c)) _ l _ HW.out (by simp only [WS.put, two_len]; omega)).mono ?_
  intro e4 w4 h4
  have h4' := h4.then HT.out
  obtain ⟨rfl, ht4, hw4⟩ := h4'
  replace HT := Lib.hid ht4
  replace HW := Lib.hid hw4
  clear h4 ht4 hw4
  clear c3
  rw [H5.out] at HW
  go_wp2_with fail
  refine (len_any B S5 _ _ HW.out).mono ?_
  rintro e9 w9 ⟨rfl, rfl⟩
  go_wp2_with fail
  refine (wtwo_any B S5 _ 0 _ HW.out (by omega)).mono ?_
  intro e5 w5 h5
  have h5' := h5.then HT.out
  obtain ⟨rfl, ht5, hw5⟩ := h5'
  replace HT := Lib.hid ht5
  replace HW := Lib.hid hw5
  clear h5 ht5 hw5
  have c0 := (K0.out.turnF HT.out hR).cell (i := 0) (v := .string ⟨n.toArray⟩) rfl
  have c1 := (K0.out.turnF HT.out hR).cell (i := 1) (v := .int .i64 t) rfl
  have c2 := (K0.out.turnF HT.out hR).cell (i := 2) (v := .int .i64 c) rfl
  have c3 := (K0.out.turnF HT.out hR).cell (i := 3) (v := .int .i64 l) rfl
  have c4 := (K0.out.turnF HT.out hR).cell (i := 4) (v := .string ⟨d.toArray⟩) rfl
  go_wp2_with fail
  refine (D6.out _ _ HW.out (fun k hk => by have := HT.out.size; rcases hk with hk | hk; exact Nat.lt_of_lt_of_le (hf0.out k hk) this; exact hk.2)).mono ?_
  intro e6 w6 h6
  have h6' := h6.then HT.out
  obtain ⟨rfl, ht6, hw6⟩ := h6'
  replace HT := Lib.hid ht6
  replace HW := Lib.hid hw6
  clear h6 ht6 hw6
  clear c0 c1 c2 c3 c4
  go_wp2_with fail
  refine (len_any B S7 _ _ HW.out).mono ?_
  rintro e10 w10 ⟨rfl, rfl⟩
  go_wp2_with fail
  refine (set_any B S7 _ (S5.size : Int) ((S7.size : Int) - (S5.size : Int) - 2) _ HW.out (by omega) (by omega) (by omega)).mono ?_
  intro e7 w7 h7
  have h7' := h7.then HT.out
  obtain ⟨rfl, ht7, hw7⟩ := h7'
  replace HT := Lib.hid ht7
  replace HW := Lib.hid hw7
  clear h7 ht7 hw7
  go_wp2_with fail
  go_end0
  exact HFIN.out _ _ _ ⟨rfl, HT.out, HW.out⟩
end Go.Proofs.Ytfmghbmbahembaa

/- Datagrams: what is read of the beginning of bytes is read of the whole; what is read may be. -/
namespace Go.Proofs.Ytfmghbmbahembaa
open Nm

theorem pre_get {a b : List UInt8} (h : Ms.Pre a b) {i : Nat} {c : UInt8} (hc : a[i]? = some c) : b[i]? = some c := by
  obtain ⟨y, rfl⟩ := h
  rw [List.getElem?_append_left (List.getElem?_eq_some_iff.1 hc).1]; exact hc
theorem pre_cut {a b : List UInt8} (h : Ms.Pre a b) {p n : Nat} (hl : p + n ≤ a.length) : (a.drop p).take n = (b.drop p).take n := by
  obtain ⟨y, rfl⟩ := h
  rw [List.drop_append_of_le_length (by omega), List.take_append_of_le_length (by rw [List.length_drop]; omega)]
namespace Wn
theorem eolF_more {a b : List UInt8} (h : Ms.Pre a b) : ∀ (f g k : Nat) {e : Nat}, f ≤ g → eolF a f k = some e → eolF b g k = some e
  | 0, _, _, _, _, h' => by cases h'
  | f + 1, 0, _, _, hg, _ => by omega
  | f + 1, g + 1, k, e, hg, h' => by
    simp only [eolF] at h' ⊢
    cases hc : a[k]? with
    | none => rw [hc] at h'; cases h'
    | some c =>
      rw [hc] at h'
      rw [pre_get h hc]
      simp only at h' ⊢
      split
      · rename_i h1; rw [if_pos h1] at h'; exact h'
      · rename_i h1
        rw [if_neg h1] at h'
        split
        · rename_i h2; rw [if_pos h2] at h'; cases h'
        · rename_i h2
          rw [if_neg h2] at h'
          exact eolF_more h f g _ (by omega) h'
theorem eol_more {a b : List UInt8} (h : Ms.Pre a b) {k e : Nat} (h' : eol a k = some e) : eol b k = some e := by
  have := h.len
  exact eolF_more h _ _ k (by omega) h'
theorem ptr_more {a b : List UInt8} (h : Ms.Pre a b) {k e : Nat} (h' : ptr a k = some e) : ptr b k = some e := by
  unfold ptr at h' ⊢
  cases h1 : a[k]? with
  | none => rw [h1] at h'; cases h'
  | some c =>
    cases h2 : a[k + 1]? with
    | none => rw [h1, h2] at h'; cases h'
    | some d => rw [h1, h2] at h'; rw [pre_get h h1, pre_get h h2]; exact h'
theorem part_more {a b : List UInt8} (h : Ms.Pre a b) {p e : Nat} (hp : p ≤ e) (he : e ≤ a.length) : part a p e = part b p e := by
  unfold part; exact pre_cut h (by omega)
theorem getF_more {a b : List UInt8} (h : Ms.Pre a b) : ∀ (f p : Nat) {x : List UInt8 × Nat}, getF a f p = some x → getF b f p = some x
  | 0, _, _, h' => by cases h'
  | f + 1, p, x, h' => by
    simp only [getF] at h' ⊢
    cases he : eol a p with
    | none => rw [he] at h'; cases h'
    | some e =>
      rw [he] at h'
      rw [eol_more h he]
      obtain ⟨hpe, hel, _⟩ := eol_some he
      have hg := List.getElem?_eq_getElem hel
      simp only at h' ⊢
      rw [hg, Option.getD_some] at h'
      rw [pre_get h hg, Option.getD_some, ← part_more h hpe (by omega)]
      split
      · rename_i h0; rw [if_pos h0] at h'; exact h'
      · rename_i h0
        rw [if_neg h0] at h'
        cases hp : ptr a e with
        | none => rw [hp] at h'; cases h'
        | some t =>
          rw [hp] at h'
          rw [ptr_more h hp]
          simp only at h' ⊢
          split
          · rename_i ht
            rw [if_pos ht] at h'
            obtain ⟨y, hy, rfl⟩ := Option.map_eq_some_iff.1 h'
            rw [getF_more h f t hy]
            rfl
          · rename_i ht; rw [if_neg ht] at h'; cases h'
theorem get_more {a b : List UInt8} (h : Ms.Pre a b) {p : Nat} {x : List UInt8 × Nat} (h' : get a (p : Int) = some x) : get b (p : Int) = some x := by
  rw [get_nat] at h' ⊢
  cases hu : getU a p with
  | none => rw [hu] at h'; cases h'
  | some y =>
    rw [hu] at h'
    have : getU b p = some y := getF_more h _ _ hu
    rw [this]; exact h'

/-! ### What is got is a name -/
theorem labels_valid (b : List UInt8) (n : List UInt8) : ∀ (f k : Nat) {e : Nat}, eolF b f k = some e → validU (part b k e ++ n) = validU n
  | 0, _, _, h => by cases h
  | f + 1, k, e, h => by
    simp only [eolF] at h
    split at h
    · cases h
    · rename_i c hc
      obtain ⟨hk, rfl⟩ := List.getElem?_eq_some_iff.1 hc
      split at h
      · cases h
        simp [part]
      · rename_i h1
        split at h
        · cases h
        · rename_i h2
          have hs := eolF_some b f _ h
          obtain ⟨hle, hlt, _⟩ := hs
          have ih := labels_valid b n f _ h
          have hp : part b k e = b[k] :: (((b.drop (k + 1)).take b[k].toNat) ++ part b (k + (1 + b[k].toNat)) e) := by
            unfold part
            rw [List.drop_eq_getElem_cons hk, show e - k = (e - (k + 1)) + 1 by omega, List.take_succ_cons]
            congr 1
            rw [show e - (k + 1) = b[k].toNat + (e - (k + (1 + b[k].toNat))) by omega, List.take_add, List.drop_drop, show k + 1 + b[k].toNat = k + (1 + b[k].toNat) by omega]
          have hl : ((b.drop (k + 1)).take b[k].toNat).length = b[k].toNat := by rw [List.length_take, List.length_drop]; omega
          rw [hp, List.cons_append, validU_cons, if_neg (fun h0 => h1 (.inl (by rw [h0]; rfl))), List.append_assoc]
          rw [if_neg (by rw [List.length_append, hl]; omega)]
          rw [List.drop_left' hl]
          exact ih
theorem getF_valid (b : List UInt8) : ∀ (f p : Nat) {x : List UInt8 × Nat}, getF b f p = some x → validU x.1 = true
  | 0, _, _, h => by cases h
  | f + 1, p, x, h => by
    simp only [getF] at h
    cases he : eol b p with
    | none => rw [he] at h; cases h
    | some e =>
      rw [he] at h
      simp only at h
      split at h
      · cases h
        show validU (part b p e ++ [0]) = true
        rw [labels_valid b [0] _ _ he]
        rfl
      · cases hp : ptr b e with
        | none => rw [hp] at h; cases h
        | some t =>
          rw [hp] at h
          simp only at h
          split at h
          · obtain ⟨y, hy, rfl⟩ := Option.map_eq_some_iff.1 h
            show validU (part b p e ++ y.1) = true
            rw [labels_valid b y.1 _ _ he]
            exact getF_valid b f t hy
          · cases h
theorem get_valid {b : List UInt8} {p : Nat} {n : List UInt8} {e : Nat} (h : get b (p : Int) = some (n, e)) : valid n = true := by
  rw [get_nat] at h
  cases hu : getU b p with
  | none => rw [hu] at h; cases h
  | some y =>
    obtain ⟨m, k⟩ := y
    rw [hu] at h
    unfold fin at h
    simp only [List.nil_append] at h
    split at h
    · rename_i hl
      simp only [Option.some.injEq, Prod.mk.injEq] at h
      obtain ⟨rfl, _⟩ := h
      rw [valid_of_short (by omega)]
      exact getF_valid b _ _ hu
    · cases h
end Wn
namespace Ms
/-! ### Of the beginning, and of the whole -/
theorem two_more {a b : List UInt8} (h : Pre a b) {k v : Nat} (h' : two? a k = some v) : two? b k = some v := by
  unfold two? at h' ⊢
  cases h1 : a[k]? with
  | none => rw [h1] at h'; cases h'
  | some c =>
    cases h2 : a[k + 1]? with
    | none => rw [h1, h2] at h'; cases h'
    | some d => rw [h1, h2] at h'; rw [pre_get h h1, pre_get h h2]; exact h'
theorem two_le {a : List UInt8} {k v : Nat} (h : two? a k = some v) : v ≤ 65535 ∧ k + 2 ≤ a.length := by
  unfold two? at h
  cases h1 : a[k]? with
  | none => rw [h1] at h; cases h
  | some c =>
    cases h2 : a[k + 1]? with
    | none => rw [h1, h2] at h; cases h
    | some d =>
      rw [h1, h2] at h
      simp only [Option.some.injEq] at h
      have := c.toNat_lt
      have := d.toNat_lt
      have := (List.getElem?_eq_some_iff.1 h2).1
      omega
theorem dQ_some {b : List UInt8} {k : Nat} {x : Q × Nat} (h : dQ b k = some x) : ∃ n nx t c, Wn.get b (k : Int) = some (n, nx) ∧ two? b nx = some t ∧ two? b (nx + 2) = some c ∧ x = (⟨n, t, c⟩, nx + 4) := by
  unfold dQ at h
  cases hg : Wn.get b (k : Int) with
  | none => rw [hg] at h; cases h
  | some y =>
    obtain ⟨n, nx⟩ := y
    rw [hg] at h
    simp only at h
    cases h1 : two? b nx with
    | none => rw [h1] at h; cases h
    | some t =>
      cases h2 : two? b (nx + 2) with
      | none => rw [h1, h2] at h; cases h
      | some c => rw [h1, h2] at h; exact ⟨n, nx, t, c, rfl, h1, h2, (Option.some.inj h).symm⟩
theorem dQ_more {a b : List UInt8} (h : Pre a b) {k : Nat} {x : Q × Nat} (h' : dQ a k = some x) : dQ b k = some x := by
  obtain ⟨n, nx, t, c, e1, e2, e3, rfl⟩ := dQ_some h'
  unfold dQ
  rw [Wn.get_more h e1]
  simp only
  rw [two_more h e2, two_more h e3]
theorem dQ_check {b : List UInt8} {k : Nat} {x : Q × Nat} (h : dQ b k = some x) : checkQ x.1 = true := by
  obtain ⟨n, nx, t, c, e1, e2, e3, rfl⟩ := dQ_some h
  have h1 := two_le e2
  have h2 := two_le e3
  unfold checkQ
  rw [Bool.and_eq_true, decide_eq_true_eq]
  exact ⟨Wn.get_valid e1, by show 0 ≤ (t : Int) ∧ (t : Int) ≤ 65535 ∧ 0 ≤ (c : Int) ∧ (c : Int) ≤ 65535; omega⟩
theorem dQs_more {a b : List UInt8} (h : Pre a b) : ∀ (n k : Nat) {x : List Q × Nat}, dQs a n k = some x → dQs b n k = some x
  | 0, _, _, h' => h'
  | n + 1, k, x, h' => by
    simp only [dQs] at h' ⊢
    cases hq : dQ a k with
    | none => rw [hq] at h'; cases h'
    | some y =>
      rw [hq] at h'
      rw [dQ_more h hq]
      simp only at h' ⊢
      obtain ⟨z, hz, rfl⟩ := Option.map_eq_some_iff.1 h'
      rw [dQs_more h n _ hz]; rfl
theorem dQs_check (b : List UInt8) : ∀ (n k : Nat) {x : List Q × Nat}, dQs b n k = some x → x.1.all checkQ = true ∧ x.1.length = n
  | 0, _, _, h => by cases h; exact ⟨rfl, rfl⟩
  | n + 1, k, x, h => by
    simp only [dQs] at h
    cases hq : dQ b k with
    | none => rw [hq] at h; cases h
    | some y =>
      rw [hq] at h
      simp only at h
      obtain ⟨z, hz, rfl⟩ := Option.map_eq_some_iff.1 h
      obtain ⟨i1, i2⟩ := dQs_check b n _ hz
      exact ⟨by rw [List.all_cons, dQ_check hq, i1]; rfl, by simp [i2]⟩
theorem dRaw_some {b : List UInt8} {k : Nat} {w : Raw} (h : dRaw b k = some w) : ∃ n nx t c sz, Wn.get b (k : Int) = some (n, nx) ∧ two? b nx = some t ∧ two? b (nx + 2) = some c ∧ two? b (nx + 8) = some sz ∧ nx + 10 + sz ≤ b.length ∧ w = ⟨n, t, c, Rd.number ((b.drop (nx + 4)).take 4), nx + 10, sz⟩ := by
  unfold dRaw at h
  cases hg : Wn.get b (k : Int) with
  | none => rw [hg] at h; cases h
  | some y =>
    obtain ⟨n, nx⟩ := y
    rw [hg] at h
    simp only at h
    cases h1 : two? b nx with
    | none => rw [h1] at h; cases h
    | some t =>
      cases h2 : two? b (nx + 2) with
      | none => rw [h1, h2] at h; cases h
      | some c =>
        cases h3 : two? b (nx + 8) with
        | none => rw [h1, h2, h3] at h; cases h
        | some sz =>
          rw [h1, h2, h3] at h
          simp only at h
          split at h
          · rename_i hl; exact ⟨n, nx, t, c, sz, rfl, h1, h2, h3, hl, (Option.some.inj h).symm⟩
          · cases h
theorem dRaw_more {a b : List UInt8} (h : Pre a b) {k : Nat} {w : Raw} (h' : dRaw a k = some w) : dRaw b k = some w ∧ w.at' + w.size ≤ a.length := by
  obtain ⟨n, nx, t, c, sz, e1, e2, e3, e4, e5, rfl⟩ := dRaw_some h'
  have hl := h.len
  refine ⟨?_, e5⟩
  unfold dRaw
  rw [Wn.get_more h e1]
  simp only
  rw [two_more h e2, two_more h e3, two_more h e4]
  simp only
  rw [if_pos (by omega), pre_cut h (p := nx + 4) (n := 4) (by omega)]
theorem dNames_more {a b : List UInt8} (h : Pre a b) (lim : Nat) : ∀ (n k : Nat) {x : List UInt8 × Nat}, dNames a lim n k = some x → dNames b lim n k = some x
  | 0, _, _, h' => h'
  | n + 1, k, x, h' => by
    simp only [dNames] at h' ⊢
    cases hg : Wn.get a (k : Int) with
    | none => rw [hg] at h'; cases h'
    | some y =>
      rw [hg] at h'
      rw [Wn.get_more h hg]
      simp only at h' ⊢
      split
      · rename_i hl; rw [if_pos hl] at h'; cases h'
      · rename_i hl
        rw [if_neg hl] at h'
        obtain ⟨z, hz, rfl⟩ := Option.map_eq_some_iff.1 h'
        rw [dNames_more h lim n _ hz]; rfl
theorem dData_more {a b : List UInt8} (h : Pre a b) {k sz : Nat} {t : Int} (hl : k + sz ≤ a.length) {x : List UInt8} (h' : dData a k sz t = some x) : dData b k sz t = some x := by
  unfold dData at h' ⊢
  split
  · rename_i h0; rw [if_pos h0] at h'; rw [← pre_cut h hl]; exact h'
  · rename_i h0
    rw [if_neg h0] at h'
    split
    · rename_i h1; rw [if_pos h1] at h'; cases h'
    · rename_i h1
      rw [if_neg h1] at h'
      cases hn : dNames a (k + sz) (dl t).2.1 (k + (dl t).1) with
      | none => rw [hn] at h'; cases h'
      | some y =>
        rw [hn] at h'
        rw [dNames_more h _ _ _ hn]
        simp only at h' ⊢
        split
        · rename_i h2
          rw [if_pos h2] at h'
          rw [← pre_cut h (p := k) (n := (dl t).1) (by omega), ← pre_cut h (p := y.2) (n := k + sz - y.2) (by omega)]
          exact h'
        · rename_i h2; rw [if_neg h2] at h'; cases h'
theorem dRec_some {b : List UInt8} {i : Nat} {s s' : St} (h : dRec b i s = some s') : ∃ w, dRaw b s.at' = some w ∧
    ((w.typ = 41 ∧ i = 2 ∧ w.name = [0] ∧ s.edns = false ∧ s' = ⟨w.at' + w.size, true, w.cls, s.acc⟩) ∨
     (w.typ ≠ 41 ∧ ∃ d, dData b w.at' w.size w.typ = some d ∧ Rd.check (recOf w d) = true ∧ s.acc.length < 64 ∧ s' = ⟨w.at' + w.size, s.edns, s.esz, s.acc ++ [recOf w d]⟩)) := by
  unfold dRec at h
  cases hw : dRaw b s.at' with
  | none => rw [hw] at h; cases h
  | some w =>
    rw [hw] at h
    refine ⟨w, rfl, ?_⟩
    simp only at h
    split at h
    · rename_i h41
      split at h
      · cases h
      · rename_i hn
        simp only [not_or, ne_eq, Decidable.not_not, Bool.not_eq_true] at hn
        exact .inl ⟨h41, hn.1, hn.2.1, hn.2.2, (Option.some.inj h).symm⟩
    · rename_i h41
      cases hd : dData b w.at' w.size w.typ with
      | none => rw [hd] at h; cases h
      | some d =>
        rw [hd] at h
        simp only at h
        split at h
        · rename_i hc; exact .inr ⟨h41, d, rfl, hc.1, hc.2, (Option.some.inj h).symm⟩
        · cases h
theorem dRec_more {a b : List UInt8} (h : Pre a b) {i : Nat} {s s' : St} (h' : dRec a i s = some s') : dRec b i s = some s' := by
  obtain ⟨w, hw, hc⟩ := dRec_some h'
  obtain ⟨hw', hl⟩ := dRaw_more h hw
  unfold dRec
  rw [hw']
  simp only
  rcases hc with ⟨h41, h2, h3, h4, rfl⟩ | ⟨h41, d, hd, hc, hacc, rfl⟩
  · rw [if_pos h41, if_neg (by simp [h2, h3, h4])]
  · rw [if_neg h41, dData_more h hl hd]
    simp only
    rw [if_pos ⟨hc, hacc⟩]
theorem dSec_more {a b : List UInt8} (h : Pre a b) (i : Nat) : ∀ (n : Nat) {s s' : St}, dSec a i n s = some s' → dSec b i n s = some s'
  | 0, _, _, h' => h'
  | n + 1, s, s', h' => by
    simp only [dSec] at h' ⊢
    cases hr : dRec a i s with
    | none => rw [hr] at h'; cases h'
    | some t =>
      rw [hr] at h'
      rw [dRec_more h hr]
      exact dSec_more h i n h'
/-- What a section comes to. -/
structure SecOk (s : St) : Prop where
  all : s.acc.all Rd.check = true
  len : s.acc.length ≤ 64
  esz : 0 ≤ s.esz ∧ s.esz ≤ 65535
  no : s.edns = true ∨ s.esz = 0
theorem dSec_ok (b : List UInt8) (i : Nat) : ∀ (n : Nat) {s s' : St}, SecOk s → dSec b i n s = some s' → SecOk s'
  | 0, _, _, hs, h => by cases h; exact hs
  | n + 1, s, s', hs, h => by
    simp only [dSec] at h
    cases hr : dRec b i s with
    | none => rw [hr] at h; cases h
    | some t =>
      rw [hr] at h
      refine dSec_ok b i n ?_ h
      obtain ⟨w, hw, hc⟩ := dRec_some hr
      rcases hc with ⟨_, _, _, _, rfl⟩ | ⟨_, d, _, hc, hacc, rfl⟩
      · obtain ⟨_, _, _, c, _, _, _, e3, _, _, rfl⟩ := dRaw_some hw
        have := two_le e3
        exact ⟨hs.all, hs.len, by show 0 ≤ (c : Int) ∧ (c : Int) ≤ 65535; omega, .inl rfl⟩
      · exact ⟨by rw [List.all_append, hs.all]; simp [hc], by simp; omega, hs.esz, hs.no⟩
theorem body_some {b : List UInt8} {m : M} (h : dBody b = some m) : b.length ≤ 4096 ∧ threes b = 0 ∧ ∃ q c0 c1 c2 qs k s0 s1 s2, two? b 4 = some q ∧ two? b 6 = some c0 ∧ two? b 8 = some c1 ∧ two? b 10 = some c2 ∧ q ≤ 4 ∧ dQs b q 12 = some (qs, k) ∧
    dSec b 0 c0 ⟨k, false, 0, []⟩ = some s0 ∧ dSec b 1 c1 ⟨s0.at', s0.edns, s0.esz, []⟩ = some s1 ∧ dSec b 2 c2 ⟨s1.at', s1.edns, s1.esz, []⟩ = some s2 ∧ s2.at' = b.length ∧
    m = { hdOf b with qs := qs, an := s0.acc, ns := s1.acc, ad := s2.acc, edns := s2.edns, size := s2.esz } := by
  unfold dBody at h
  split at h
  · cases h
  · rename_i h0
    simp only [not_or, ne_eq, Decidable.not_not] at h0
    refine ⟨by omega, h0.2, ?_⟩
    cases e1 : two? b 4 with
    | none => rw [e1] at h; cases h
    | some q =>
      cases e2 : two? b 6 with
      | none => rw [e1, e2] at h; cases h
      | some c0 =>
        cases e3 : two? b 8 with
        | none => rw [e1, e2, e3] at h; cases h
        | some c1 =>
          cases e4 : two? b 10 with
          | none => rw [e1, e2, e3, e4] at h; cases h
          | some c2 =>
            rw [e1, e2, e3, e4] at h
            simp only at h
            split at h
            · cases h
            · rename_i hq
              cases e5 : dQs b q 12 with
              | none => rw [e5] at h; cases h
              | some y =>
                obtain ⟨qs, k⟩ := y
                rw [e5] at h
                simp only at h
                cases e6 : dSec b 0 c0 ⟨k, false, 0, []⟩ with
                | none => rw [e6] at h; cases h
                | some s0 =>
                  rw [e6] at h
                  simp only at h
                  cases e7 : dSec b 1 c1 ⟨s0.at', s0.edns, s0.esz, []⟩ with
                  | none => rw [e7] at h; cases h
                  | some s1 =>
                    rw [e7] at h
                    simp only at h
                    cases e8 : dSec b 2 c2 ⟨s1.at', s1.edns, s1.esz, []⟩ with
                    | none => rw [e8] at h; cases h
                    | some s2 =>
                      rw [e8] at h
                      simp only at h
                      split at h
                      · rename_i he
                        exact ⟨q, c0, c1, c2, qs, k, s0, s1, s2, rfl, rfl, rfl, rfl, by omega, e5, e6, e7, e8, he, (Option.some.inj h).symm⟩
                      · cases h
/-- Cut off, it is none. -/
theorem cut_none {a b : List UInt8} (h : Pre a b) (hl : a.length < b.length) {m : M} (hb : dBody b = some m) : dBody a = none := by
  cases ha : dBody a with
  | none => rfl
  | some x =>
    exfalso
    obtain ⟨_, _, q, c0, c1, c2, qs, k, s0, s1, s2, e1, e2, e3, e4, _, e5, e6, e7, e8, e9, _⟩ := body_some ha
    obtain ⟨_, _, q', c0', c1', c2', qs', k', s0', s1', s2', f1, f2, f3, f4, _, f5, f6, f7, f8, f9, _⟩ := body_some hb
    rw [two_more h e1] at f1; cases f1
    rw [two_more h e2] at f2; cases f2
    rw [two_more h e3] at f3; cases f3
    rw [two_more h e4] at f4; cases f4
    rw [dQs_more h _ _ e5] at f5; cases f5
    rw [dSec_more h _ _ e6] at f6; cases f6
    rw [dSec_more h _ _ e7] at f7; cases f7
    rw [dSec_more h _ _ e8] at f8; cases f8
    omega
theorem hd_ok (b : List UInt8) : HeadOk (hdOf b) := by
  have h := fun i => (b.getD i 0).toNat_lt
  have h0 := h 0
  have h1 := h 1
  refine ⟨?_, ?_, ?_⟩
  · show 0 ≤ (((b.getD 0 0).toNat * 256 + (b.getD 1 0).toNat : Nat) : Int) ∧ (((b.getD 0 0).toNat * 256 + (b.getD 1 0).toNat : Nat) : Int) ≤ 65535
    omega
  · have e : (hdOf b).opc = ((((b.getD 2 0).toNat * 256 + (b.getD 3 0).toNat) / 2048 % 16 : Nat) : Int) := rfl
    rw [e]; omega
  · have e : (hdOf b).code = ((((b.getD 2 0).toNat * 256 + (b.getD 3 0).toNat) % 16 : Nat) : Int) := rfl
    rw [e]; omega
/-- What is read may be. -/
theorem body_check {b : List UInt8} {m : M} (h : dBody b = some m) : check m = true := by
  obtain ⟨_, _, q, c0, c1, c2, qs, k, s0, s1, s2, _, _, _, _, hq, e5, e6, e7, e8, _, rfl⟩ := body_some h
  obtain ⟨q1, q2⟩ := dQs_check b _ _ e5
  have o0 := dSec_ok b 0 _ (⟨rfl, by simp, by simp, .inr rfl⟩ : SecOk ⟨k, false, 0, []⟩) e6
  have o1 := dSec_ok b 1 _ (⟨rfl, by simp, o0.esz, o0.no⟩ : SecOk ⟨s0.at', s0.edns, s0.esz, []⟩) e7
  have o2 := dSec_ok b 2 _ (⟨rfl, by simp, o1.esz, o1.no⟩ : SecOk ⟨s1.at', s1.edns, s1.esz, []⟩) e8
  have hh := hd_ok b
  unfold check checkH checkL
  simp only [Bool.and_eq_true, decide_eq_true_eq]
  exact ⟨⟨hh.id, hh.opc, hh.code, by show qs.length ≤ 4; simp only at q2; omega, o2.esz, o2.no.symm⟩, q1, ⟨o0.len, o0.all⟩, ⟨o1.len, o1.all⟩, o2.len, o2.all⟩
end Ms
end Go.Proofs.Ytfmghbmbahembaa

/- Datagrams: how long what is written is, for records of the root and names that come again. -/
namespace Go.Proofs.Ytfmghbmbahembaa.Ms
open Go.Proofs.Ytfmghbmbahembaa

/-- An address of the root. -/
def rootR : Rd.RR := ⟨[0], 1, 1, 5, Rd.four 7⟩
theorem rootR_check : Rd.check rootR = true := by decide
theorem name_root (S : WS) : (S.name [0] true).size = S.size + 1 := by
  unfold WS.name
  rw [if_neg (by decide), if_pos rfl]
  have : Nm.labsD [0] = [] := by decide
  rw [this]
  exact (sq_root S).1
theorem wR_root (S : WS) : (wR S rootR).size = S.size + 15 := by
  have h1 : (wR S rootR).size = (wD ((wR0 S rootR).put (two 0)) rootR).size := wRc_size _ _
  have h2 := wR0_size S rootR
  have h3 := name_root S
  have h4 : (S.name rootR.name true).size = (S.name [0] true).size := rfl
  have hp : Rd.partsD rootR.typ rootR.data = [] := by decide
  have h5 : wD ((wR0 S rootR).put (two 0)) rootR = ((wR0 S rootR).put (two 0)).put rootR.data := by unfold wD; rw [hp]; rfl
  have h6 : (((wR0 S rootR).put (two 0)).put rootR.data).size = (wR0 S rootR).size + 2 + 4 := rfl
  rw [h1, h5, h6]
  omega
theorem wRs_root : ∀ (n : Nat) (S : WS), ((List.replicate n rootR).foldl wR S).size = S.size + 15 * n
  | 0, _ => rfl
  | n + 1, S => by
    rw [List.replicate_succ, List.foldl_cons, wRs_root n, wR_root]
    omega
/-- The message that is asked. -/
def one : M := { M.zero with id := 5, des := true, qs := [⟨[1, 97, 0], 1, 1⟩] }
def oneOf (a b c : Nat) (e : Bool) (size : Int) (cut : Bool) : M := ⟨5, false, 0, false, cut, true, false, 0, [⟨[1, 97, 0], 1, 1⟩], List.replicate a rootR, List.replicate b rootR, List.replicate c rootR, e, size⟩
theorem all_root (n : Nat) : (List.replicate n rootR).all Rd.check = true := by
  rw [List.all_eq_true]
  intro x hx
  rw [(List.mem_replicate.1 hx).2]
  exact rootR_check
theorem oneOf_check (a b c : Nat) {e : Bool} {size : Int} (hs : 0 ≤ size ∧ size ≤ 65535) (he : size = 0 ∨ e = true) (cut : Bool) : check (oneOf a b c e size cut) = decide (a ≤ 64 ∧ b ≤ 64 ∧ c ≤ 64) := by
  have h1 : checkH (oneOf a b c e size cut) = true := by
    unfold checkH
    rw [decide_eq_true_eq]
    exact ⟨(by decide : (0 : Int) ≤ 5 ∧ (5 : Int) ≤ 65535), (by decide : (0 : Int) ≤ 0 ∧ (0 : Int) ≤ 15), (by decide : (0 : Int) ≤ 0 ∧ (0 : Int) ≤ 15), (by decide : 1 ≤ 4), hs, he⟩
  have h2 : ([⟨[1, 97, 0], 1, 1⟩] : List Q).all checkQ = true := by decide
  unfold check
  rw [h1]
  show (true && (([⟨[1, 97, 0], 1, 1⟩] : List Q).all checkQ && (checkL (List.replicate a rootR) && (checkL (List.replicate b rootR) && checkL (List.replicate c rootR))))) = _
  rw [h2]
  unfold checkL
  rw [all_root, all_root, all_root, List.length_replicate, List.length_replicate, List.length_replicate]
  simp only [Bool.true_and, Bool.and_true]
  rw [Bool.eq_iff_iff]
  simp only [Bool.and_eq_true, decide_eq_true_eq]
theorem one_q (S : WS) (h : S.tab = []) (hs : S.size = 12) : ([(⟨[1, 97, 0], 1, 1⟩ : Q)].foldl wQ S).size = 19 := by
  show (S.name [1, 97, 0] true).size + 2 + 2 = 19
  unfold WS.name
  rw [if_neg (by decide), if_pos rfl]
  have hl : Nm.labsD [1, 97, 0] = [[97]] := by decide
  rw [hl]
  have := (sq_fresh [[97]] S (fun t _ _ => by rw [h]; rfl) (by rw [hs]; decide)).1
  rw [this, hs]
  rfl
theorem oneOf_size (a b c : Nat) (e : Bool) (size : Int) (cut : Bool) : (wAll (oneOf a b c e size cut)).size = 19 + 15 * (a + b + c) + (if e then 11 else 0) := by
  obtain ⟨_, k1, _⟩ := okw_head (oneOf a b c e size cut)
  have hq := one_q ((WS.new 4096).put (head (oneOf a b c e size cut))) rfl k1
  have hE : ∀ S : WS, (wE S (oneOf a b c e size cut)).size = S.size + (if e then 11 else 0) := by
    intro S
    unfold wE
    show (if e then S.put (opt size) else S).size = _
    cases e <;> rfl
  unfold wAll
  rw [hE]
  show ((List.replicate c rootR).foldl wR ((List.replicate b rootR).foldl wR ((List.replicate a rootR).foldl wR ([(⟨[1, 97, 0], 1, 1⟩ : Q)].foldl wQ _)))).size + _ = _
  rw [wRs_root, wRs_root, wRs_root, hq]
  omega
theorem enc_yes {m : M} (hc : check m = true) (hs : (wAll m).size ≤ 4096) : enc m = ((wAll m).out, 0) ∧ (wAll m).out.length = (wAll m).size := by
  obtain ⟨h1, h2, _⟩ := back hc hs
  unfold enc
  rw [if_neg (by rw [hc]; decide), if_neg (by rw [h1]; simp only [Bool.false_eq_true, false_or]; omega)]
  exact ⟨rfl, h2⟩
theorem enc_arg {m : M} (hc : check m = false) : enc m = ([], 1) := if_pos hc
theorem enc_big {m : M} (hc : check m = true) (hs : 4096 < (wAll m).size) : enc m = ([], 3) := by
  unfold enc
  rw [if_neg (by rw [hc]; decide), if_pos (.inr (by omega))]
/-- What Encode says: nothing else. -/
theorem enc_cases (m : M) : (check m = false ∧ enc m = ([], 1)) ∨ (check m = true ∧ 4096 < (wAll m).size ∧ enc m = ([], 3)) ∨
    (check m = true ∧ (wAll m).size ≤ 4096 ∧ (wAll m).out.length = (wAll m).size ∧ 12 ≤ (wAll m).size ∧ dBody (wAll m).out = some m ∧ hdOf (wAll m).out = m.bare ∧ enc m = ((wAll m).out, 0)) := by
  cases hc : check m with
  | false => exact .inl ⟨rfl, enc_arg hc⟩
  | true =>
    right
    rcases Nat.lt_or_ge 4096 (wAll m).size with h | h
    · exact .inl ⟨rfl, h, enc_big hc h⟩
    · obtain ⟨_, h2, h3, h4, h5⟩ := back hc h
      exact .inr ⟨rfl, h, h2, h3, h4, h5, (enc_yes hc h).1⟩

/-! ### What fits -/
def drops (m : M) : Nat → M
  | 0 => { m with cut := true, ad := [] }
  | 1 => { m with cut := true, ad := [], ns := [] }
  | _ => { m with cut := true, ad := [], ns := [], an := [] }
def fitF (m : M) (most : Int) : List Nat → List UInt8 × Int
  | [] => ([], 3)
  | k :: ks => if (enc (drops m k)).2 = 0 ∧ ((enc (drops m k)).1.length : Int) ≤ most then ((enc (drops m k)).1, 0) else fitF m most ks
def fit (m : M) (most : Int) : List UInt8 × Int := if (enc m).2 = 1 then ([], 1) else if (enc m).2 = 0 ∧ ((enc m).1.length : Int) ≤ most then ((enc m).1, 0) else fitF m most [0, 1, 2]
end Go.Proofs.Ytfmghbmbahembaa.Ms
