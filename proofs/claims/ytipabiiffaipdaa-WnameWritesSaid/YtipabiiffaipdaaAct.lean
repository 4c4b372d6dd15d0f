/- New, Len, Bytes, Two, Four. -/
import Derived.Test.YtipabiiffaipdaaWr
namespace Go.Proofs.Ytipabiiffaipdaa
open Go.RowKit Go.Shelf Go.Maps
attribute [local go_sem] Oper.semAt_some

/-! ### Acts, without a program -/
def WS.put (S : WS) (b : List UInt8) : WS := { S with size := S.size + b.length, out := if S.most < ((S.size + b.length : Nat) : Int) then [] else S.out ++ b }
def WS.new (most : Int) : WS := { most, size := 0, out := [], bad := false, tab := [] }
def byteOf (z : Int) : UInt8 := UInt8.ofNat (z % 256).toNat
theorem byteOf_int (z : Int) : ((byteOf z).toNat : Int) = z % 256 := by
  unfold byteOf
  have h1 : 0 ≤ z % 256 := Int.emod_nonneg _ (by decide)
  have h2 : z % 256 < 256 := Int.emod_lt_of_pos _ (by decide)
  generalize z % 256 = m at *
  obtain ⟨k, rfl⟩ := Int.eq_ofNat_of_zero_le h1
  simp
  omega
def two (n : Int) : List UInt8 := [byteOf (n / 256), byteOf n]
def four (n : Int) : List UInt8 := two (n / 65536) ++ two n
theorem two_len (n : Int) : (two n).length = 2 := rfl
theorem WS.put_put (S : WS) (a b : List UInt8) : (S.put a).put b = S.put (a ++ b) := by
  unfold WS.put
  simp only [List.length_append, WS.mk.injEq, true_and, and_true]
  refine ⟨by omega, ?_⟩
  by_cases h : S.most < ((S.size + a.length : Nat) : Int)
  · rw [if_pos h, if_pos (by omega), if_pos (by omega)]
  · rw [if_neg h]
    by_cases h' : S.most < ((S.size + a.length + b.length : Nat) : Int)
    · rw [if_pos h', if_pos (by omega)]
    · rw [if_neg h', if_neg (by omega), List.append_assoc]

set_option maxRecDepth 100000 in
set_option maxHeartbeats 400000 in
theorem new_any (most : Int) (w : World) :
    Calls Try.prog 13 #[.int .i64 most] w fun e w' => e = .returned (.pointer (some ⟨w.heap.size, 0, none⟩)) ∧ Below w.heap.size w w' ∧ WrE w.heap.size (WS.new most) (fun k => k = w.heap.size) w' ∧ w'.heap.size = w.heap.size + 1 := by
  go_enter Try.func13, Try.ntmps13
  go_wp2
  go_ret
  refine ⟨rfl, (Below.refl _ _).alloc (Nat.le_refl _) _, ⟨.slice none 0 0, .map none, World.alloc_heap_new w _, rfl, ownE_nil _ _ _ _, .inl rfl, fun g h => by simp [Value.ownBlock] at h, by simp [WS.new], .inl ⟨rfl, rfl⟩⟩, by simp⟩

set_option maxRecDepth 100000 in
set_option maxHeartbeats 400000 in
theorem len_any (B : Nat) (S : WS) (f : Nat → Prop) (w : World) (h : WrE B S f w) :
    Calls Try.prog 23 #[.pointer (some ⟨B, 0, none⟩)] w fun e w' => e = .returned (.int .i64 (S.size : Int)) ∧ w = w' := by
  obtain ⟨vo, vm, h⟩ := h
  have c1 := blk_cell h.heap 1 (v := .int .i64 (S.size : Int)) rfl
  clear h
  go_enter Try.func23, Try.ntmps23
  go_wp2
  go_ret
  exact ⟨rfl, rfl⟩
theorem len_nil (w : World) :
    Calls Try.prog 23 #[.pointer none] w fun e w' => e = .returned (.int .i64 0) ∧ w = w' := by
  go_enter Try.func23, Try.ntmps23
  go_wp2
  go_ret
  exact ⟨rfl, rfl⟩

/-- What an act comes to. -/
def ActRet (B : Nat) (S' : WS) (f : Nat → Prop) (w : World) (e : Ending) (w' : World) : Prop := e = .returned (.tuple #[]) ∧ Turn f w w' ∧ WrE B S' (grow f w w') w'

set_option maxRecDepth 100000 in
set_option maxHeartbeats 2000000 in
theorem bytes_any (B : Nat) (S : WS) (f : Nat → Prop) (l : List UInt8) (bv : Value) (w : World) (h : WrE B S f w) (hr : ReadB bv l w) (hl : S.size + l.length ≤ 1000000) :
    Calls Try.prog 14 #[.pointer (some ⟨B, 0, none⟩), bv] w (ActRet B (S.put l) f w) := by
  obtain ⟨vo, vm, h⟩ := h
  have hr' := hr
  obtain ⟨ao, cap, rfl, _⟩ := hr.form
  have c0 := blk_cell h.heap 0 (v := .int .i64 S.most) rfl
  have c1 := blk_cell h.heap 1 (v := .int .i64 (S.size : Int)) rfl
  have c2 := blk_cell h.heap 2 (v := vo) rfl
  have f1 := blk_frozen h.heap 1
  have f2 := blk_frozen h.heap 2
  have hB1 := blk_set h.heap 1 (.int .i64 ((S.size : Int) + (l.length : Int)))
  have hT1 : Turn f w (w.setCell ⟨B, 1, none⟩ (.int .i64 ((S.size : Int) + (l.length : Int)))) := turn_setCell h.heap (by simp [wCells]) h.self 1 _
  have HH := Lib.hid h
  have HR := Lib.hid hr'
  have HB1 := Lib.hid hB1
  have HT1 := Lib.hid hT1
  have HO : Hid (∀ k, k ≠ B → (w.setCell ⟨B, 1, none⟩ (.int .i64 ((S.size : Int) + (l.length : Int)))).heap[k]? = w.heap[k]?) := Lib.hid (fun k hk => Below.heap_setCell w ⟨B, 1, none⟩ _ k hk)
  clear h hr hr' hB1 hT1
  by_cases hm : S.most < (S.size : Int) + (l.length : Int)
  · have HS : Hid (S.put l = { S with size := S.size + l.length, out := [] }) := Lib.hid (by unfold WS.put; rw [if_pos (by omega)])
    go_enter Try.func14, Try.ntmps14
    go_wp2
    go_quiet (fail)
    go_wp2
    go_end0
    have h := HH.out
    have hB2 := blk_set (W := (w.setCell ⟨B, 1, none⟩ (.int .i64 ((S.size : Int) + (l.length : Int)))).drewN nq) HB1.out 2 (.slice none 0 0)
    refine ⟨rfl, (HT1.out.then (Turn.of_below (below_drewN (Below.refl _ _) nq))).then (turn_setCell (W := (w.setCell ⟨B, 1, none⟩ (.int .i64 ((S.size : Int) + (l.length : Int)))).drewN nq) HB1.out (by simp [wCells]) h.self 2 _), ?_⟩
    rw [HS.out]
    refine h.again (by rw [hB2]; simp [wCells]) (ownE_nil _ _ _ _) (.inl rfl) (fun g hg => by simp [Value.ownBlock] at hg) (by simp) rfl (fun k es ck hk => ?_)
    have hkB : k ≠ B := by rintro rfl; rw [h.heap] at hk; cases hk
    exact (Below.heap_setCell _ ⟨B, 2, none⟩ _ k hkB).trans (HO.out k hkB)
  · have HS : Hid (S.put l = { S with size := S.size + l.length, out := S.out ++ l }) := Lib.hid (by unfold WS.put; rw [if_neg (by omega)])
    have hol := HH.out.len
    go_enter Try.func14, Try.ntmps14
    go_wp2
    go_quiet (fail)
    have hown2 : OwnE encB 5 0 vo S.out ((w.setCell ⟨B, 1, none⟩ (.int .i64 ((S.size : Int) + (l.length : Int)))).drewN nq) := ownE_other HH.out.own (fun k _ hk => HO.out k hk) HH.out.out_ne
    have hread2 : ReadB (.slice ao l.length cap) l ((w.setCell ⟨B, 1, none⟩ (.int .i64 ((S.size : Int) + (l.length : Int)))).drewN nq) := readB_other HR.out HH.out.heap HH.out.vo_ne.1 HH.out.vo_ne.2 (fun k _ hk => HO.out k hk)
    have HOWN := Lib.hid hown2
    have HREAD := Lib.hid hread2
    clear hown2 hread2
    go_wp2_with (at_builtin; refine wpList_apdB _ rfl _ _ 22 rfl 0 5 Try.underlying22 infoByte vo S.out rfl HOWN.out _ l rfl HREAD.out (by omega) (Nat.zero_le _) ?_; intro v1 w1 ho1 ha1 hn1 hl1; obtain ⟨ao1, n1, cp1, rfl⟩ := own_shape ho1; have hB2 := (ha1.other B _ (HH.out.out_ne) HB1.out); have c2 := blk_cell hB2 2 (v := vo) rfl; have f2 := blk_frozen hB2 2; have HO1 := Lib.hid ho1; have HA1 := Lib.hid ha1; have HN1 := Lib.hid hn1; have HL1 := Lib.hid hl1; have HB2 := Lib.hid hB2; clear ho1 ha1 hn1 hl1 hB2)
    go_end0
    have h := HH.out
    have hB3 := blk_set HB2.out 2 (.slice ao1 n1 cp1)
    have hTa : Turn f ((w.setCell ⟨B, 1, none⟩ (.int .i64 ((S.size : Int) + (l.length : Int)))).drewN nq) w1 := turn_apd HA1.out h.nil h.mine
    have hne1 : some B ≠ (Value.slice ao1 n1 cp1).ownBlock := ownE_type HO1.out HB2.out (by decide)
    refine ⟨rfl, ((HT1.out.then (Turn.of_below (below_drewN (Below.refl _ _) nq))).then hTa).then (turn_setCell HB2.out (by simp [wCells]) h.self 2 _), ?_⟩
    rw [HS.out]
    refine h.again (by rw [hB3]; simp [wCells]) (ownE_other HO1.out (fun k _ hk => Below.heap_setCell _ ⟨B, 2, none⟩ _ k hk) hne1) (HN1.out h.nil) (fun g hg => ?_) (by simp; omega) rfl (fun k es ck hk => ?_)
    · rcases HL1.out with e | e
      · exact .inl (h.mine g (by rw [← e]; exact hg))
      · right
        rw [hg] at e
        have := Option.some.inj e
        have h2 : ((w.setCell ⟨B, 1, none⟩ (.int .i64 ((S.size : Int) + (l.length : Int)))).drewN nq).heap.size = w.heap.size := by simp [World.setCell, World.drewN]
        omega
    · have hkB : k ≠ B := by rintro rfl; rw [h.heap] at hk; cases hk
      have hkv : some k ≠ vo.ownBlock := by
        intro e
        rcases own_nil_or h.own with rfl | ⟨g', e', cur, hg'⟩
        · simp [Value.ownBlock] at e
        · rw [e'] at e; cases e; rw [hg'] at hk; cases hk
      have h2 : ((w.setCell ⟨B, 1, none⟩ (.int .i64 ((S.size : Int) + (l.length : Int)))).drewN nq).heap[k]? = w.heap[k]? := HO.out k hkB
      rw [hk] at h2 ⊢
      exact (Below.heap_setCell _ ⟨B, 2, none⟩ _ k hkB).trans (HA1.out.other k _ hkv h2)

/-- What bytes that are made at once come to. -/
theorem readB_lit (W : World) (l : List UInt8) (vs : List Value) (t : TypeId) (n : Nat) (hn : l.length = n) (hv : l.map encB = vs) : ReadB (.slice (some ⟨W.heap.size, 0, none⟩) n n) l (W.alloc (.cells vs.toArray t)) := by
  subst hn hv
  refine ⟨some ⟨W.heap.size, 0, none⟩, l.length, rfl, fun j hj => ⟨W.heap.size, 0, rfl, ?_⟩⟩
  have h := cells_new W (l.map encB) t j (encB l[j]) (by simp [hj])
  have e : (⟨W.heap.size, 0, none⟩ : Addr).add j = ⟨W.heap.size, 0 + j, none⟩ := by unfold Addr.add; split <;> simp_all
  rw [e] at h
  exact h
theorem grow_alloc {f : Nat → Prop} {W W' : World} {o : Obj} (k : Nat) (h : grow f (W.alloc o) W' k) : grow f W W' k := h.imp id (fun h => ⟨by have := h.1; simp at this; omega, h.2⟩)

set_option maxRecDepth 100000 in
set_option maxHeartbeats 1000000 in
theorem two_any (B : Nat) (S : WS) (f : Nat → Prop) (n : Int) (w : World) (h : WrE B S f w) (hl : S.size + 2 ≤ 1000000) :
    Calls Try.prog 15 #[.pointer (some ⟨B, 0, none⟩), .int .i64 n] w (ActRet B (S.put (two n)) f w) := by
  have HH := Lib.hid h
  clear h
  go_enter Try.func15, Try.ntmps15
  go_wp2_with fail
  refine (bytes_any B S f (two n) _ _ (HH.out.below ((Below.refl _ _).alloc (Nat.le_refl _) _)) (readB_lit _ (two n) [_, _] _ 2 rfl (by simp [two, encB, byteOf_int])) (by rw [two_len]; exact hl)).mono ?_
  rintro e w1 ⟨rfl, ht, hw⟩
  go_wp2
  go_end0
  exact ⟨rfl, (Turn.of_below ((Below.refl _ _).alloc (Nat.le_refl _) _)).then ht, hw.widen fun k _ => grow_alloc k⟩
theorem grow_trans {f : Nat → Prop} {A B C : World} (h1 : A.heap.size ≤ B.heap.size) (h2 : B.heap.size ≤ C.heap.size) (k : Nat) (h : grow (grow f A B) B C k) : grow f A C k := by
  rcases h with (h | h) | h
  · exact .inl h
  · exact .inr ⟨h.1, by omega⟩
  · exact .inr ⟨by omega, h.2⟩
/-- Two acts, one behind the other. -/
theorem ActRet.then {B : Nat} {S2 : WS} {f : Nat → Prop} {w w1 : World} {e : Ending} {w2 : World} (h2 : ActRet B S2 (grow f w w1) w1 e w2) (h1 : Turn f w w1) : ActRet B S2 f w e w2 :=
  ⟨h2.1, h1.trans h2.2.1, h2.2.2.widen fun k _ => grow_trans h1.size h2.2.1.size k⟩

set_option maxRecDepth 100000 in
set_option maxHeartbeats 1000000 in
theorem four_any (B : Nat) (S : WS) (f : Nat → Prop) (n : Int) (w : World) (h : WrE B S f w) (hl : S.size + 4 ≤ 1000000) :
    Calls Try.prog 17 #[.pointer (some ⟨B, 0, none⟩), .int .i64 n] w (ActRet B (S.put (four n)) f w) := by
  have HH := Lib.hid h
  have HP : Hid ((S.put (two (n / 65536))).put (two n) = S.put (four n)) := Lib.hid (WS.put_put _ _ _)
  have hs1 : (S.put (two (n / 65536))).size = S.size + 2 := rfl
  have HS1 := Lib.hid hs1
  clear h hs1
  go_enter Try.func17, Try.ntmps17
  go_wp2_with fail
  refine (two_any B S f _ _ HH.out (by omega)).mono ?_
  rintro e w1 ⟨rfl, ht, hw⟩
  go_wp2_with fail
  refine (two_any B _ _ _ _ hw (by rw [HS1.out]; omega)).mono ?_
  intro e w2 h2
  rw [HP.out] at h2
  have h3 := h2.then ht
  obtain ⟨rfl, h4⟩ := h3
  clear h2 hw ht
  go_wp2
  go_end0
  exact ⟨rfl, h4⟩
end Go.Proofs.Ytipabiiffaipdaa
