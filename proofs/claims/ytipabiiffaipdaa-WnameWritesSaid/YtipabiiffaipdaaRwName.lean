/- Name and Out of the document's own Writer. -/
import Derived.Test.YtipabiiffaipdaaRwActs
import Derived.Test.YtipabiiffaipdaaRMade
import Derived.Test.YtipabiiffaipdaaSq
namespace Go.Proofs.Ytipabiiffaipdaa
open Go.RowKit Go.Shelf Go.Maps
attribute [local go_sem] Oper.semAt_some

theorem run_dropS {g cap base : Nat} {ls : List (List UInt8)} {W : World} (h : OwnE encS 9 base (.slice (some ⟨g, 0, none⟩) ls.length cap) ls W) {k : Nat} (hk : k < ls.length) :
    (∀ W' : World, (Instr.slice 35 (.slice (some ⟨g, 0, none⟩) ls.length cap) (some (.int .i64 (k : Int))) none none).run Try.prog W' = .ok (.slice (some ⟨g, k, none⟩) (ls.length - k) (cap - k)) W') ∧
    ReadS (.slice (some ⟨g, k, none⟩) (ls.length - k) (cap - k)) (ls.drop k) W := by
  have hcap : ls.length ≤ cap := by
    rcases h.2 with ⟨e, _⟩ | ⟨g', cap', cur, e, _, _, hnc, _⟩
    · cases e
    · cases e; exact hnc
  have hu : Try.prog.underlying 35 = some (.slice (Try.prog.elem 35)) := by kernel_rfl
  refine ⟨fun W' => ?_, ⟨some ⟨g, k, none⟩, cap - k, by rw [List.length_drop], fun j hj => ⟨g, k, rfl, ?_⟩⟩⟩
  · have hs : (sizeOf (Try.prog.elem 35)).run Try.prog W' = .ok 1 W' := by
      obtain ⟨i, hi, _, h1, _⟩ := info_parts infoStr
      have he : Try.prog.elem 35 = 9 := by kernel_rfl
      rw [he]
      simp [sizeOf, typeInfo, hi, h1]
    rw [run_slice_l (w := W') 35 (some ⟨g, 0, none⟩) ls.length cap hu .i64 (k : Int) (by omega) (by omega), hs]
    have hne : ¬ cap = k := by omega
    simp [Result.andThen, sliced, hne, Addr.add]
    exact fun h => h.symm
  · rw [List.length_drop] at hj
    have hc := ownE_cell h (j := k + j) (by omega)
    rw [List.getElem_drop]
    rw [Nat.zero_add] at hc
    exact hc

theorem RwE.setBad {R : Nat} {M : MS} {f : Nat → Prop} {vb vp : Value} {W : World} (h : Rw R M f vb vp W) : Turn f W (W.setCell ⟨R, 3, none⟩ (.bool true)) ∧ RwE R { M with bad := true } f (W.setCell ⟨R, 3, none⟩ (.bool true)) := by
  have hB := blk_set h.heap 3 (.bool true)
  have hk : ∀ k, k ≠ R → (W.setCell ⟨R, 3, none⟩ (.bool true)).heap[k]? = W.heap[k]? := fun k hk => Below.heap_setCell _ ⟨R, 3, none⟩ _ k hk
  refine ⟨turn_setCell h.heap (by simp [mCells]) h.self 3 _, vb, vp, by rw [hB]; simp [mCells], h.self, ownG_kept h.ob fun g hg _ => hk g (fun e => h.ne_b (e ▸ hg)), ownG_kept h.op fun g hg _ => hk g (fun e => h.ne_p (e ▸ hg)), h.nilb, h.nilp, h.mineb, h.minep⟩

set_option maxRecDepth 100000 in
set_option maxHeartbeats 1000000 in
theorem rname_no (R : Nat) (M : MS) (f : Nat → Prop) (n : List UInt8) (sq : Bool) (w : World) (h : RwE R M f w) (hn : n.length ≤ 100000) (hv : Nm.valid n = false) :
    Calls Try.prog 20 #[.pointer (some ⟨R, 0, none⟩), .string ⟨n.toArray⟩, .bool sq] w (RAct R { M with bad := true } f w) := by
  have HH := Lib.hid h
  have HV := Lib.hid hv
  clear h hv
  go_enter Try.func20, Try.ntmps20
  go_wp2_with fail
  refine (rlabels_any n w hn).mono ?_
  rintro e w1 ⟨v, L, he, ho, hb, _, _⟩
  rw [HV.out] at he
  subst he
  obtain ⟨ao1, n1, cp1, rfl⟩ := own_shape ho
  obtain ⟨vb, vp, h1⟩ := HH.out.below hb
  have c3 := blk_cell h1.heap 3 (v := .bool M.bad) rfl
  have f3 := blk_frozen h1.heap 3
  have H1 := Lib.hid h1
  clear h1 ho
  go_wp2
  go_end0
  obtain ⟨h2, h3⟩ := RwE.setBad H1.out
  exact ⟨rfl, (Turn.of_below hb).then h2, h3.widen fun k _ hk => .inl hk⟩

/-- From w1 on all that turned is of f or new; the Writer has N. -/
structure St (R : Nat) (N : MS) (f : Nat → Prop) (w1 W : World) : Prop where
  turn : Turn f w1 W
  rw : RwE R N (grow f w1 W) W
theorem St.below {R : Nat} {N : MS} {f : Nat → Prop} {w1 W W' : World} (h : St R N f w1 W) (hb : Below W.heap.size W W') : St R N f w1 W' :=
  ⟨h.turn.trans (Turn.of_below hb), (h.rw.below hb).widen fun k _ hk => hk.imp id fun h' => ⟨h'.1, Nat.lt_of_lt_of_le h'.2 hb.size⟩⟩
theorem St.act {R : Nat} {N N' : MS} {f : Nat → Prop} {w1 W W' : World} {e : Ending} (h : St R N f w1 W) (ha : RAct R N' (grow f w1 W) W e W') : e = .returned (.tuple #[]) ∧ St R N' f w1 W' := by
  obtain ⟨h1, h2, h3⟩ := RAct.then ha h.turn
  exact ⟨h1, h2, h3⟩
theorem St.own {R : Nat} {N : MS} {f : Nat → Prop} {w1 W : World} (h : St R N f w1 W) {base : Nat} {v : Value} {ls : List (List UInt8)} (ho : OwnE encS 9 base v ls w1) (hf : ∀ g, v.ownBlock = some g → ¬ f g) : OwnE encS 9 base v ls W :=
  ownG_kept ho fun g hg hl => h.turn.block g hl (hf g hg)
theorem put_st (R : Nat) (N : MS) (f : Nat → Prop) (w1 : World) (l : List UInt8) (bv : Value) (W : World) (h : St R N f w1 W) (hr : ReadB bv l W) (he : N.pl.length = N.b.length) (hl : N.b.length + l.length ≤ 900000) :
    Calls Try.prog 31 #[.pointer (some ⟨R, 0, none⟩), bv] W fun e W' => e = .returned (.tuple #[]) ∧ St R (N.put l) f w1 W' :=
  (rput_any R N _ l bv W h.rw hr he hl).mono fun _ _ ha => h.act ha
theorem put_even {N : MS} (he : N.pl.length = N.b.length) (l : List UInt8) : (N.put l).pl.length = (N.put l).b.length := by
  simp only [MS.put, List.length_append, List.length_replicate, he]
theorem put_len (N : MS) (l : List UInt8) : (N.put l).b.length = N.b.length + l.length := List.length_append

/-- Where Name's loop stands. -/
structure NmAt (R : Nat) (M : MS) (ls : List (List UInt8)) (sq : Bool) (f : Nat → Prop) (w1 : World) (k : Nat) (N : MS) (W : World) : Prop where
  st : St R N f w1 W
  nm : N.nm sq (ls.drop k) = M.nm sq ls
  even : N.pl.length = N.b.length
  len : N.b.length + Nm.encL (ls.drop k) = M.b.length + Nm.encL ls
theorem NmAt.start {R : Nat} {M : MS} {ls : List (List UInt8)} {sq : Bool} {f : Nat → Prop} {w1 : World} (h : RwE R M f w1) (he : M.pl.length = M.b.length) : NmAt R M ls sq f w1 0 M w1 :=
  ⟨⟨Turn.refl _ _, h.widen fun k _ hk => .inl hk⟩, by rw [List.drop_zero], he, by rw [List.drop_zero]⟩
end Go.Proofs.Ytipabiiffaipdaa
