/- Free pieces: takes, end, inside, putFree, takeFree. -/
import Derived.Test.YtkndbldjablhoaaDoorAtake
import Derived.Test.YtkndbldjablhoaaDoorApush
import Derived.Deep.RegionWith
set_option maxRecDepth 100000
namespace Go.Proofs.YtkndbldjablhoaaDoor
open Go.RowKit Go.Shelf
namespace Ar
def Head.takes (p : Head) : Nat := if p.free then p.size else costI p.size
def fin (S : St) : Nat := S.mem.length / 16 * 16
end Ar
set_option maxHeartbeats 1000000 in
theorem takes_any (p : Ar.Head) (w : World) : Calls Tryd.prog 39 #[encH p] w fun e w' => e = .returned (.int .i64 (p.takes : Int)) ∧ Below w.heap.size w w' := by
  obtain ⟨fr, ow, sz, ah⟩ := p
  unfold encH encI Ar.Head.takes
  simp only
  cases fr
  · go_enter Tryd.func39, Tryd.ntmps39
    go_wp2_with (go_at_call 26; (with_reducible refine (cost_any _ _).mono ?_); rintro e w' ⟨rfl, rfl⟩)
    go_ret
    exact ⟨rfl, (Below.refl _ _).alloc (Nat.le_refl _) _⟩
  · go_enter Tryd.func39, Tryd.ntmps39
    go_wp2
    go_ret
    exact ⟨rfl, (Below.refl _ _).alloc (Nat.le_refl _) _⟩
set_option maxHeartbeats 1000000 in
theorem end_any (A : Nat) (L : Loc) (S : Ar.St) (f : Nat → Prop) (w : World) (h : ArE A L S f w) (hm : S.mem.length ≤ 1048576) :
    Calls Tryd.prog 32 #[.pointer (some ⟨A, 0, none⟩)] w fun e w' => e = .returned (.int .i64 (Ar.fin S : Int)) ∧ w = w' := by
  have hc := h.cells.1
  unfold Ar.fin
  go_enter Tryd.func32, Tryd.ntmps32
  go_wp2
  go_ret
  exact ⟨ret_int (by omega), rfl⟩
theorem end_at (A : Nat) (L : Loc) (S : Ar.St) (f : Nat → Prop) (F : Nat) (w : World) (h : ArE A L S f w) (hm : S.mem.length ≤ 1048576) (hF : Ar.fin S = F) :
    Calls Tryd.prog 32 #[.pointer (some ⟨A, 0, none⟩)] w fun e w' => e = .returned (.int .i64 (F : Int)) ∧ w = w' := by
  subst hF
  exact end_any A L S f w h hm
/-- The lists of free pieces, in the box. -/
theorem ArE.che {A : Nat} {L : Loc} {S : Ar.St} {f : Nat → Prop} {w : World} (h : ArE A L S f w) (hn : S.nd.length ≤ 200000) : ChE A 5 73 (arBox L S) L.N L.cap L.rest S.nd S.spare w :=
  ⟨h.box, rfl, rfl, h.nd, h.cap, h.box.ne h.nd (by decide), hn, h.cm⟩
theorem ArE.unche {A : Nat} {L : Loc} {S : Ar.St} {f : Nat → Prop} {w w' : World} (h : ArE A L S f w) {N' cap' : Nat} {rest' : List Value} {ns : List Ar.Node} {spare : Nat} {bx : List Value} (k : ChE A 5 73 bx N' cap' rest' ns spare w') (hbx : bx = arBox { L with N := N', cap := cap', rest := rest' } { S with nd := ns, spare := spare })
    (ht : Trn (fun k => k = A ∨ k = L.N) w w') (hN : N' = L.N ∨ w.heap.size ≤ N') : Trn f w w' ∧ ArE A { L with N := N', cap := cap', rest := rest' } { S with nd := ns, spare := spare } (grow f w w') w' := by
  have hk : ∀ j l t, Blk w j l t → t ≠ 73 → t ≠ 99 → Blk w' j l t := fun j l t hj h1 h2 => hj.trn ht (fun e => e.elim (fun e => hj.ne h.box h1 e) (fun e => hj.ne h.nd h2 e))
  refine ⟨ht.mono (fun j _ e => e.elim (fun e => e ▸ h.fA) (fun e => e ▸ h.fN)), ⟨hbx ▸ k.box, hk _ _ _ h.mem (by decide) (by decide), hk _ _ _ h.pl (by decide) (by decide), hk _ _ _ h.us (by decide) (by decide), k.nd, k.hcap, k.cm, .inl h.fA, .inl h.fM, .inl h.fP, .inl h.fU, ?_, ?_⟩⟩
  · exact hN.elim (fun e => .inl (by show f N'; rw [e]; exact h.fN)) (fun e => .inr ⟨e, k.nd.lt⟩)
  · intro j e
    exact e.elim (fun e => Nat.lt_of_lt_of_le (h.fb j e) ht.size) (fun e => e.2)
/-- An arena, and what has been left alone. -/
structure Ars (A : Nat) (L : Loc) (S : Ar.St) (f : Nat → Prop) (w w' : World) : Prop where
  trn : Trn f w w'
  ar : ArE A L S (grow f w w') w'
theorem Ars.start {A : Nat} {L : Loc} {S : Ar.St} {f : Nat → Prop} {w : World} (h : ArE A L S f w) : Ars A L S f w w := ⟨Trn.refl f w, h.wide (fun _ e => .inl e) (fun k e => h.fb k (grow_self rfl k e))⟩
theorem Ars.same {A : Nat} {L L2 : Loc} {S S2 : Ar.St} {f : Nat → Prop} {w w1 w2 : World} (h : Ars A L S f w w1) (t2 : Trn (grow f w w1) w1 w2) (a2 : ArE A L2 S2 (grow f w w1) w2) : Ars A L2 S2 f w w2 :=
  ⟨h.trn.trans t2, a2.wide (fun k e => e.elim .inl (fun e => .inr ⟨e.1, Nat.lt_of_lt_of_le e.2 t2.size⟩)) (fun k e => e.elim (fun e => a2.fb k (.inl e)) (fun e => e.2))⟩
theorem Ars.more {A : Nat} {L L2 : Loc} {S S2 : Ar.St} {f : Nat → Prop} {w w1 w2 : World} (h : Ars A L S f w w1) (t2 : Trn (grow f w w1) w1 w2) (a2 : ArE A L2 S2 (grow (grow f w w1) w1 w2) w2) : Ars A L2 S2 f w w2 :=
  ⟨h.trn.trans t2, a2.wide (fun k e => grow_trans h.trn.size t2.size k e) (fun k e => e.elim (fun e => a2.fb k (.inl (.inl e))) (fun e => e.2))⟩
theorem Ars.below {A : Nat} {L : Loc} {S : Ar.St} {f : Nat → Prop} {w w1 w2 : World} (h : Ars A L S f w w1) (b : Below w1.heap.size w1 w2) : Ars A L S f w w2 := h.same (Trn.of_below b) (h.ar.below b)
theorem Ars.drew {A : Nat} {L : Loc} {S : Ar.St} {f : Nat → Prop} {w w1 : World} (h : Ars A L S f w w1) (n : Nat) : Ars A L S f w (w1.drewN n) := h.same (Trn.drew w1 n) (h.ar.drew n)
theorem Ars.drw {A : Nat} {L : Loc} {S : Ar.St} {f : Nat → Prop} {w w1 : World} (h : Ars A L S f w w1) : Ars A L S f w w1.drew := h.same (Trn.drw w1) h.ar.drw
theorem Ars.unche {A : Nat} {L : Loc} {S : Ar.St} {f : Nat → Prop} {w w1 w2 : World} (h : Ars A L S f w w1) {N' cap' : Nat} {rest' : List Value} {ns : List Ar.Node} {spare : Nat} {bx : List Value} (k : ChE A 5 73 bx N' cap' rest' ns spare w2) (hbx : bx = arBox { L with N := N', cap := cap', rest := rest' } { S with nd := ns, spare := spare })
    (ht : Trn (fun k => k = A ∨ k = L.N) w1 w2) (hN : N' = L.N ∨ w1.heap.size ≤ N') : Ars A { L with N := N', cap := cap', rest := rest' } { S with nd := ns, spare := spare } f w w2 :=
  h.more (h.ar.unche k hbx ht hN).1 (h.ar.unche k hbx ht hN).2
theorem putHead_agg (A : Nat) (L : Loc) (S : Ar.St) (f : Nat → Prop) (z : Int) (a : Nat) (fr : Bool) (ow sz ah : Nat) (w : World) (hz : z = (a : Int)) (h : ArE A L S f w) (hm : S.mem.length ≤ 1048576) (ha : a + 8 ≤ S.mem.length) (h1 : ow < 2097152) (h2 : sz < 2097152) (h3 : ah < 2097152) :
    Calls Tryd.prog 51 #[.pointer (some ⟨A, 0, none⟩), .int .i64 z, .agg #[.bool fr, .int .i64 (ow : Int), .int .i64 (sz : Int), .int .i64 (ah : Int)]] w fun e w' => e = .returned (.tuple #[]) ∧ Trn f w w' ∧ ArE A L { S with mem := Ar.putHd S.mem a ⟨fr, ow, sz, ah⟩ } f w' := by
  subst hz
  exact putHead_any A L S f a ⟨fr, ow, sz, ah⟩ w h hm ha ⟨h1, h2, h3⟩
theorem below_trans' {W W1 : World} {o : Obj} (h : Below W.heap.size W W1) : Below W.heap.size W (W1.alloc o) := h.trans ((Below.refl _ _).alloc h.size _)
theorem head_agg (A : Nat) (L : Loc) (S : Ar.St) (f : Nat → Prop) (z : Int) (a : Nat) (p : Ar.Head) (w : World) (hz : z = (a : Int)) (h : ArE A L S f w) (hm : S.mem.length ≤ 1048576) (ha : a + 8 ≤ S.mem.length) (hp : Ar.headAt S.mem a = p) :
    Calls Tryd.prog 38 #[.pointer (some ⟨A, 0, none⟩), .int .i64 z] w fun e w' => e = .returned (.agg #[.bool p.free, .int .i64 (p.owner : Int), .int .i64 (p.size : Int), .int .i64 (p.ahead : Int)]) ∧ Below w.heap.size w w' := by
  subst hz
  subst hp
  exact head_any A L S f a w h hm ha
theorem Ar.headAt_fits (mem : List UInt8) (a : Nat) : (Ar.headAt mem a).fits := by
  unfold Ar.headAt Ar.headOf
  exact ⟨Nat.mod_lt _ (by decide), Nat.mod_lt _ (by decide), Nat.mod_lt _ (by decide)⟩
theorem Ar.putHd_len (mem : List UInt8) (a : Nat) (p : Ar.Head) (h : a + 8 ≤ mem.length) : (Ar.putHd mem a p).length = mem.length := Ar.put_len _ _ _ (by unfold Ar.byte8; rw [Ar.lastB_len]; omega)
theorem Ar.push_k (nd : List Ar.Node) (spare list value : Nat) (h : spare < nd.length) : (Ar.push nd spare list value).k ≤ nd.length := by
  unfold Ar.push
  simp only
  split <;> omega
/-- What a call that may make a new block of nodes leaves. -/
def ArRet (A : Nat) (S' : Ar.St) (f : Nat → Prop) (v : Value) (w : World) (e : Ending) (w' : World) : Prop := e = .returned v ∧ ∃ L', Ars A L' S' f w w'
namespace Ar
def putFree (S : St) (at_ size ahead : Nat) : St :=
  let R := push S.nd S.spare (cls size) at_
  let m := putHd S.mem at_ ⟨true, R.k, size, ahead⟩
  { S with nd := R.nd, spare := R.spare, mem := if at_ + size < S.mem.length / 16 * 16 then putHd m (at_ + size) { headAt m (at_ + size) with ahead := size } else m }
end Ar
set_option maxHeartbeats 4000000 in
theorem putFree_any (A : Nat) (L : Loc) (S : Ar.St) (f : Nat → Prop) (a size ahead : Nat) (w : World) (h : ArE A L S f w) (hm : S.mem.length ≤ 1048576) (h1 : 16 ≤ size) (h2 : a + size ≤ S.mem.length) (h16 : (a + size) % 16 = 0) (h3 : ahead ≤ 1048576)
    (hc1 : Ar.cls size < S.nd.length) (hc2 : (Ar.nodeAt S.nd (Ar.cls size)).n < S.nd.length) (hc3 : S.spare < S.nd.length) (hc4 : S.nd.length < 200000) :
    Calls Tryd.prog 31 #[.pointer (some ⟨A, 0, none⟩), .int .i64 (a : Int), .int .i64 (size : Int), .int .i64 (ahead : Int)] w (ArRet A (Ar.putFree S a size ahead) f (.tuple #[]) w) := by
  have hAl := h.box.lt
  go_enter Tryd.func31, Tryd.ntmps31
  go_wp2

  go_region_with (first
    | (go_at_call 53; refine (classOf_any size _ h1 (by omega)).mono ?_; rintro e w' ⟨rfl, rfl⟩)
    | (go_at_call 52; refine (push_any A 5 73 (arBox L S) L.N L.cap L.rest S.nd S.spare (Ar.cls size) a _ ?_ hc1 hc2 hc3 hc4).mono ?_; exact h.drw.che (by omega); rintro e w1 ⟨rfl, N', cap', rest', hN, ht, k⟩; have HP := Lib.hid ((Ars.start h).drw.unche k rfl ht hN); clear hN ht k)
    | (go_at_call 51; (refine (putHead_agg A _ _ _ (a : Int) a true (Ar.push S.nd S.spare (Ar.cls size) a).k size ahead _ rfl HP.out.ar hm (show a + 8 ≤ S.mem.length by omega) (by have := Ar.push_k S.nd S.spare (Ar.cls size) a hc3; omega) (by omega) (by omega)).mono ?_); rintro e w2 ⟨rfl, ht2, hA2⟩; have HP2 := Lib.hid (HP.out.same ht2 hA2); clear ht2 hA2))
  have hk := Ar.push_k S.nd S.spare (Ar.cls size) a hc3
  have hM1 := Ar.putHd_len S.mem a ⟨true, (Ar.push S.nd S.spare (Ar.cls size) a).k, size, ahead⟩ (by omega)
  have HE : Hid (Ar.putFree S a size ahead = { S with nd := (Ar.push S.nd S.spare (Ar.cls size) a).nd, spare := (Ar.push S.nd S.spare (Ar.cls size) a).spare, mem := if a + size < S.mem.length / 16 * 16 then Ar.putHd (Ar.putHd S.mem a ⟨true, (Ar.push S.nd S.spare (Ar.cls size) a).k, size, ahead⟩) (a + size) { Ar.headAt (Ar.putHd S.mem a ⟨true, (Ar.push S.nd S.spare (Ar.cls size) a).k, size, ahead⟩) (a + size) with ahead := size } else Ar.putHd S.mem a ⟨true, (Ar.push S.nd S.spare (Ar.cls size) a).k, size, ahead⟩ }) := Lib.hid rfl
  generalize Ar.push S.nd S.spare (Ar.cls size) a = R at *
  generalize Ar.putHd S.mem a ⟨true, R.k, size, ahead⟩ = M1 at *
  obtain ⟨L2, hL2⟩ : ∃ L2, Ars A L2 { S with nd := R.nd, spare := R.spare, mem := M1 } f w w2 := ⟨_, HP2.out⟩
  have H2 := Lib.hid hL2
  clear hL2 HP2 HP
  have HM1 := Lib.hid hM1
  have hM1m : M1.length ≤ 1048576 := by omega
  clear hM1
  by_cases hlt : a + size < S.mem.length / 16 * 16
  · rw [if_pos hlt] at HE
    obtain ⟨p, hp⟩ : ∃ p, Ar.headAt M1 (a + size) = p := ⟨_, rfl⟩
    have hpf := hp ▸ Ar.headAt_fits M1 (a + size)
    have HPp := Lib.hid hp
    clear hp
    obtain ⟨q1, q2, q3⟩ := hpf
    have HF : Hid (Ar.fin { S with nd := R.nd, spare := R.spare, mem := M1 } = S.mem.length / 16 * 16) := Lib.hid (by unfold Ar.fin; simp only; rw [HM1.out])
    generalize S.mem.length / 16 * 16 = F at hlt HF
    have hb1 : a + size + 8 ≤ M1.length := by have h1 := HF.out; have h2 := HM1.out; unfold Ar.fin at h1; simp only at h1; omega
    go_wp2_with (first
      | (go_at_call 32; (with_reducible refine (end_at A L2 _ _ F _ H2.out.ar hM1m HF.out).mono ?_); rintro e w' ⟨rfl, rfl⟩)
      | (go_at_call 38; (with_reducible refine (head_agg A L2 _ _ ((a : Int) + (size : Int)) (a + size) p _ (by omega) H2.out.ar hM1m hb1 HPp.out).mono ?_); rintro e w3 ⟨rfl, hb3⟩))
    have H3 := Lib.hid (H2.out.below (w2 := w3.alloc (.cells #[.bool p.free, .int .i64 (p.owner : Int), .int .i64 (p.size : Int), .int .i64 (size : Int)] 76)) (below_trans' hb3))
    clear hb3
    go_wp2_with (go_at_call 51; (with_reducible refine (putHead_agg A L2 { S with nd := R.nd, spare := R.spare, mem := M1 } _ ((a : Int) + (size : Int)) (a + size) p.free p.owner p.size size _ (by omega) H3.out.ar hM1m hb1 q1 q2 (by omega)).mono ?_); rintro e w4 ⟨rfl, ht4, hA4⟩)
    go_end0
    refine ⟨rfl, L2, ?_⟩
    rw [HE.out, HPp.out]
    exact H3.out.same ht4 hA4
  · rw [if_neg hlt] at HE
    have HF : Hid (Ar.fin { S with nd := R.nd, spare := R.spare, mem := M1 } = S.mem.length / 16 * 16) := Lib.hid (by unfold Ar.fin; simp only; rw [HM1.out])
    generalize S.mem.length / 16 * 16 = F at hlt HF
    have hge : ¬ ((a : Int) + (size : Int) < (F : Int)) := by omega
    go_wp2_with (first
      | (go_at_call 32; (with_reducible refine (end_at A L2 _ _ F _ H2.out.ar hM1m HF.out).mono ?_); rintro e w' ⟨rfl, rfl⟩))
    go_end0
    refine ⟨rfl, L2, ?_⟩
    rw [HE.out]
    exact H2.out
end Go.Proofs.YtkndbldjablhoaaDoor
