/- 3 texts put together: Afree, Atkf, Afit. -/
import Derived.Deep.RegionWith
import Derived.Deep.RegionHeld3
import Derived.IntWalk
import Derived.Test.YtdbaocphglijbaaDoorJB2
import Derived.Test.YtdbaocphglijbaaDoorJB4
/- Free pieces: takes, end, inside, putFree, takeFree. -/
set_option maxRecDepth 100000
namespace Go.Proofs.YtdbaocphglijbaaDoor
open Go.RowKit Go.Shelf
namespace Ar
def Head.takes (p : Head) : Nat := if p.free then p.size else costI p.size
def fin (S : St) : Nat := S.mem.length / 16 * 16
end Ar
set_option maxHeartbeats 1000000 in
theorem takes_any (p : Ar.Head) (w : World) : Calls Tryd.prog 60 #[encH p] w fun e w' => e = .returned (.int .i64 (p.takes : Int)) ∧ Below w.heap.size w w' := by
  obtain ⟨fr, mk, ow, sz, ah⟩ := p
  unfold encH encI Ar.Head.takes
  simp only
  cases fr
  · go_enter Tryd.func60, Tryd.ntmps60
    go_wp2_with (go_at_call 30; (with_reducible refine (cost_any _ _).mono ?_); rintro e w' ⟨rfl, rfl⟩)
    go_ret
    exact ⟨rfl, (Below.refl _ _).alloc (Nat.le_refl _) _⟩
  · go_enter Tryd.func60, Tryd.ntmps60
    go_wp2
    go_ret
    exact ⟨rfl, (Below.refl _ _).alloc (Nat.le_refl _) _⟩
set_option maxHeartbeats 1000000 in
theorem end_any (A : Nat) (L : Loc) (S : Ar.St) (f : Nat → Prop) (w : World) (h : ArE A L S f w) (hm : S.mem.length ≤ 1048576) :
    Calls Tryd.prog 53 #[.pointer (some ⟨A, 0, none⟩)] w fun e w' => e = .returned (.int .i64 (Ar.fin S : Int)) ∧ w = w' := by
  have hc := h.cells.1
  unfold Ar.fin
  go_enter Tryd.func53, Tryd.ntmps53
  go_wp2
  go_ret
  exact ⟨ret_int (by omega), rfl⟩
theorem end_at (A : Nat) (L : Loc) (S : Ar.St) (f : Nat → Prop) (F : Nat) (w : World) (h : ArE A L S f w) (hm : S.mem.length ≤ 1048576) (hF : Ar.fin S = F) :
    Calls Tryd.prog 53 #[.pointer (some ⟨A, 0, none⟩)] w fun e w' => e = .returned (.int .i64 (F : Int)) ∧ w = w' := by
  subst hF
  exact end_any A L S f w h hm
/-- The lists of free pieces, in the box. -/
theorem ArE.che {A : Nat} {L : Loc} {S : Ar.St} {f : Nat → Prop} {w : World} (h : ArE A L S f w) (hn : S.nd.length ≤ 200000) : ChE A 5 95 (arBox L S) L.N L.cap L.rest S.nd S.spare w :=
  ⟨h.box, rfl, rfl, h.nd, h.cap, h.box.ne h.nd (by decide), hn, h.cm⟩
theorem ArE.unche {A : Nat} {L : Loc} {S : Ar.St} {f : Nat → Prop} {w w' : World} (h : ArE A L S f w) {N' cap' : Nat} {rest' : List Value} {ns : List Ar.Node} {spare : Nat} {bx : List Value} (k : ChE A 5 95 bx N' cap' rest' ns spare w') (hbx : bx = arBox { L with N := N', cap := cap', rest := rest' } { S with nd := ns, spare := spare })
    (ht : Trn (fun k => k = A ∨ k = L.N) w w') (hN : N' = L.N ∨ w.heap.size ≤ N') : Trn f w w' ∧ ArE A { L with N := N', cap := cap', rest := rest' } { S with nd := ns, spare := spare } (grow f w w') w' := by
  have hk : ∀ j l t, Blk w j l t → t ≠ 95 → t ≠ 142 → Blk w' j l t := fun j l t hj h1 h2 => hj.trn ht (fun e => e.elim (fun e => hj.ne h.box h1 e) (fun e => hj.ne h.nd h2 e))
  refine ⟨ht.mono (fun j _ e => e.elim (fun e => e ▸ h.fA) (fun e => e ▸ h.fN)), ⟨hbx ▸ k.box, hk _ _ _ h.mem (by decide) (by decide), hk _ _ _ h.pl (by decide) (by decide), hk _ _ _ h.us (by decide) (by decide), k.nd, k.hcap, k.cm, .inl h.fA, .inl h.fM, .inl h.fP, .inl h.fU, ?_, ?_⟩⟩
  · exact hN.elim (fun e => .inl (by show f N'; rw [e]; exact h.fN)) (fun e => .inr ⟨e, k.nd.lt⟩)
  · intro j e
    exact e.elim (fun e => Nat.lt_of_lt_of_le (h.fb j e) ht.size) (fun e => e.2)
/-- An arena, and what has been left alone. -/
structure Ars (A : Nat) (L : Loc) (S : Ar.St) (f : Nat → Prop) (w w' : World) : Prop where
  trn : Trn f w w'
  ar : ArE A L S (grow f w w') w'
theorem Ars.start {A : Nat} {L : Loc} {S : Ar.St} {f : Nat → Prop} {w : World} (h : ArE A L S f w) : Ars A L S f w w := ⟨Trn.refl f w, h.wide (fun _ e => .inl e) (fun k e => h.fb k (grow_self rfl k e))⟩
theorem Ars.same {A : Nat} {L L2 : Loc} {S S2 : Ar.St} {f : Nat → Prop} {w w1 w2 : World} (h : Ars A L S f w w1) (t2 : Trn (grow f w w1) w1 w2) (a2 : ArE A L2 S2 (grow f w w1) w2) : Ars A L2 S2 f w w2 :=
  ⟨h.trn.trans t2, a2.wide (fun _k e => e.elim .inl (fun e => .inr ⟨e.1, Nat.lt_of_lt_of_le e.2 t2.size⟩)) (fun k e => e.elim (fun e => a2.fb k (.inl e)) (fun e => e.2))⟩
theorem Ars.more {A : Nat} {L L2 : Loc} {S S2 : Ar.St} {f : Nat → Prop} {w w1 w2 : World} (h : Ars A L S f w w1) (t2 : Trn (grow f w w1) w1 w2) (a2 : ArE A L2 S2 (grow (grow f w w1) w1 w2) w2) : Ars A L2 S2 f w w2 :=
  ⟨h.trn.trans t2, a2.wide (fun k e => grow_trans h.trn.size t2.size k e) (fun k e => e.elim (fun e => a2.fb k (.inl (.inl e))) (fun e => e.2))⟩
theorem Ars.below {A : Nat} {L : Loc} {S : Ar.St} {f : Nat → Prop} {w w1 w2 : World} (h : Ars A L S f w w1) (b : Below w1.heap.size w1 w2) : Ars A L S f w w2 := h.same (Trn.of_below b) (h.ar.below b)
theorem Ars.drew {A : Nat} {L : Loc} {S : Ar.St} {f : Nat → Prop} {w w1 : World} (h : Ars A L S f w w1) (n : Nat) : Ars A L S f w (w1.drewN n) := h.same (Trn.drew w1 n) (h.ar.drew n)
theorem Ars.drw {A : Nat} {L : Loc} {S : Ar.St} {f : Nat → Prop} {w w1 : World} (h : Ars A L S f w w1) : Ars A L S f w w1.drew := h.same (Trn.drw w1) h.ar.drw
theorem Ars.unche {A : Nat} {L : Loc} {S : Ar.St} {f : Nat → Prop} {w w1 w2 : World} (h : Ars A L S f w w1) {N' cap' : Nat} {rest' : List Value} {ns : List Ar.Node} {spare : Nat} {bx : List Value} (k : ChE A 5 95 bx N' cap' rest' ns spare w2) (hbx : bx = arBox { L with N := N', cap := cap', rest := rest' } { S with nd := ns, spare := spare })
    (ht : Trn (fun k => k = A ∨ k = L.N) w1 w2) (hN : N' = L.N ∨ w1.heap.size ≤ N') : Ars A { L with N := N', cap := cap', rest := rest' } { S with nd := ns, spare := spare } f w w2 :=
  h.more (h.ar.unche k hbx ht hN).1 (h.ar.unche k hbx ht hN).2
theorem putHead_agg (A : Nat) (L : Loc) (S : Ar.St) (f : Nat → Prop) (z : Int) (a : Nat) (fr mk : Bool) (ow sz ah : Nat) (w : World) (hz : z = (a : Int)) (h : ArE A L S f w) (hm : S.mem.length ≤ 1048576) (ha : a + 8 ≤ S.mem.length) (h1 : ow < 1048576) (h2 : sz < 2097152) (h3 : ah < 2097152) :
    Calls Tryd.prog 83 #[.pointer (some ⟨A, 0, none⟩), .int .i64 z, .agg #[.bool fr, .bool mk, .int .i64 (ow : Int), .int .i64 (sz : Int), .int .i64 (ah : Int)]] w fun e w' => e = .returned (.tuple #[]) ∧ Trn f w w' ∧ ArE A L { S with mem := Ar.putHd S.mem a ⟨fr, mk, ow, sz, ah⟩ } f w' := by
  subst hz
  exact putHead_any A L S f a ⟨fr, mk, ow, sz, ah⟩ w h hm ha ⟨h1, h2, h3⟩
theorem below_trans' {W W1 : World} {o : Obj} (h : Below W.heap.size W W1) : Below W.heap.size W (W1.alloc o) := h.trans ((Below.refl _ _).alloc h.size _)
theorem head_agg (A : Nat) (L : Loc) (S : Ar.St) (f : Nat → Prop) (z : Int) (a : Nat) (p : Ar.Head) (w : World) (hz : z = (a : Int)) (h : ArE A L S f w) (hm : S.mem.length ≤ 1048576) (ha : a + 8 ≤ S.mem.length) (hp : Ar.headAt S.mem a = p) :
    Calls Tryd.prog 59 #[.pointer (some ⟨A, 0, none⟩), .int .i64 z] w fun e w' => e = .returned (.agg #[.bool p.free, .bool p.marked, .int .i64 (p.owner : Int), .int .i64 (p.size : Int), .int .i64 (p.ahead : Int)]) ∧ Below w.heap.size w w' := by
  subst hz
  subst hp
  exact head_any A L S f a w h hm ha
theorem Ar.headAt_fits (mem : List UInt8) (a : Nat) : (Ar.headAt mem a).fits := by
  unfold Ar.headAt Ar.headOf
  exact ⟨Nat.mod_lt _ (by decide), Nat.mod_lt _ (by decide), Nat.mod_lt _ (by decide)⟩
theorem Ar.putHd_len (mem : List UInt8) (a : Nat) (p : Ar.Head) (h : a + 8 ≤ mem.length) : (Ar.putHd mem a p).length = mem.length := Ar.put_len _ _ _ (by unfold Ar.byte8; rw [Ar.lastB_len]; omega)
theorem Ar.push_k (nd : List Ar.Node) (spare list value : Nat) (h : spare < nd.length) : (Ar.push nd spare list value).k ≤ nd.length := by
  unfold Ar.push
  simp only
  split <;> omega
/-- What a call that may make a new block of nodes leaves. -/
def ArRet (A : Nat) (S' : Ar.St) (f : Nat → Prop) (v : Value) (w : World) (e : Ending) (w' : World) : Prop := e = .returned v ∧ ∃ L', Ars A L' S' f w w'
namespace Ar
def putFree (S : St) (at_ size ahead : Nat) : St :=
  let R := push S.nd S.spare (cls size) at_
  let m := putHd S.mem at_ ⟨true, false, R.k, size, ahead⟩
  { S with nd := R.nd, spare := R.spare, mem := if at_ + size < S.mem.length / 16 * 16 then putHd m (at_ + size) { headAt m (at_ + size) with ahead := size } else m }
end Ar
set_option maxHeartbeats 4000000 in
theorem putFree_any (A : Nat) (L : Loc) (S : Ar.St) (f : Nat → Prop) (a size ahead : Nat) (w : World) (h : ArE A L S f w) (hm : S.mem.length ≤ 1048576) (h1 : 16 ≤ size) (h2 : a + size ≤ S.mem.length) (h16 : (a + size) % 16 = 0) (h3 : ahead ≤ 1048576)
    (hc1 : Ar.cls size < S.nd.length) (hc2 : (Ar.nodeAt S.nd (Ar.cls size)).n < S.nd.length) (hc3 : S.spare < S.nd.length) (hc4 : S.nd.length < 200000) :
    Calls Tryd.prog 52 #[.pointer (some ⟨A, 0, none⟩), .int .i64 (a : Int), .int .i64 (size : Int), .int .i64 (ahead : Int)] w (ArRet A (Ar.putFree S a size ahead) f (.tuple #[]) w) := by
  have hAl := h.box.lt
  go_enter Tryd.func52, Tryd.ntmps52
  go_wp2

  go_region_with (first
    | (go_at_call 85; refine (classOf_any size _ h1 (by omega)).mono ?_; rintro e w' ⟨rfl, rfl⟩)
    | (go_at_call 84; refine (push_any A 5 95 (arBox L S) L.N L.cap L.rest S.nd S.spare (Ar.cls size) a _ ?_ hc1 hc2 hc3 hc4).mono ?_; exact h.drw.che (by omega); rintro e w1 ⟨rfl, N', cap', rest', hN, ht, k⟩; have HP := Lib.hid ((Ars.start h).drw.unche k rfl ht hN); clear hN ht k)
    | (go_at_call 83; (refine (putHead_agg A _ _ _ (a : Int) a true false (Ar.push S.nd S.spare (Ar.cls size) a).k size ahead _ rfl HP.out.ar hm (show a + 8 ≤ S.mem.length by omega) (by have := Ar.push_k S.nd S.spare (Ar.cls size) a hc3; omega) (by omega) (by omega)).mono ?_); rintro e w2 ⟨rfl, ht2, hA2⟩; have HP2 := Lib.hid (HP.out.same ht2 hA2); clear ht2 hA2))
  have hk := Ar.push_k S.nd S.spare (Ar.cls size) a hc3
  have hM1 := Ar.putHd_len S.mem a ⟨true, false, (Ar.push S.nd S.spare (Ar.cls size) a).k, size, ahead⟩ (by omega)
  have HE : Hid (Ar.putFree S a size ahead = { S with nd := (Ar.push S.nd S.spare (Ar.cls size) a).nd, spare := (Ar.push S.nd S.spare (Ar.cls size) a).spare, mem := if a + size < S.mem.length / 16 * 16 then Ar.putHd (Ar.putHd S.mem a ⟨true, false, (Ar.push S.nd S.spare (Ar.cls size) a).k, size, ahead⟩) (a + size) { Ar.headAt (Ar.putHd S.mem a ⟨true, false, (Ar.push S.nd S.spare (Ar.cls size) a).k, size, ahead⟩) (a + size) with ahead := size } else Ar.putHd S.mem a ⟨true, false, (Ar.push S.nd S.spare (Ar.cls size) a).k, size, ahead⟩ }) := Lib.hid rfl
  generalize Ar.push S.nd S.spare (Ar.cls size) a = R at *
  generalize Ar.putHd S.mem a ⟨true, false, R.k, size, ahead⟩ = M1 at *
  obtain ⟨L2, hL2⟩ : ∃ L2, Ars A L2 { S with nd := R.nd, spare := R.spare, mem := M1 } f w w2 := ⟨_, HP2.out⟩
  have H2 := Lib.hid hL2
  clear hL2 HP2 HP
  have HM1 := Lib.hid hM1
  have hM1m : M1.length ≤ 1048576 := by omega
  clear hM1
  by_cases hlt : a + size < S.mem.length / 16 * 16
  · rw [if_pos hlt] at HE
    obtain ⟨p, hp⟩ : ∃ p, Ar.headAt M1 (a + size) = p := ⟨_, rfl⟩
    have hpf := hp ▸ Ar.headAt_fits M1 (a + size)
    have HPp := Lib.hid hp
    clear hp
    obtain ⟨q1, q2, q3⟩ := hpf
    have HF : Hid (Ar.fin { S with nd := R.nd, spare := R.spare, mem := M1 } = S.mem.length / 16 * 16) := Lib.hid (by unfold Ar.fin; simp only; rw [HM1.out])
    generalize S.mem.length / 16 * 16 = F at hlt HF
    have hb1 : a + size + 8 ≤ M1.length := by have h1 := HF.out; have h2 := HM1.out; unfold Ar.fin at h1; simp only at h1; omega
    go_wp2_with (first
      | (go_at_call 53; (with_reducible refine (end_at A L2 _ _ F _ H2.out.ar hM1m HF.out).mono ?_); rintro e w' ⟨rfl, rfl⟩)
      | (go_at_call 59; (with_reducible refine (head_agg A L2 _ _ ((a : Int) + (size : Int)) (a + size) p _ (by omega) H2.out.ar hM1m hb1 HPp.out).mono ?_); rintro e w3 ⟨rfl, hb3⟩))
    have H3 := Lib.hid (H2.out.below (w2 := w3.alloc (.cells #[.bool p.free, .bool p.marked, .int .i64 (p.owner : Int), .int .i64 (p.size : Int), .int .i64 (size : Int)] 98)) (below_trans' hb3))
    clear hb3
    go_wp2_with (go_at_call 83; (with_reducible refine (putHead_agg A L2 { S with nd := R.nd, spare := R.spare, mem := M1 } _ ((a : Int) + (size : Int)) (a + size) p.free p.marked p.owner p.size size _ (by omega) H3.out.ar hM1m hb1 q1 q2 (by omega)).mono ?_); rintro e w4 ⟨rfl, ht4, hA4⟩)
    go_end0
    refine ⟨rfl, L2, ?_⟩
    rw [HE.out, HPp.out]
    exact H3.out.same ht4 hA4
  · rw [if_neg hlt] at HE
    have HF : Hid (Ar.fin { S with nd := R.nd, spare := R.spare, mem := M1 } = S.mem.length / 16 * 16) := Lib.hid (by unfold Ar.fin; simp only; rw [HM1.out])
    generalize S.mem.length / 16 * 16 = F at hlt HF
    have hge : ¬ ((a : Int) + (size : Int) < (F : Int)) := by omega
    go_wp2_with (first
      | (go_at_call 53; (with_reducible refine (end_at A L2 _ _ F _ H2.out.ar hM1m HF.out).mono ?_); rintro e w' ⟨rfl, rfl⟩))
    go_end0
    refine ⟨rfl, L2, ?_⟩
    rw [HE.out]
    exact H2.out
end Go.Proofs.YtdbaocphglijbaaDoor

/- A free piece is taken out of its list. -/
set_option maxRecDepth 100000
namespace Go.Proofs.YtdbaocphglijbaaDoor
open Go.RowKit Go.Shelf
theorem below_of_alloc {W W1 : World} {o : Obj} (h : Below (W.alloc o).heap.size (W.alloc o) W1) : Below W.heap.size W W1 := ((Below.refl _ W).alloc (Nat.le_refl _) o).trans (h.mono (by simp))
theorem ArE.out {A : Nat} {L : Loc} {S : Ar.St} {f g : Nat → Prop} {w w' : World} (h : ArE A L S f w) (ht : Trn g w w') (hA : ¬ g A) (hM : ¬ g L.M) (hP : ¬ g L.P) (hU : ¬ g L.U) (hN : ¬ g L.N) : ArE A L S f w' :=
  ⟨h.box.trn ht hA, h.mem.trn ht hM, h.pl.trn ht hP, h.us.trn ht hU, h.nd.trn ht hN, h.cap, h.cm, h.fA, h.fM, h.fP, h.fU, h.fN, fun k e => Nat.lt_of_lt_of_le (h.fb k e) ht.size⟩
/-- A block of the call's own is written. -/
theorem Ars.out {A : Nat} {L : Loc} {S S0 : Ar.St} {f : Nat → Prop} {w w1 w2 : World} (h : Ars A L S f w w1) (h0 : ArE A L S0 f w) {B : Nat} (ht : Trn (fun k => k = B) w1 w2) (hB : w.heap.size ≤ B) (hB2 : B < w1.heap.size) : Ars A L S f w w2 :=
  h.same (ht.to (.inr ⟨hB, hB2⟩)) (h.ar.out ht (by have := h0.box.lt; omega) (by have := h0.mem.lt; omega) (by have := h0.pl.lt; omega) (by have := h0.us.lt; omega) (by have := h0.nd.lt; omega))
theorem set5 {w3 : World} {B : Nat} {a b c d e : Value} {t : TypeId} (h : Blk w3 B [a, b, c, d, e] t) (a' b' c' d' e' : Value) :
    Blk (((((w3.setCell ⟨B, 0, none⟩ a').setCell ⟨B, 1, none⟩ b').setCell ⟨B, 2, none⟩ c').setCell ⟨B, 3, none⟩ d').setCell ⟨B, 4, none⟩ e') B [a', b', c', d', e'] t ∧ Trn (fun k => k = B) w3 (((((w3.setCell ⟨B, 0, none⟩ a').setCell ⟨B, 1, none⟩ b').setCell ⟨B, 2, none⟩ c').setCell ⟨B, 3, none⟩ d').setCell ⟨B, 4, none⟩ e') := by
  have h1 := h.set 0 a'
  have h2 := h1.set 1 b'
  have h3 := h2.set 2 c'
  have h4 := h3.set 3 d'
  have h5 := h4.set 4 e'
  exact ⟨h5, ((((Trn.set1 h 0 a').trans (Trn.set h1 (.inl rfl) 1 b')).trans (Trn.set h2 (.inl rfl) 2 c')).trans (Trn.set h3 (.inl rfl) 3 d')).trans (Trn.set h4 (.inl rfl) 4 e')⟩
theorem Blk.drw {W : World} {B : Nat} {l : List Value} {t : TypeId} (h : Blk W B l t) : Blk W.drew B l t := h
theorem box5 (w w3 : World) (a b c d e : Value) (t : TypeId) (h : Below (w.alloc (.cells #[a, b, c, d, e] t)).heap.size (w.alloc (.cells #[a, b, c, d, e] t)) w3) :
    w.heap.size < w3.heap.size ∧ w3.cell? ⟨w.heap.size, 0, none⟩ = some a ∧ w3.cell? ⟨w.heap.size, 1, none⟩ = some b ∧ w3.cell? ⟨w.heap.size, 2, none⟩ = some c ∧ w3.cell? ⟨w.heap.size, 3, none⟩ = some d ∧ w3.cell? ⟨w.heap.size, 4, none⟩ = some e ∧ (∀ i, w3.frozen? ⟨w.heap.size, i, none⟩ = false) ∧ Hid (Blk w3 w.heap.size [a, b, c, d, e] t) := by
  have hb : Blk w3 w.heap.size [a, b, c, d, e] t := (h.block w.heap.size (by simp)).trans (Blk.new w [a, b, c, d, e] t)
  exact ⟨by have := h.size; simp at this; omega, hb.cell rfl, hb.cell rfl, hb.cell rfl, hb.cell rfl, hb.cell rfl, hb.frozen, Lib.hid hb⟩
namespace Ar
/-- A piece is taken out of the lists, if it is free. -/
def takeFree (S : St) (at_ : Nat) : St := if at_ = fin S then S else if (headAt S.mem at_).free then { S with nd := dropN S.nd (headAt S.mem at_).owner S.spare, spare := (headAt S.mem at_).owner } else S
def tookFree (S : St) (at_ : Nat) : Head × Bool := if at_ = fin S then (⟨false, false, 0, 0, 0⟩, false) else (headAt S.mem at_, (headAt S.mem at_).free)
end Ar
set_option maxHeartbeats 4000000 in
theorem takeFree_any (A : Nat) (L : Loc) (S : Ar.St) (f : Nat → Prop) (z : Int) (a : Nat) (w : World) (hz : z = (a : Int)) (h : ArE A L S f w) (hm : S.mem.length ≤ 1048576) (h2 : a ≠ Ar.fin S → a + 8 ≤ S.mem.length)
    (hc : a ≠ Ar.fin S → (Ar.headAt S.mem a).free = true → (Ar.headAt S.mem a).owner < S.nd.length ∧ (Ar.nodeAt S.nd (Ar.headAt S.mem a).owner).n < S.nd.length ∧ (Ar.nodeAt S.nd (Ar.headAt S.mem a).owner).l < S.nd.length) (hc4 : S.nd.length ≤ 200000) :
    Calls Tryd.prog 90 #[.pointer (some ⟨A, 0, none⟩), .int .i64 z] w fun e w' => (e = .returned (.tuple #[.agg #[.bool (Ar.tookFree S a).1.free, .bool (Ar.tookFree S a).1.marked, .int .i64 ((Ar.tookFree S a).1.owner : Int), .int .i64 ((Ar.tookFree S a).1.size : Int), .int .i64 ((Ar.tookFree S a).1.ahead : Int)], .bool (Ar.tookFree S a).2])) ∧ Ars A L (Ar.takeFree S a) f w w' := by
  subst hz
  unfold Ar.takeFree Ar.tookFree
  have hAl := h.box.lt
  by_cases he : a = Ar.fin S
  · rw [if_pos he, if_pos he]
    have hE : Hid (Ar.fin S = a) := Lib.hid he.symm
    clear he hc h2
    have hee : ((a : Int) == (a : Int)) = true := by simp
    go_enter Tryd.func90, Tryd.ntmps90
    go_wp2_with (first
      | (go_at_call 53; (with_reducible refine (end_at A L S _ a _ (h.below ((Below.refl _ w).alloc (Nat.le_refl _) _)) hm hE.out).mono ?_); rintro e w' ⟨rfl, rfl⟩))
    exact bodyPost_ret (v := .tuple #[.agg #[.bool false, .bool false, .int .i64 0, .int .i64 0, .int .i64 0], .bool false]) (by simp [results, Tryd.results90, go_sem]) rfl ⟨rfl, (Ars.start h).below ((Below.refl _ _).alloc (Nat.le_refl _) _)⟩
  · rw [if_neg he, if_neg he]
    obtain ⟨F, hF⟩ : ∃ F, Ar.fin S = F := ⟨_, rfl⟩
    have hne : ((a : Int) == (F : Int)) = false := by rw [beq_eq_false_iff_ne]; omega
    have ha8 := h2 he
    have hc := hc he
    obtain ⟨p, hp⟩ : ∃ p, Ar.headAt S.mem a = p := ⟨_, rfl⟩
    rw [hp] at hc ⊢
    have HPp := Lib.hid hp
    clear hp h2 he
    have hE := Lib.hid hF
    clear hF
    have HA := Lib.hid h
    clear h
    cases hfr : p.free
    · simp only [Bool.false_eq_true, if_false]
      go_enter Tryd.func90, Tryd.ntmps90
      go_wp2_with (first
        | (go_at_call 53; (with_reducible refine (end_at A L S _ F _ (HA.out.below ((Below.refl _ w).alloc (Nat.le_refl _) _)) hm hE.out).mono ?_); rintro e w' ⟨rfl, rfl⟩)
        | (go_at_call 59; (with_reducible refine (head_agg A L S _ _ a p _ rfl (HA.out.below ((Below.refl _ w).alloc (Nat.le_refl _) _)) hm ha8 HPp.out).mono ?_); rintro e w3 ⟨rfl, hb3⟩; obtain ⟨hz, hx0, hx1, hx2, hx3, hx4, hff, hB4⟩ := box5 w w3 _ _ _ _ _ _ hb3; have H3 := Lib.hid ((Ars.start HA.out).below (below_of_alloc hb3)); clear hb3))
      rw [hfr] at *
      have hs4 := set5 hB4.out (.bool false) (.bool p.marked) (.int .i64 (p.owner : Int)) (.int .i64 (p.size : Int)) (.int .i64 (p.ahead : Int))
      have HR := Lib.hid (((H3.out.out HA.out hs4.2 (Nat.le_refl _) hz).below ((Below.refl _ _).alloc (Nat.le_refl _) (.cells #[.bool false, .bool p.marked, .int .i64 (p.owner : Int), .int .i64 (p.size : Int), .int .i64 (p.ahead : Int)] 98))).drw)
      have HS := Lib.hid ((hs4.1.alloc (.cells #[.bool false, .bool p.marked, .int .i64 (p.owner : Int), .int .i64 (p.size : Int), .int .i64 (p.ahead : Int)] 98)).drw)
      clear hs4
      go_region
      go_wp2
      generalize hW : World.drew _ = W4 at HR ⊢
      have hB5 := hW ▸ HS.out
      have y0 := hB5.cell (i := 0) rfl
      have y1 := hB5.cell (i := 1) rfl
      have y2 := hB5.cell (i := 2) rfl
      have y3 := hB5.cell (i := 3) rfl
      have y4 := hB5.cell (i := 4) rfl
      exact bodyPost_ret (v := .tuple #[.agg #[.bool false, .bool p.marked, .int .i64 (p.owner : Int), .int .i64 (p.size : Int), .int .i64 (p.ahead : Int)], .bool false]) (by simp [results, Tryd.results90, go_sem, y0, y1, y2, y3, y4]) rfl ⟨rfl, HR.out⟩
    · simp only [if_true]
      obtain ⟨c1, c2, c3⟩ := hc hfr
      go_enter Tryd.func90, Tryd.ntmps90
      go_wp2_with (first
        | (go_at_call 53; (with_reducible refine (end_at A L S _ F _ (HA.out.below ((Below.refl _ w).alloc (Nat.le_refl _) _)) hm hE.out).mono ?_); rintro e w' ⟨rfl, rfl⟩)
        | (go_at_call 59; (with_reducible refine (head_agg A L S _ _ a p _ rfl (HA.out.below ((Below.refl _ w).alloc (Nat.le_refl _) _)) hm ha8 HPp.out).mono ?_); rintro e w3 ⟨rfl, hb3⟩; obtain ⟨hz, hx0, hx1, hx2, hx3, hx4, hff, hB4⟩ := box5 w w3 _ _ _ _ _ _ hb3; have H3 := Lib.hid ((Ars.start HA.out).below (below_of_alloc hb3)); clear hb3 hx0 hx1 hx2 hx3 hx4 hff))
      rw [hfr] at *
      have HV := Lib.hid ((H3.out.below ((Below.refl _ _).alloc (Nat.le_refl _) (.cells #[.bool true, .bool p.marked, .int .i64 (p.owner : Int), .int .i64 (p.size : Int), .int .i64 (p.ahead : Int)] 98))).drw)
      have HB6 := Lib.hid ((Blk.new w3 [.bool true, .bool p.marked, .int .i64 (p.owner : Int), .int .i64 (p.size : Int), .int .i64 (p.ahead : Int)] 98).drw)
      have HB4 := Lib.hid ((hB4.out.alloc (.cells #[.bool true, .bool p.marked, .int .i64 (p.owner : Int), .int .i64 (p.size : Int), .int .i64 (p.ahead : Int)] 98)).drw)
      clear hB4
      go_region_with (go_at_call 103; refine (chDrop_any A 5 95 (arBox L S) L.N L.cap L.rest S.nd S.spare p.owner _ (HV.out.ar.che hc4) c1 c2 c3).mono ?_; rintro e w5 ⟨rfl, ht, k⟩; have HP := Lib.hid (And.intro ht k); clear ht k)
      have hAl := HA.out.box.lt
      have hNl := HA.out.nd.lt
      have HV5 : Hid (Ars A L { S with nd := Ar.dropN S.nd p.owner S.spare, spare := p.owner } f w w5) := Lib.hid (HV.out.unche HP.out.2 (by simp only [arBox, Ar.dropN_len]; rfl) HP.out.1 (.inl rfl))
      have b6 := HB6.out.trn HP.out.1 (fun e => e.elim (fun e => by omega) (fun e => by omega))
      have b4 := HB4.out.trn HP.out.1 (fun e => e.elim (fun e => by omega) (fun e => by omega))
      have hz5 : w.heap.size < w5.heap.size := Nat.lt_of_lt_of_le hz (by have := HP.out.1.size; simp at this; omega)
      clear HP HV HB6 HB4 H3
      have x0 := b6.cell (i := 0) rfl
      have x1 := b6.cell (i := 1) rfl
      have x2 := b6.cell (i := 2) rfl
      have x3 := b6.cell (i := 3) rfl
      have x4 := b6.cell (i := 4) rfl
      have z0 := b4.cell (i := 0) rfl
      have z1 := b4.cell (i := 1) rfl
      have z2 := b4.cell (i := 2) rfl
      have z3 := b4.cell (i := 3) rfl
      have z4 := b4.cell (i := 4) rfl
      have zf := fun i => b4.frozen i
      have hs4 := set5 b4 (.bool true) (.bool p.marked) (.int .i64 (p.owner : Int)) (.int .i64 (p.size : Int)) (.int .i64 (p.ahead : Int))
      have HR := Lib.hid ((HV5.out.out HA.out hs4.2 (Nat.le_refl _) hz5).drw)
      have HS := Lib.hid (hs4.1.drw)
      have hne1 : w3.heap.size ≠ w.heap.size := by omega
      clear hs4 b6 b4
      go_wp2
      go_region
      go_wp2
      generalize hW : World.drew _ = W4 at HR ⊢
      have hB5 := hW ▸ HS.out
      have y0 := hB5.cell (i := 0) rfl
      have y1 := hB5.cell (i := 1) rfl
      have y2 := hB5.cell (i := 2) rfl
      have y3 := hB5.cell (i := 3) rfl
      have y4 := hB5.cell (i := 4) rfl
      exact bodyPost_ret (v := .tuple #[.agg #[.bool true, .bool p.marked, .int .i64 (p.owner : Int), .int .i64 (p.size : Int), .int .i64 (p.ahead : Int)], .bool true]) (by simp [results, Tryd.results90, go_sem, y0, y1, y2, y3, y4]) rfl ⟨rfl, HR.out⟩
end Go.Proofs.YtdbaocphglijbaaDoor

/- inside, fitting. -/
set_option maxRecDepth 100000
namespace Go.Proofs.YtdbaocphglijbaaDoor
open Go.RowKit Go.Shelf
theorem head_below {w w' : World} (h : Below w.drew.heap.size w.drew w') : Below w.heap.size w w' := (Below.refl _ w).drew.trans h
set_option maxHeartbeats 2000000 in
theorem inside_any (A : Nat) (L : Loc) (S : Ar.St) (f : Nat → Prop) (a n : Nat) (w : World) (h : ArE A L S f w) (hm : S.mem.length ≤ 1048576) (hp : (Ar.headAt S.mem a).size = n) (ha : a + 8 + n ≤ S.mem.length) (ha2 : a + 8 < S.mem.length) :
    Calls Tryd.prog 91 #[.pointer (some ⟨A, 0, none⟩), .int .i64 (a : Int)] w fun e w' => (∃ c, e = .returned (.slice (some ⟨L.M, a + 8, none⟩) n c) ∧ c = S.mem.length - (a + 8)) ∧ Below w.heap.size w w' := by
  have hc := h.cells.1
  have hAl := h.box.lt
  obtain ⟨p, hpp⟩ : ∃ p, Ar.headAt S.mem a = p := ⟨_, rfl⟩
  rw [hpp] at hp
  have HPp := Lib.hid hpp
  clear hpp
  obtain ⟨fr, mk, ow, sz, ah⟩ := p
  simp only at hp
  subst hp
  have hs1 : ((a + 8 : Nat) : Int) = (a : Int) + 8 := by omega
  have HA := Lib.hid h
  clear h
  have hfd : ∀ w : World, (Instr.field 98 (.agg #[.bool fr, .bool mk, .int .i64 (ow : Int), .int .i64 (sz : Int), .int .i64 (ah : Int)]) 3).run Tryd.prog w = .ok (.int .i64 (sz : Int)) w := fun _ => by kernel_rfl
  have hw1 : IntKind.i64.wrap ((a : Int) + 8 + (sz : Int)) = (a : Int) + 8 + (sz : Int) := IntWalk.i64_in _ (by omega)
  have hw2 : (0 : Int) ≤ (a : Int) + 8 + (sz : Int) := by omega
  have hw3 : ((a : Int) + 8 + (sz : Int)).toNat = a + 8 + sz := by omega
  have hw4 : (a : Int) + 8 ≤ (a : Int) + 8 + (sz : Int) := by omega
  have hw5 : (a : Int) + 8 + (sz : Int) ≤ (S.mem.length : Int) := by omega
  have hw7 : ¬ (S.mem.length = a + 8) := by omega
  have hw8 : ¬ (a + 8 = S.mem.length) := by omega
  have hw6 : ((a : Int) + 8).toNat = a + 8 := by omega
  go_enter Tryd.func91, Tryd.ntmps91
  go_wp2
  go_region_with (go_at_call 59; refine (head_agg A L S _ _ a ⟨fr, mk, ow, sz, ah⟩ _ rfl HA.out.drw hm (by omega) HPp.out).mono ?_; rintro e w3 ⟨rfl, hb3⟩; have hc3 := ((head_below hb3).cell (p := ⟨A, 0, none⟩) hAl).trans hc; replace hb3 := Lib.hid (head_below hb3))
  all_goals
    go_wp2
    go_ret
    exact ⟨⟨_, rfl, rfl⟩, hb3.out⟩
def FitRet (S : Ar.St) (c0 : Nat) (w : World) (e : Ending) (w' : World) : Prop :=
  (∃ (at_ : Nat) (ok : Bool), e = .returned (.tuple #[.int .i64 (at_ : Int), .bool ok]) ∧ (ok = true → ∃ c, c0 ≤ c ∧ c < 17 ∧ (Ar.nodeAt S.nd c).n ≠ c ∧ at_ = (Ar.nodeAt S.nd (Ar.nodeAt S.nd c).n).v) ∧ (ok = false → ∀ c, c0 ≤ c → c < 17 → (Ar.nodeAt S.nd c).n = c)) ∧ w = w'
set_option maxHeartbeats 2000000 in
theorem fitting_any (A : Nat) (L : Loc) (S : Ar.St) (f : Nat → Prop) (cost : Nat) (w : World) (h : ArE A L S f w) (h1 : 16 ≤ cost) (h2 : cost ≤ 1048576) (hc1 : 17 ≤ S.nd.length) (hc2 : ∀ c, c < 17 → (Ar.nodeAt S.nd c).n < S.nd.length) (hc4 : S.nd.length ≤ 200000) :
    Calls Tryd.prog 86 #[.pointer (some ⟨A, 0, none⟩), .int .i64 (cost : Int)] w (FitRet S (Ar.cls cost) w) := by
  have hcl := (Ar.cls_spec h1 h2).2.2
  have HA := Lib.hid (h.che hc4)
  have HC := Lib.hid hc2
  clear h hc2
  generalize hcc : Ar.cls cost = c0 at *
  have HCC := Lib.hid hcc
  clear hcc
  go_enter Tryd.func86, Tryd.ntmps86
  go_wp2_with (go_at_call 85; (refine (classOf_any cost _ h1 (by omega)).mono ?_); rintro e w' ⟨rfl, rfl⟩; rw [HCC.out])
  go_loop [4, 5, 6] (fun x b i => ∃ (k x0 : Nat) (ok : Bool), c0 ≤ k ∧ k ≤ 17 ∧ i = .int .i64 (k : Int) ∧ x = .int .i64 (x0 : Int) ∧ b = .bool ok ∧ (ok = true → ∃ c, c0 ≤ c ∧ c < 17 ∧ (Ar.nodeAt S.nd c).n ≠ c ∧ x0 = (Ar.nodeAt S.nd (Ar.nodeAt S.nd c).n).v) ∧ (ok = false → ∀ c, c0 ≤ c → c < k → (Ar.nodeAt S.nd c).n = c)) (fun _ _ i => 17 - (intOf i).toNat)
  case atStart => exact ⟨c0, 0, false, by omega, by omega, rfl, rfl, rfl, by simp, fun _ c h1 h2 => by omega⟩
  case round =>
    obtain ⟨k, x0, ok, hk1, hk2, rfl, rfl, rfl, ht, hf⟩ := hrel
    by_cases hlt : k < 17
    · have hck := HC.out k hlt
      cases ok
      · go_wp2_with (go_at_call 102; (refine (first_any A 5 95 (arBox L S) L.N L.cap L.rest S.nd S.spare k _ HA.out (by omega) hck).mono ?_); rintro e w' ⟨rfl, rfl⟩; unfold encI)
        go_round
        case rel => exact ⟨k + 1, _, _, by omega, by omega, by go_num, rfl, rfl, fun e => ⟨k, hk1, hlt, by simpa using e, rfl⟩, fun e c h1 h2 => by
          by_cases h3 : c < k
          · exact hf (by trivial) c h1 h3
          · obtain rfl : c = k := by omega
            simpa using e⟩
        case measure => simp [intOf]; omega
      · have HT := Lib.hid ht
        clear ht hf
        go_wp2
        go_ret2
        exact ⟨⟨x0, true, rfl, fun _ => HT.out (by trivial), fun e => by cases e⟩, rfl⟩
    · obtain rfl : k = 17 := by omega
      have HT := Lib.hid (And.intro ht hf)
      clear ht hf
      go_wp2
      go_ret2
      exact ⟨⟨x0, ok, rfl, HT.out.1, HT.out.2⟩, rfl⟩
end Go.Proofs.YtdbaocphglijbaaDoor
