/- 3 texts put together: Aslide, Laym, Frem. -/
import Derived.Laws.CopyRow
import Derived.Deep.RegionLaw
import Derived.Test.YtagjjpmhacknpaaDoorJB3
import Derived.Test.YtagjjpmhacknpaaDoorJB5
import Derived.Test.YtagjjpmhacknpaaDoorJB6
/- slide: all blocks to the beginning. -/
set_option maxRecDepth 100000
namespace Go.Proofs.YtagjjpmhacknpaaDoor
open Go.RowKit Go.Shelf
namespace Ar
def slid (S : St) (at_ to_ ahead : Nat) (p : Head) : St := { S with mem := putHd (put S.mem to_ ((S.mem.drop at_).take (costI p.size))) to_ ⟨false, p.marked, p.owner, p.size, ahead⟩, pl := S.pl.set (p.owner - 1) to_ }
inductive SlideOk : St → Nat → Nat → Nat → St → Nat → Nat → Prop
  | done (S : St) (a t h : Nat) : a = fin S → SlideOk S a t h S t h
  | free (S : St) (a t h : Nat) (p : Head) (R : St) (rt rh : Nat) : headAt S.mem a = p → p.free = true → 16 ≤ p.size → a + p.size ≤ fin S → SlideOk S (a + p.size) t h R rt rh → SlideOk S a t h R rt rh
  | block (S : St) (a t h : Nat) (p : Head) (R : St) (rt rh : Nat) : headAt S.mem a = p → p.free = false → p.size ≤ 4096 → 1 ≤ p.owner → p.owner ≤ S.pl.length → t ≤ a → h ≤ 1048576 → a + costI p.size ≤ fin S → SlideOk (slid S a t h p) (a + costI p.size) (t + costI p.size) (costI p.size) R rt rh → SlideOk S a t h R rt rh
theorem fin_le (S : St) : fin S ≤ S.mem.length := by unfold fin; omega
theorem costI_nat {n : Nat} (h : n ≤ 4096) : costI (n : Int) = cost n := by unfold costI; rw [if_pos ⟨by omega, by omega⟩, Int.toNat_natCast]
theorem slid_len (S : St) (a t h : Nat) (p : Head) (hs : p.size ≤ 4096) (h1 : t ≤ a) (h2 : a + costI p.size ≤ S.mem.length) : (slid S a t h p).mem.length = S.mem.length := by
  have hc := cost_ge p.size hs
  rw [costI_nat hs] at h2
  unfold slid
  simp only
  rw [costI_nat hs]
  have hl : ((S.mem.drop a).take (cost p.size)).length = cost p.size := by simp; omega
  rw [putHd_len _ _ _ (by rw [put_len _ _ _ (by rw [hl]; omega)]; omega), put_len _ _ _ (by rw [hl]; omega)]
/-- What sliding leaves as it was. -/
theorem SlideOk.kept {S R : St} {a t h rt rh : Nat} (H : SlideOk S a t h R rt rh) : R.mem.length = S.mem.length ∧ R.pl.length = S.pl.length ∧ R.nd = S.nd ∧ R.us = S.us ∧ R.spare = S.spare ∧ R.low = S.low ∧ R.used = S.used := by
  induction H with
  | done => exact ⟨rfl, rfl, rfl, rfl, rfl, rfl, rfl⟩
  | free S a t h p R rt rh _ _ _ _ _ ih => exact ih
  | block S a t h p R rt rh h1 h2 h3 h4 h5 h6 h7 h8 _ ih =>
    have := slid_len S a t h p h3 h6 (Nat.le_trans h8 (fin_le S))
    exact ⟨ih.1.trans this, ih.2.1.trans (by unfold slid; simp), ih.2.2.1, ih.2.2.2.1, ih.2.2.2.2.1, ih.2.2.2.2.2.1, ih.2.2.2.2.2.2⟩
end Ar
theorem encB_one (c : UInt8) : (encB c).oneCell' = true := rfl
theorem copy_run (ty : TypeId) (M t a n d1 d2 c : Nat) (mem : List UInt8) (W : World) (h : Blk W M (mem.map encB) 5) (hn : n ≤ d1) (ht : t + n ≤ mem.length) (ha : a + n ≤ mem.length) :
    (Builtin.copy_ #[34, 34] ty #[.slice (some ⟨M, t, none⟩) d1 d2, .slice (some ⟨M, a, none⟩) n c]).run Tryd.prog W = .ok (goInt n) (W.setRow M ((Ar.put mem t ((mem.drop a).take n)).map encB).toArray) := by
  have hl : (((mem.drop a).take n).map encB).length = n := by simp; omega
  have hr := run_copy_row (P := Tryd.prog) W 34 34 ty 5 M t d1 d2 ⟨M, a, none⟩ n c (mem.map encB).toArray 5 (((mem.drop a).take n).map encB) Tryd.underlying34 (by kernel_rfl) h (by rw [hl]; exact (Nat.min_eq_left hn).symm) (fun j v hj => by
    have e2 : (⟨M, a, none⟩ : Addr).add j = ⟨M, a + j, none⟩ := by unfold Addr.add; split <;> simp_all
    rw [e2]
    refine h.cell ?_
    obtain ⟨hj1, hj2⟩ := List.getElem?_eq_some_iff.1 hj
    rw [← hj2]
    have hlt : a + j < mem.length := by simp at hj1; omega
    simp [hlt]) (by simp; omega) (fun v hv => by obtain ⟨x, _, rfl⟩ := List.mem_map.1 hv; exact encB_one x)
  rw [hr, hl]
  congr 3
  unfold Ar.put
  have hl2 : ((mem.drop a).take n).length = n := by simp; omega
  simp [hl2]
theorem copy_blk (M : Nat) (m1 m2 : List UInt8) (W : World) (h : Blk W M (m1.map encB) 5) : Blk (W.setRow M (m2.map encB).toArray) M (m2.map encB) 5 ∧ Trn (fun k => k = M) W (W.setRow M (m2.map encB).toArray) := by
  have hs : (W.setRow M (m2.map encB).toArray).heap.size = W.heap.size := by simp [World.setRow]
  refine ⟨setRow_heap W M _ _ _ (0, 0) h, ⟨rfl, rfl, rfl, by omega, fun k _ hk => setRow_other W M k _ hk, fun k o ho hb => (setRow_other W M k _ (fun e => ?_)).trans ho⟩⟩
  subst e
  rw [show W.heap[k]? = _ from h] at ho
  cases ho
  cases hb
/-- One round. -/
structure SlR (A : Nat) (L : Loc) (S : Ar.St) (f : Nat → Prop) (R : Ar.St) (rt rh : Nat) (w : World) (S' : Ar.St) (a t h : Nat) (wr : World) : Prop where
  ok : Ar.SlideOk S' a t h R rt rh
  ar : Ars A L S' f w wr
  ml : S'.mem.length = S.mem.length
  pl : S'.pl.length = S.pl.length
  le : a ≤ Ar.fin S
theorem ArE.freshRing {A : Nat} {L : Loc} {S : Ar.St} {f : Nat → Prop} {w w6 : World} {N : Nat} (h : ArE A L S f w) (hb : Below w.heap.size w w6) (hN : Blk w6 N (encNs Ar.ring0) 93) (hN0 : w.heap.size ≤ N) :
    Trn f w ((w6.setCell ⟨A, 5, none⟩ (.slice (some ⟨N, 0, none⟩) 17 17)).setCell ⟨A, 6, none⟩ (.int .i64 0)) ∧ ArE A { L with N := N, cap := 17, rest := [] } { S with nd := Ar.ring0, spare := 0 } (grow f w ((w6.setCell ⟨A, 5, none⟩ (.slice (some ⟨N, 0, none⟩) 17 17)).setCell ⟨A, 6, none⟩ (.int .i64 0))) ((w6.setCell ⟨A, 5, none⟩ (.slice (some ⟨N, 0, none⟩) 17 17)).setCell ⟨A, 6, none⟩ (.int .i64 0)) := by
  have h6 := h.below hb
  have hA5 := h6.box.set 5 (.slice (some ⟨N, 0, none⟩) 17 17)
  have t1 : Trn (fun k => k = A) w6 (w6.setCell ⟨A, 5, none⟩ (.slice (some ⟨N, 0, none⟩) 17 17)) := Trn.set1 h6.box 5 _
  have hA6 := hA5.set 6 (.int .i64 0)
  have t2 := t1.trans (Trn.set hA5 (.inl rfl) 6 (.int .i64 0))
  have tt : Trn f w ((w6.setCell ⟨A, 5, none⟩ (.slice (some ⟨N, 0, none⟩) 17 17)).setCell ⟨A, 6, none⟩ (.int .i64 0)) := (Trn.of_below hb).trans (t2.to (.inl h.fA))
  have hNA : N ≠ A := by have := h.box.lt; omega
  refine ⟨tt, ⟨?_, h6.mem.trn t2 (fun e => h6.box.ne h6.mem (by decide) e.symm), h6.pl.trn t2 (fun e => h6.box.ne h6.pl (by decide) e.symm), h6.us.trn t2 (fun e => h6.box.ne h6.us (by decide) e.symm), ?_, ?_, ?_, .inl h.fA, .inl h.fM, .inl h.fP, .inl h.fU, ?_, ?_⟩⟩
  · exact hA6
  · show Blk _ N (encNs Ar.ring0 ++ []) _
    rw [List.append_nil]
    exact hN.trn t2 hNA
  · show 0 + 3 * (Ar.ring 17).length = 3 * 17
    rw [Ar.ring_len]
  · show 17 ≤ maxLen
    unfold maxLen; omega
  · exact .inr ⟨hN0, by have := hN.lt; simpa [World.setCell] using this⟩
  · intro k e
    exact e.elim (fun e => Nat.lt_of_lt_of_le (h.fb k e) tt.size) (fun e => e.2)
theorem Ar.ring_ok (c : Nat) (h : c < 17) : c < Ar.ring0.length ∧ (Ar.nodeAt Ar.ring0 c).n < Ar.ring0.length := by
  have : ∀ c : Fin 17, (Ar.nodeAt (Ar.ring 17) c.1).n < 17 := by decide +kernel
  unfold Ar.ring0
  rw [Ar.ring_len]
  exact ⟨h, this ⟨c, h⟩⟩
def SlideRet (A : Nat) (R : Ar.St) (rt rh : Nat) (f : Nat → Prop) (w : World) (e : Ending) (w' : World) : Prop :=
  e = .returned (.tuple #[]) ∧ ∃ L', Ars A L' (if rt < Ar.fin R then Ar.putFree { R with nd := Ar.ring0, spare := 0 } rt (Ar.fin R - rt) rh else { R with nd := Ar.ring0, spare := 0 }) f w w'
theorem end_at' (A : Nat) (L : Loc) (S : Ar.St) (f : Nat → Prop) (F m : Nat) (w : World) (h : ArE A L S f w) (hm : S.mem.length = m) (hm2 : m ≤ 1048576) (hF : F = m / 16 * 16) :
    Calls Tryd.prog 26 #[.pointer (some ⟨A, 0, none⟩)] w fun e w' => e = .returned (.int .i64 (F : Int)) ∧ w = w' := end_at A L S f F w h (by omega) (by unfold Ar.fin; rw [hm, hF])
set_option maxHeartbeats 8000000 in
theorem slide_any (A : Nat) (L : Loc) (S R : Ar.St) (rt rh : Nat) (f : Nat → Prop) (w : World) (hA : ArE A L S f w) (hm : S.mem.length ≤ 1048576) (hpl : S.pl.length ≤ 1000000) (hok : Ar.SlideOk S 0 0 0 R rt rh) (hrt : rt % 16 = 0 ∧ rt ≤ Ar.fin R ∧ rh ≤ 1048576) :
    Calls Tryd.prog 39 #[.pointer (some ⟨A, 0, none⟩)] w (SlideRet A R rt rh f w) := by
  obtain ⟨m, hmm⟩ : ∃ m, S.mem.length = m := ⟨_, rfl⟩
  obtain ⟨F, hF⟩ : ∃ F, F = m / 16 * 16 := ⟨_, rfl⟩
  have hFS : Ar.fin S = F := by unfold Ar.fin; rw [hmm, hF]
  have h0 : Hid (SlR A L S f R rt rh w S 0 0 0 w) := Lib.hid ⟨hok, Ars.start hA, rfl, rfl, by omega⟩
  have hm2 : m ≤ 1048576 := by omega
  have hFm : F ≤ m := by omega
  have HMM := Lib.hid hmm
  have HF := Lib.hid hF
  have HFS := Lib.hid hFS
  have HA := Lib.hid hA
  have hK := hok.kept
  have HK := Lib.hid hK
  clear hmm hF hFS hA hok hm hK
  go_enter Tryd.func39, Tryd.ntmps39
  go_wp2
  go_loopw [2, 3, 4] (fun to_ ah at_ wr => ∃ (S' : Ar.St) (a t h : Nat), to_ = .int .i64 (t : Int) ∧ ah = .int .i64 (h : Int) ∧ at_ = .int .i64 (a : Int) ∧ Hid (SlR A L S f R rt rh w S' a t h wr)) (fun _ _ at_ _ => F + 1 - (intOf at_).toNat)
  case atStart => exact ⟨S, 0, 0, 0, rfl, rfl, rfl, h0⟩
  case round =>
    obtain ⟨S', a, t, h, rfl, rfl, rfl, HR⟩ := hrel
    clear h0
    obtain ⟨ok, ar, ml, pl, le⟩ := HR.out
    have hml : S'.mem.length = m := ml.trans HMM.out
    have hF' : Ar.fin S' = F := by unfold Ar.fin; rw [hml, HF.out]
    rw [HFS.out] at le
    have HAR := Lib.hid ar
    have HML := Lib.hid hml
    have HPL := Lib.hid pl
    clear HR ar ml hml pl
    cases ok with
    | done _ _ _ _ he =>
      rw [hF'] at he
      have hge : ¬ (a < F) := by omega
      have hcA5 := HAR.out.ar.cells.2.2.2.2.2.1
      have hcA6 := HAR.out.ar.cells.2.2.2.2.2.2
      have HF' := Lib.hid hF'
      clear hF' he
      go_wp2_with (first
        | (go_at_call 26; (with_reducible refine (end_at' A L R _ F m _ HAR.out.ar HML.out hm2 HF.out).mono ?_); rintro e w' ⟨rfl, rfl⟩)
        | (go_at_call 24; refine (newChains_any _).mono ?_; rintro e w6 ⟨N, rfl, hN, hN0, hb6⟩; have hbx6 := HAR.out.ar.box.kept (hb6.block _ HAR.out.ar.box.lt); have x5 := hbx6.cell (i := 5) rfl; have x6 := hbx6.cell (i := 6) rfl; have xf := fun i => hbx6.frozen i; have FR := Lib.hid (HAR.out.more (HAR.out.ar.freshRing hb6 hN hN0).1 (HAR.out.ar.freshRing hb6 hN hN0).2); clear hN hb6 hbx6; refine Hid.out ?_))
      refine Lib.hid ?_
      unfold encI at x6
      by_cases hlt : rt < F
      · have h16 : (F - rt) % 16 = 0 ∧ 16 ≤ F - rt ∧ (rt + (F - rt)) % 16 = 0 := by have := HF.out; omega
        have hc := (Ar.cls_spec (s := F - rt) h16.2.1 (by omega)).2.2
        have HRG := Lib.hid (Ar.ring_ok (Ar.cls (F - rt)) (by omega))
        have HEq : Hid ((if rt < Ar.fin R then Ar.putFree { R with nd := Ar.ring0, spare := 0 } rt (Ar.fin R - rt) rh else { R with nd := Ar.ring0, spare := 0 }) = Ar.putFree { R with nd := Ar.ring0, spare := 0 } rt (F - rt) rh) := Lib.hid (by rw [HF'.out, if_pos hlt])
        go_wp2_with (first
          | (go_at_call 26; (with_reducible refine (end_at' A _ { R with nd := Ar.ring0, spare := 0 } _ F m _ FR.out.ar HML.out hm2 HF.out).mono ?_); rintro e w' ⟨rfl, rfl⟩)
          | (go_at_call 25; (refine (putFree_at A _ { R with nd := Ar.ring0, spare := 0 } _ (rt : Int) ((F : Int) - (rt : Int)) (rh : Int) rt (F - rt) rh _ FR.out.ar.tight rfl (by omega) rfl (by show R.mem.length ≤ _; rw [HML.out]; exact hm2) h16.2.1 (by show _ ≤ R.mem.length; rw [HML.out]; omega) h16.2.2 hrt.2.2 HRG.out.1 HRG.out.2 (by show 0 < Ar.ring0.length; have := HRG.out.1; omega) (by show Ar.ring0.length < 200000; unfold Ar.ring0; rw [Ar.ring_len]; omega)).mono ?_); rintro e w8 ⟨rfl, L8, hA8⟩))
        go_end0
        refine ⟨rfl, L8, ?_⟩
        rw [HEq.out]
        exact FR.out.callR hA8
      · have HEq : Hid ((if rt < Ar.fin R then Ar.putFree { R with nd := Ar.ring0, spare := 0 } rt (Ar.fin R - rt) rh else { R with nd := Ar.ring0, spare := 0 }) = { R with nd := Ar.ring0, spare := 0 }) := Lib.hid (by rw [HF'.out, if_neg hlt])
        go_wp2_with (first
          | (go_at_call 26; (with_reducible refine (end_at' A _ { R with nd := Ar.ring0, spare := 0 } _ F m _ FR.out.ar HML.out hm2 HF.out).mono ?_); rintro e w' ⟨rfl, rfl⟩))
        go_end0
        refine ⟨rfl, { L with N := N, cap := 17, rest := [] }, ?_⟩
        rw [HEq.out]
        exact FR.out
    | free _ _ _ _ p _ _ _ hp hfr h16 hle hnx =>
      rw [hF'] at hle
      have hlt : a < F := by omega
      obtain ⟨pf, mk, ow, sz, ah⟩ := p
      simp only at hfr h16 hle hnx
      subst hfr
      have HP := Lib.hid hp
      have HNX := Lib.hid hnx
      clear hp hnx hF'
      go_wp2_with (first
        | (go_at_call 26; (with_reducible refine (end_at' A L S' _ F m _ HAR.out.ar HML.out hm2 HF.out).mono ?_); rintro e w' ⟨rfl, rfl⟩)
        | (go_at_call 32; (with_reducible refine (head_agg A L S' _ _ a ⟨true, mk, ow, sz, ah⟩ _ rfl HAR.out.ar (by rw [HML.out]; omega) (by rw [HML.out]; omega) HP.out).mono ?_); rintro e w1 ⟨rfl, hb1⟩; have AR1 := Lib.hid (HAR.out.below hb1); clear hb1)
        | (go_at_call 33; (refine (takes_agg ⟨true, mk, ow, sz, ah⟩ sz _ rfl).mono ?_); rintro e w2 ⟨rfl, hb2⟩; have hbox := (Blk.new w1 [.bool true, .bool mk, .int .i64 (ow : Int), .int .i64 (sz : Int), .int .i64 (ah : Int)] 69).kept (hb2.block _ (by simp)); have y0 := hbox.cell (i := 0) rfl; have AR2 := Lib.hid (AR1.out.below (below_of_alloc hb2)); clear hb2 AR1 hbox))
      go_roundw
      case rel => exact ⟨S', a + sz, t, h, rfl, rfl, by go_num, Lib.hid ⟨HNX.out, AR2.out, by rw [HML.out, HMM.out], HPL.out, by rw [HFS.out]; exact hle⟩⟩
      case measure => simp [intOf]; omega
    | block _ _ _ _ p _ _ _ hp hfr hsz ho1 ho2 hta hh hle hnx =>
      rw [hF'] at hle
      obtain ⟨pf, mk, ow, sz, ah⟩ := p
      simp only at hfr hsz ho1 ho2 hle
      subst hfr
      have hci := Ar.costI_nat hsz
      have hcg := Ar.cost_ge sz hsz
      rw [hci] at hle
      generalize hcn : Ar.cost sz = cn at hle hci hcg
      have hlt : a < F := by omega
      have HP := Lib.hid hp
      have HNX := Lib.hid hnx
      have HCI := Lib.hid hci
      clear hp hnx hF' hcn hci
      go_wp2_with (first
        | (go_at_call 26; (with_reducible refine (end_at' A L S' _ F m _ HAR.out.ar HML.out hm2 HF.out).mono ?_); rintro e w' ⟨rfl, rfl⟩)
        | (go_at_call 32; (with_reducible refine (head_agg A L S' _ _ a ⟨false, mk, ow, sz, ah⟩ _ rfl HAR.out.ar (by rw [HML.out]; omega) (by rw [HML.out]; omega) HP.out).mono ?_); rintro e w1 ⟨rfl, hb1⟩; have AR1 := Lib.hid (HAR.out.below hb1); clear hb1)
        | (go_at_call 33; (refine (takes_agg ⟨false, mk, ow, sz, ah⟩ cn _ HCI.out).mono ?_); rintro e w2 ⟨rfl, hb2⟩; have hbox := (Blk.new w1 [.bool false, .bool mk, .int .i64 (ow : Int), .int .i64 (sz : Int), .int .i64 (ah : Int)] 69).kept (hb2.block _ (by simp)); have y0 := hbox.cell (i := 0) rfl; have AR2 := Lib.hid (AR1.out.below (below_of_alloc hb2)); have HBX := Lib.hid hbox; have hz2 : w1.heap.size < w2.heap.size := (by have h9 := hb2.size; simp at h9; omega); clear hb2 hbox))
      have hbM := AR2.out.ar.mem
      have hcA := AR2.out.ar.cells.1
      rw [HML.out] at hcA
      have hta2 : t + cn ≤ m := by omega
      have hcp := fun ty => copy_run ty L.M t a cn (m - t) (m - t) (m - a) S'.mem w2.drew hbM (by omega) (by rw [HML.out]; omega) (by rw [HML.out]; omega)
      have hw1 : IntKind.i64.wrap ((a : Int) + (cn : Int)) = (a : Int) + (cn : Int) := IntWalk.i64_in _ (by omega)
      have hw2 : (0 : Int) ≤ (a : Int) + (cn : Int) := by omega
      have hw3 : ((a : Int) + (cn : Int)).toNat = a + cn := by omega
      have hw4 : (a : Int) ≤ (a : Int) + (cn : Int) := by omega
      have hw5 : (a : Int) + (cn : Int) ≤ (m : Int) := by omega
      have hw6 : ¬ (m = t) := by omega
      have hw7 : ¬ (m = a) := by omega
      have hw8 : (t : Int) ≤ (m : Int) := by omega
      have hw9 : ¬ (a = m) := by omega
      have hw10 : ¬ (t = m) := by omega
      have CB := Lib.hid (copy_blk L.M S'.mem (Ar.put S'.mem t ((S'.mem.drop a).take cn)) w2.drew hbM)
      have nf := AR1.out.ar.notFive (Nat.le_refl _)
      have hz0 : w.heap.size ≤ w1.heap.size := AR1.out.trn.size
      have hpl3 : (Ar.put S'.mem t ((S'.mem.drop a).take cn)).length = m := by
        have hl : ((S'.mem.drop a).take cn).length = cn := by simp; rw [HML.out]; omega
        rw [Ar.put_len _ _ _ (by rw [hl, HML.out]; omega), HML.out]
      have HL3 := Lib.hid hpl3
      have how : ow < 1048576 := by have := HPL.out; omega
      have AR3 := Lib.hid (AR2.out.drw.call (CB.out.2.mono (fun k _ e => .inr (.inl e))) (AR2.out.drw.ar.tight.setMem CB.out.1 (by rw [hpl3, HML.out]) (fun k hk hs => CB.out.2.block k hs hk) CB.out.2.size))
      have HB3 := Lib.hid (HBX.out.drw.trn CB.out.2 (fun e => nf (.inr (.inl e))))
      clear hw1 hw2 hw3 hw4 hw5 hpl3
      go_region
      clear hcp hbM hcA y0
      generalize hW3 : World.setRow _ _ _ = W3 at AR3 HB3 ⊢
      have hz3 : w1.heap.size < W3.heap.size := HB3.out.lt
      have z3 := HB3.out.cell (i := 3) rfl
      have z4 := HB3.out.cell (i := 4) rfl
      have z0 := HB3.out.cell (i := 0) rfl
      have z1 := HB3.out.cell (i := 1) rfl
      have z2 := HB3.out.cell (i := 2) rfl
      have zf := HB3.out.frozen 4
      clear hW3 CB AR2 HBX
      have AR4 := Lib.hid (AR3.out.out HA.out (Trn.set1 HB3.out 4 (.int .i64 (h : Int))) hz0 hz3)
      have HB4 := Lib.hid (HB3.out.set 4 (.int .i64 (h : Int)))
      go_wp2_with (go_at_call 45; (with_reducible refine (putHead_agg A L { S' with mem := Ar.put S'.mem t ((S'.mem.drop a).take cn) } _ (t : Int) t false mk ow sz h _ rfl AR4.out.ar.tight (by show (Ar.put S'.mem t ((S'.mem.drop a).take cn)).length ≤ _; rw [HL3.out]; exact hm2) (by show t + 8 ≤ (Ar.put S'.mem t ((S'.mem.drop a).take cn)).length; rw [HL3.out]; omega) how (by omega) (by omega)).mono ?_); rintro e w5 ⟨rfl, ht5, hA5⟩; refine Hid.out ?_)
      refine Lib.hid ?_
      have AR5 := Lib.hid ((AR4.out.call ht5 hA5).drw)
      have HB5 := Lib.hid ((HB4.out.trn ht5 nf).drw)
      clear ht5 hA5 AR4 AR3 HB3 HB4 z0 z1 z2 z3 z4 zf
      have z2 := HB5.out.cell (i := 2) rfl
      go_wp2
      have hpl1 : ow - 1 < S'.pl.length := by omega
      have hpl2 : S'.pl.length ≤ 1000000 := by have := HPL.out; omega
      have how2 : (ow : Int) = ((ow - 1 : Nat) : Int) + 1 := by omega
      have HOW := Lib.hid how2
      clear how2
      go_region_with (go_at_call 51; refine (move_any A L _ _ (ow : Int) (ow - 1) t _ AR5.out.ar.tight HOW.out hpl1 hpl2 (by omega)).mono ?_; rintro e w6 ⟨rfl, ht6, hA6⟩; have AR6 := Lib.hid (AR5.out.call ht6 hA6); clear ht6 hA6)
      go_wp2
      go_roundw
      case rel => exact ⟨Ar.slid S' a t h ⟨false, mk, ow, sz, ah⟩, a + cn, t + cn, cn, by go_num, rfl, by go_num, Lib.hid ⟨by have := HNX.out; simp only [HCI.out] at this; exact this, by unfold Ar.slid; simp only [HCI.out]; exact AR6.out, by rw [Ar.slid_len S' a t h ⟨false, mk, ow, sz, ah⟩ hsz hta (by simp only [HCI.out]; rw [HML.out]; omega), HML.out, HMM.out], by unfold Ar.slid; simp only [List.length_set]; exact HPL.out, by rw [HFS.out]; exact hle⟩⟩
      case measure => simp [intOf]; omega
end Go.Proofs.YtagjjpmhacknpaaDoor

/- The memory as pieces, one behind the other. -/
set_option maxRecDepth 100000
namespace Go.Proofs.YtagjjpmhacknpaaDoor
namespace Ar
structure Pc where
  free : Bool
  marked : Bool
  owner : Nat
  size : Nat
  data : List UInt8
def Pc.takes (p : Pc) : Nat := p.data.length + 8
def Pc.hd (p : Pc) (a : Nat) : Head := ⟨p.free, p.marked, p.owner, p.size, a⟩
def Pc.bytes (p : Pc) (a : Nat) : List UInt8 := byte8 (p.hd a).word ++ p.data
structure Pc.Ok (p : Pc) : Prop where
  m16 : p.takes % 16 = 0
  ge : 16 ≤ p.takes
  own : p.owner < 1048576
  fr : p.free = true → p.size = p.takes
  bl : p.free = false → p.size ≤ 4096 ∧ cost p.size = p.takes
def lay : Nat → List Pc → List UInt8
  | _, [] => []
  | a, p :: r => p.bytes a ++ lay p.takes r
def total : List Pc → Nat
  | [] => 0
  | p :: r => p.takes + total r
def lastT : Nat → List Pc → Nat
  | a, [] => a
  | _, p :: r => lastT p.takes r
theorem bytes_len (p : Pc) (a : Nat) : (p.bytes a).length = p.takes := by unfold Pc.bytes Pc.takes byte8; rw [List.length_append, lastB_len]; omega
theorem total_app : ∀ xs ys, total (xs ++ ys) = total xs + total ys
  | [], ys => by simp [total]
  | p :: r, ys => by simp [total, total_app r ys, Nat.add_assoc]
theorem lay_len : ∀ a xs, (lay a xs).length = total xs
  | _, [] => rfl
  | a, p :: r => by simp [lay, total, bytes_len, lay_len]
theorem lay_app : ∀ a xs ys, lay a (xs ++ ys) = lay a xs ++ lay (lastT a xs) ys
  | _, [], _ => rfl
  | a, p :: r, ys => by simp [lay, lastT, lay_app]
theorem lastT_app : ∀ a xs ys, lastT a (xs ++ ys) = lastT (lastT a xs) ys
  | _, [], _ => rfl
  | a, p :: r, ys => by simp [lastT, lastT_app]
/-- Piece p begins at v. -/
def At : List Pc → Nat → Pc → Prop
  | [], _, _ => False
  | q :: ys, v, p => (v = 0 ∧ p = q) ∨ ∃ v', v = q.takes + v' ∧ At ys v' p
theorem at_app : ∀ (xs ys : List Pc) (v : Nat) (p : Pc), At (xs ++ ys) v p ↔ At xs v p ∨ ∃ v', v = total xs + v' ∧ At ys v' p
  | [], ys, v, p => by simp [At, total]
  | q :: xs, ys, v, p => by
    show (_ ∨ _) ↔ ((_ ∨ _) ∨ _)
    constructor
    · rintro (h | ⟨v', rfl, h⟩)
      · exact .inl (.inl h)
      · rcases (at_app xs ys v' p).1 h with k | ⟨v2, e, k⟩
        · exact .inl (.inr ⟨v', rfl, k⟩)
        · exact .inr ⟨v2, by simp [total, e, Nat.add_assoc], k⟩
    · rintro ((h | ⟨v', rfl, h⟩) | ⟨v2, rfl, h⟩)
      · exact .inl h
      · exact .inr ⟨v', rfl, (at_app xs ys v' p).2 (.inl h)⟩
      · exact .inr ⟨total xs + v2, by simp [total, Nat.add_assoc], (at_app xs ys _ p).2 (.inr ⟨v2, rfl, h⟩)⟩
theorem at_split : ∀ {xs : List Pc} {v : Nat} {p : Pc}, At xs v p → ∃ us bs, xs = us ++ p :: bs ∧ total us = v
  | q :: ys, v, p, h => by
    rcases h with ⟨rfl, rfl⟩ | ⟨v', rfl, h⟩
    · exact ⟨[], ys, rfl, rfl⟩
    · obtain ⟨us, bs, rfl, rfl⟩ := at_split h
      exact ⟨q :: us, bs, rfl, rfl⟩
theorem at_mem {xs : List Pc} {v : Nat} {p : Pc} (h : At xs v p) : p ∈ xs := by
  obtain ⟨us, bs, rfl, _⟩ := at_split h
  simp
theorem at_mid (us bs : List Pc) (p : Pc) : At (us ++ p :: bs) (total us) p := (at_app us _ _ p).2 (.inr ⟨0, by simp, .inl ⟨rfl, rfl⟩⟩)
theorem at_le {xs : List Pc} {v : Nat} {p : Pc} (h : At xs v p) : v + p.takes ≤ total xs := by
  obtain ⟨us, bs, rfl, rfl⟩ := at_split h
  rw [total_app]; simp only [total]; omega
theorem takes_pos (p : Pc) : 0 < p.takes := by unfold Pc.takes; omega
theorem at_uniq : ∀ {xs : List Pc} {v : Nat} {p q : Pc}, At xs v p → At xs v q → p = q
  | x :: ys, v, p, q, h, k => by
    have := takes_pos x
    rcases h with ⟨rfl, rfl⟩ | ⟨v', rfl, h⟩
    · rcases k with ⟨_, rfl⟩ | ⟨v2, e, _⟩
      · rfl
      · omega
    · rcases k with ⟨e, _⟩ | ⟨v2, e, k⟩
      · omega
      · obtain rfl : v' = v2 := by omega
        exact at_uniq h k
theorem total_mod : ∀ {xs : List Pc}, (∀ p ∈ xs, p.Ok) → total xs % 16 = 0
  | [], _ => rfl
  | p :: r, h => by
    have h1 := (h p (List.mem_cons_self ..)).m16
    have h2 := total_mod (xs := r) (fun q hq => h q (List.mem_cons_of_mem _ hq))
    simp only [total]; omega
theorem hd_fits {p : Pc} {a m : Nat} (h : p.Ok) (ht : p.takes ≤ 1048576) (ha : a ≤ 1048576) (_hm : m = m) : (p.hd a).fits := by
  refine ⟨h.own, ?_, by show a < _; omega⟩
  show p.size < 2097152
  cases hf : p.free
  · have := (h.bl hf).1; omega
  · have := h.fr hf; omega
theorem headAt_app (X D Y : List UInt8) (p : Head) (hp : p.fits) : headAt (X ++ (byte8 p.word ++ D) ++ Y) X.length = p := by
  unfold headAt
  have e : ((X ++ (byte8 p.word ++ D) ++ Y).drop X.length).take 8 = byte8 p.word := by
    rw [List.append_assoc, List.drop_left' rfl, List.append_assoc, List.take_left' (show (byte8 p.word).length = 8 from lastB_len 8 _)]
  rw [e]
  unfold byte8
  rw [wordOf_lastB, Nat.mod_eq_of_lt (word_lt hp), headOf_word hp]
theorem put_app (X B Y l : List UInt8) (h : B.length = l.length) : put (X ++ B ++ Y) X.length l = X ++ l ++ Y := by
  unfold put
  have e1 : (X ++ B ++ Y).take X.length = X := by rw [List.append_assoc, List.take_left' rfl]
  have e2 : (X ++ B ++ Y).drop (X.length + l.length) = Y := List.drop_left' (by simp [h])
  rw [e1, e2]
theorem putHd_app (X B Y : List UInt8) (p : Head) (h : B.length = 8) : putHd (X ++ B ++ Y) X.length p = X ++ byte8 p.word ++ Y := by
  unfold putHd
  exact put_app X B Y _ (by rw [h]; exact (lastB_len 8 _).symm)
theorem lastT_le : ∀ {xs : List Pc} {a m : Nat}, a ≤ m → total xs ≤ m → lastT a xs ≤ m
  | [], a, m, h, _ => h
  | p :: r, a, m, _, h => lastT_le (xs := r) (by simp only [total] at h; omega) (by simp only [total] at h; omega)
/-- The new free piece. -/
def mkFree (k : Nat) (raw : List UInt8) : Pc := ⟨true, false, k, raw.length, raw.drop 8⟩
theorem mkFree_takes {k : Nat} {raw : List UInt8} (h : 8 ≤ raw.length) : (mkFree k raw).takes = raw.length := by unfold mkFree Pc.takes; simp; omega
theorem mkFree_ok {k : Nat} {raw : List UInt8} (h : 16 ≤ raw.length) (h16 : raw.length % 16 = 0) (hk : k < 1048576) : (mkFree k raw).Ok := by
  have e := mkFree_takes (k := k) (raw := raw) (by omega)
  exact ⟨by rw [e]; exact h16, by rw [e]; exact h, hk, fun _ => e.symm, fun h => by cases h⟩
/-- putFree on a gap. -/
theorem putFree_mem (S : St) (xs ys : List Pc) (raw rest : List UInt8) (a' : Nat) (hm : S.mem = lay 0 xs ++ raw ++ lay a' ys ++ rest) (hr : rest.length < 16) (h16 : 16 ≤ raw.length) (hr16 : raw.length % 16 = 0)
    (hxs : ∀ p ∈ xs, p.Ok) (hys : ∀ p ∈ ys, p.Ok) (ha' : a' ≤ 1048576) (hl : S.mem.length ≤ 1048576) :
    (putFree S (total xs) raw.length (lastT 0 xs)).mem = lay 0 (xs ++ mkFree (push S.nd S.spare (cls raw.length) (total xs)).k raw :: ys) ++ rest := by
  have hlen : S.mem.length = total xs + raw.length + total ys + rest.length := by rw [hm]; simp [lay_len]; omega
  have tx := total_mod hxs
  have ty := total_mod hys
  unfold putFree
  simp only
  generalize (push S.nd S.spare (cls raw.length) (total xs)).k = k
  have e1 : putHd S.mem (total xs) ⟨true, false, k, raw.length, lastT 0 xs⟩ = lay 0 xs ++ (mkFree k raw).bytes (lastT 0 xs) ++ (lay a' ys ++ rest) := by
    have hs : S.mem = lay 0 xs ++ raw.take 8 ++ (raw.drop 8 ++ lay a' ys ++ rest) := by
      rw [hm]
      simp only [List.append_assoc]
      rw [← List.append_assoc (raw.take 8), List.take_append_drop]
    rw [hs]
    have := putHd_app (lay 0 xs) (raw.take 8) (raw.drop 8 ++ lay a' ys ++ rest) ⟨true, false, k, raw.length, lastT 0 xs⟩ (by simp; omega)
    rw [lay_len] at this
    rw [this]
    unfold Pc.bytes mkFree Pc.hd
    simp only [List.append_assoc]
  rw [e1]
  have hX : (lay 0 xs ++ (mkFree k raw).bytes (lastT 0 xs)).length = total xs + raw.length := by
    rw [List.length_append, lay_len, bytes_len, mkFree_takes (by omega)]
  cases ys with
  | nil =>
    have hge : ¬ (total xs + raw.length < S.mem.length / 16 * 16) := by simp [total] at hlen; omega
    rw [if_neg hge, lay_app]
    simp [lay]
  | cons q ys =>
    have hq := hys q (List.mem_cons_self ..)
    have hq16 := hq.ge
    simp only [total] at hlen
    have hlt : total xs + raw.length < S.mem.length / 16 * 16 := by omega
    rw [if_pos hlt]
    have e2 : lay 0 xs ++ (mkFree k raw).bytes (lastT 0 xs) ++ (lay a' (q :: ys) ++ rest) = (lay 0 xs ++ (mkFree k raw).bytes (lastT 0 xs)) ++ (byte8 (q.hd a').word ++ q.data) ++ (lay q.takes ys ++ rest) := by
      simp only [lay, Pc.bytes, List.append_assoc]
    rw [e2]
    have hfit := hd_fits (p := q) (a := a') (m := 0) hq (by omega) ha' rfl
    have h3 := headAt_app (lay 0 xs ++ (mkFree k raw).bytes (lastT 0 xs)) q.data (lay q.takes ys ++ rest) (q.hd a') hfit
    rw [hX] at h3
    rw [h3]
    have h4 := putHd_app (lay 0 xs ++ (mkFree k raw).bytes (lastT 0 xs)) (byte8 (q.hd a').word) (q.data ++ (lay q.takes ys ++ rest)) ⟨q.free, q.marked, q.owner, q.size, raw.length⟩ (lastB_len 8 _)
    rw [hX] at h4
    have e3 : (lay 0 xs ++ (mkFree k raw).bytes (lastT 0 xs)) ++ (byte8 (q.hd a').word ++ q.data) ++ (lay q.takes ys ++ rest) = (lay 0 xs ++ (mkFree k raw).bytes (lastT 0 xs)) ++ byte8 (q.hd a').word ++ (q.data ++ (lay q.takes ys ++ rest)) := by simp only [List.append_assoc]
    rw [e3]
    refine h4.trans ?_
    rw [lay_app]
    simp only [lay, mkFree_takes (k := k) (raw := raw) (by omega), Pc.bytes, Pc.hd, List.append_assoc]
end Ar
end Go.Proofs.YtagjjpmhacknpaaDoor

/- Pieces beside a gap; what is free among them. -/
set_option maxRecDepth 100000
namespace Go.Proofs.YtagjjpmhacknpaaDoor
namespace Ar
/-- Piece p begins at v, with a gap of g bytes behind xs. -/
def AtG (xs : List Pc) (g : Nat) (ys : List Pc) (v : Nat) (p : Pc) : Prop := At xs v p ∨ ∃ v', v = total xs + g + v' ∧ At ys v' p
theorem atG_zero (xs ys : List Pc) (v : Nat) (p : Pc) : AtG xs 0 ys v p ↔ At (xs ++ ys) v p := by unfold AtG; rw [at_app]; simp
theorem atG_cons (xs ys : List Pc) (g : Nat) (q : Pc) (v : Nat) (p : Pc) : AtG xs g (q :: ys) v p ↔ AtG xs (g + q.takes) ys v p ∨ (v = total xs + g ∧ p = q) := by
  unfold AtG
  constructor
  · rintro (h | ⟨v', rfl, h⟩)
    · exact .inl (.inl h)
    · rcases h with ⟨rfl, rfl⟩ | ⟨v2, rfl, h⟩
      · exact .inr ⟨rfl, rfl⟩
      · exact .inl (.inr ⟨v2, by omega, h⟩)
  · rintro ((h | ⟨v', rfl, h⟩) | ⟨rfl, rfl⟩)
    · exact .inl h
    · exact .inr ⟨q.takes + v', by omega, .inr ⟨v', rfl, h⟩⟩
    · exact .inr ⟨0, rfl, .inl ⟨rfl, rfl⟩⟩
theorem atG_snoc (xs ys : List Pc) (g : Nat) (r : Pc) (v : Nat) (p : Pc) : AtG (xs ++ [r]) g ys v p ↔ AtG xs (r.takes + g) ys v p ∨ (v = total xs ∧ p = r) := by
  unfold AtG
  rw [at_app, total_app]
  simp only [total, Nat.add_zero]
  constructor
  · rintro ((h | ⟨v', rfl, h⟩) | ⟨v', rfl, h⟩)
    · exact .inl (.inl h)
    · rcases h with ⟨rfl, rfl⟩ | ⟨v2, rfl, h⟩
      · exact .inr ⟨rfl, rfl⟩
      · exact h.elim
    · exact .inl (.inr ⟨v', by omega, h⟩)
  · rintro ((h | ⟨v', rfl, h⟩) | ⟨rfl, rfl⟩)
    · exact .inl (.inl h)
    · exact .inr ⟨v', by omega, h⟩
    · exact .inl (.inr ⟨0, rfl, .inl ⟨rfl, rfl⟩⟩)
theorem atG_fill (xs ys : List Pc) (m : Pc) (v : Nat) (p : Pc) : At (xs ++ m :: ys) v p ↔ AtG xs m.takes ys v p ∨ (v = total xs ∧ p = m) := by
  rw [← atG_zero, atG_cons]; simp
theorem atG_uniq {xs ys : List Pc} {g v : Nat} {p q : Pc} (h : AtG xs g ys v p) (k : AtG xs g ys v q) : p = q := by
  rcases h with h | ⟨v1, rfl, h⟩
  · rcases k with k | ⟨v2, e, _⟩
    · exact at_uniq h k
    · have := at_le h; have := takes_pos p; omega
  · rcases k with k | ⟨v2, e, k⟩
    · have := at_le k; have := takes_pos q; omega
    · obtain rfl : v1 = v2 := by omega
      exact at_uniq h k
/-- Nothing begins within the gap. -/
theorem atG_gap {xs ys : List Pc} {g v : Nat} {p : Pc} (h : AtG xs g ys v p) (h1 : total xs ≤ v) (h2 : v < total xs + g) : False := by
  rcases h with h | ⟨v1, rfl, h⟩
  · have := at_le h; have := takes_pos p; omega
  · omega
/-- E names the free pieces. -/
def Frees (E : Nat → Option (Nat × Nat)) (xs : List Pc) (g : Nat) (ys : List Pc) : Prop := ∀ i c v, E i = some (c, v) ↔ ∃ p, AtG xs g ys v p ∧ p.free = true ∧ p.owner = i ∧ cls p.size = c
theorem frees_off {E : Nat → Option (Nat × Nat)} {xs ys xs' ys' : List Pc} {g g' : Nat} {q : Pc} {u : Nat} (h : Frees E xs g ys) (hq : q.free = true) (hi : ∀ v p, AtG xs g ys v p ↔ AtG xs' g' ys' v p ∨ (v = u ∧ p = q)) (hn : ∀ p, ¬ AtG xs' g' ys' u p) : E q.owner = some (cls q.size, u) ∧ Frees (off E q.owner) xs' g' ys' := by
  have hE : E q.owner = some (cls q.size, u) := (h _ _ _).2 ⟨q, (hi u q).2 (.inr ⟨rfl, rfl⟩), hq, rfl, rfl⟩
  refine ⟨hE, fun i c v => ?_⟩
  constructor
  · intro hx
    by_cases e : i = q.owner
    · rw [e, off_same] at hx; cases hx
    · rw [off_ne E e] at hx
      obtain ⟨p, h1, h2, h3, h4⟩ := (h i c v).1 hx
      rcases (hi v p).1 h1 with h5 | ⟨_, rfl⟩
      · exact ⟨p, h5, h2, h3, h4⟩
      · exact absurd h3.symm e
  · rintro ⟨p, h1, h2, h3, h4⟩
    have hx := (h i c v).2 ⟨p, (hi v p).2 (.inl h1), h2, h3, h4⟩
    by_cases e : i = q.owner
    · rw [e, hE] at hx
      cases hx
      exact absurd h1 (hn p)
    · rw [off_ne E e]; exact hx
theorem frees_skip {E : Nat → Option (Nat × Nat)} {xs ys xs' ys' : List Pc} {g g' : Nat} {q : Pc} {u : Nat} (h : Frees E xs g ys) (hq : q.free = false) (hi : ∀ v p, AtG xs g ys v p ↔ AtG xs' g' ys' v p ∨ (v = u ∧ p = q)) : Frees E xs' g' ys' := fun i c v => by
  rw [h i c v]
  constructor
  · rintro ⟨p, h1, h2, h3, h4⟩
    rcases (hi v p).1 h1 with h5 | ⟨_, rfl⟩
    · exact ⟨p, h5, h2, h3, h4⟩
    · rw [hq] at h2; cases h2
  · rintro ⟨p, h1, h2, h3, h4⟩
    exact ⟨p, (hi v p).2 (.inl h1), h2, h3, h4⟩
/-- A block in the gap. -/
theorem frees_block {E : Nat → Option (Nat × Nat)} {xs ys : List Pc} {m : Pc} (h : Frees E xs m.takes ys) (hm : m.free = false) : Frees E (xs ++ [m]) 0 ys := fun i c v => by
  rw [h i c v]
  constructor
  · rintro ⟨p, h1, h2, h3, h4⟩
    exact ⟨p, (atG_snoc xs ys 0 m v p).2 (.inl h1), h2, h3, h4⟩
  · rintro ⟨p, h1, h2, h3, h4⟩
    rcases (atG_snoc xs ys 0 m v p).1 h1 with h5 | ⟨_, rfl⟩
    · exact ⟨p, h5, h2, h3, h4⟩
    · rw [hm] at h2; cases h2
/-- A free piece in the gap. -/
theorem frees_fill {E : Nat → Option (Nat × Nat)} {xs ys : List Pc} {k : Nat} {raw : List UInt8} (h : Frees E xs raw.length ys) (h8 : 8 ≤ raw.length) (hk : E k = none) : Frees (on E k (cls raw.length, total xs)) xs 0 (mkFree k raw :: ys) := fun i c v => by
  have ht := mkFree_takes (k := k) (raw := raw) h8
  constructor
  · intro hx
    by_cases e : i = k
    · rw [e, on_same] at hx
      cases hx
      exact ⟨mkFree k raw, (atG_cons _ _ _ _ _ _).2 (.inr ⟨by omega, rfl⟩), rfl, e.symm, rfl⟩
    · rw [on_ne E _ e] at hx
      obtain ⟨p, h1, h2, h3, h4⟩ := (h i c v).1 hx
      exact ⟨p, (atG_cons _ _ _ _ _ _).2 (.inl (by rw [ht, Nat.zero_add]; exact h1)), h2, h3, h4⟩
  · rintro ⟨p, h1, h2, h3, h4⟩
    rcases (atG_cons _ _ _ _ _ _).1 h1 with h5 | ⟨rfl, rfl⟩
    · rw [ht, Nat.zero_add] at h5
      have hx := (h i c v).2 ⟨p, h5, h2, h3, h4⟩
      have e : i ≠ k := fun e => by rw [e, hk] at hx; cases hx
      rw [on_ne E _ e]; exact hx
    · have e : k = i := h3
      have h4' : cls raw.length = c := h4
      rw [← e, on_same, ← h4']
      simp
/-- What the node of a free piece is. -/
theorem Ch.node {nd : List Node} {spare : Nat} {E : Nat → Option (Nat × Nat)} {sp : List Nat} (h : Ch nd spare E sp) {i : Nat} {x : Nat × Nat} (hx : E i = some x) : i < nd.length ∧ (nodeAt nd i).n < nd.length ∧ (nodeAt nd i).l < nd.length := by
  have hl := h.low i x hx
  have hlab : lab E i = some x.1 := by unfold lab; rw [if_neg (by omega), hx]; rfl
  exact ⟨hl.2.1, (lab_lt h (h.nx i _ hlab).1).1, (lab_lt h (h.pv i _ hlab).1).1⟩
theorem Ch.class {nd : List Node} {spare : Nat} {E : Nat → Option (Nat × Nat)} {sp : List Nat} (h : Ch nd spare E sp) {c : Nat} (hc : c < 17) : c < nd.length ∧ (nodeAt nd c).n < nd.length := by
  have hlab : lab E c = some c := by unfold lab; rw [if_pos hc]
  exact ⟨by have := h.len; omega, (lab_lt h (h.nx c _ hlab).1).1⟩
/-- The first of a class. -/
theorem Ch.first {nd : List Node} {spare : Nat} {E : Nat → Option (Nat × Nat)} {sp : List Nat} (h : Ch nd spare E sp) {c : Nat} (hc : c < 17) (hne : (nodeAt nd c).n ≠ c) : E (nodeAt nd c).n = some (c, (nodeAt nd (nodeAt nd c).n).v) := by
  have hlab : lab E c = some c := by unfold lab; rw [if_pos hc]
  have hn := (h.nx c _ hlab).1
  unfold lab at hn
  split at hn
  · exact absurd (Option.some.inj hn) hne
  · obtain ⟨⟨x, y⟩, hx, rfl⟩ := Option.map_eq_some_iff.1 hn
    rw [h.val _ _ _ hx]
    exact hx
/-- How many nodes there are: pieces have at least 16 bytes. -/
theorem nodup_le {α : Type} [DecidableEq α] : ∀ {l m : List α}, l.Nodup → (∀ x ∈ l, x ∈ m) → l.length ≤ m.length
  | [], m, _, _ => Nat.zero_le _
  | x :: l, m, h, hs => by
    obtain ⟨h1, h2⟩ := List.nodup_cons.1 h
    have hx := hs x (List.mem_cons_self ..)
    have := nodup_le (l := l) (m := m.erase x) h2 (fun y hy => (List.mem_erase_of_ne (fun e => h1 (by rw [← e]; exact hy))).2 (hs y (List.mem_cons_of_mem _ hy)))
    rw [List.length_erase_of_mem hx] at this
    have : 0 < m.length := List.length_pos_of_mem hx
    simp only [List.length_cons]; omega
theorem total_ge : ∀ {xs : List Pc}, (∀ p ∈ xs, p.Ok) → 16 * xs.length ≤ total xs
  | [], _ => Nat.zero_le _
  | p :: r, h => by
    have := (h p (List.mem_cons_self ..)).ge
    have := total_ge (xs := r) (fun q hq => h q (List.mem_cons_of_mem _ hq))
    simp only [total, List.length_cons]; omega
end Ar
end Go.Proofs.YtagjjpmhacknpaaDoor
