/- Free, in memory. -/
import Derived.Test.YtkndbldjablhoaaDoorFreem
set_option maxRecDepth 100000
namespace Go.Proofs.YtkndbldjablhoaaDoor
open Go.RowKit Go.Shelf
/-- What Free leaves. -/
def FreeRet (A : Nat) (S : Ar.St) (pcs : List Ar.Pc) (h : Int) (f : Nat → Prop) (w : World) (e : Ending) (w' : World) : Prop :=
  e = .returned (.int .i64 0) ∧ ∃ L' S' pcs' B1 B2 p, Ars A L' S' f w w' ∧ Ar.Inv S' pcs' ∧ S'.mem.length = S.mem.length ∧ Ar.blocks pcs = B1 ++ p :: B2 ∧ Ar.blocks pcs' = B1 ++ B2 ∧ (p.owner : Int) = h
theorem Ars.cell1 {A : Nat} {L : Loc} {S : Ar.St} {f : Nat → Prop} {w w1 : World} (h : Ars A L S f w w1) : w1.cell? ⟨A, 1, none⟩ = some (.int .i64 (S.used : Int)) := h.ar.cells.2.1
set_option maxHeartbeats 4000000 in
theorem free_any (A : Nat) (L : Loc) (S : Ar.St) (pcs : List Ar.Pc) (f : Nat → Prop) (h : Int) (v : Nat) (w : World) (hA : ArE A L S f w) (I : Ar.Inv S pcs) (hq : Ar.PlaceOf S h = some v) :
    Calls Tryd.prog 15 #[.pointer (some ⟨A, 0, none⟩), .int .i64 h] w (FreeRet A S pcs h f w) := by
  have hs := I.sane
  obtain ⟨xs, p, ys, k, rfl, rfl, hf, hk, hz, hkl⟩ := I.block_pos hq
  obtain ⟨rest, q, bq, S1, ys1, raw1, a1, E1, sp1, r, br, S2, xs2, raw2, E2, sp2, R, Lr, ok3, hh, hkl2, pcs', hinv, hbl⟩ := Ar.free_math I hf hk
  have hlen := I.len
  have hpo := I.ok p (by simp)
  have hlim := I.lim
  rw [Ar.total_app] at hlen
  simp only [Ar.total] at hlen
  have hp16 := hpo.ge
  have htk := Ar.head_takes hpo (Ar.lastT 0 xs)
  have hus : p.takes ≤ S.used := by
    rw [I.used, Ar.blocks_app, Ar.blocks_block ys hf, Ar.sumT_app, Ar.sumT_cons]; omega
  have hul := hs.used
  have hs1 : ((S.used - p.takes : Nat) : Int) = (S.used : Int) - (p.takes : Int) := by omega
  have HS1 := Lib.hid hs1
  have hle : Ar.lastT 0 xs ≤ Ar.total xs := Lr.le
  have hrel := fun (w : World) (L : Loc) (g : Nat → Prop) (hA : ArE A L (Ar.freed S p.takes k) g w) => release_any A L (Ar.freed S p.takes k) S1 S2 g (Ar.total xs) p.takes (p.hd (Ar.lastT 0 xs)) q r bq br w hA hlim (by show _ ≤ S.mem.length; omega) hh htk (by omega) hle R.took R.take R.ok Lr.took Lr.take Lr.ok R.q Lr.r ok3
  have HREL := Lib.hid hrel
  have hend : ∀ L' w', Ars A L' (Ar.relEnd S2 (Ar.total xs) (p.hd (Ar.lastT 0 xs)) (Ar.relSize p.takes q bq) r br) f w w' → FreeRet A S (xs ++ p :: ys) h f w (.returned (.int .i64 0)) w' := fun L' w' hA' => by
    refine ⟨rfl, L', _, pcs', Ar.blocks xs, Ar.blocks ys, p, hA', hinv, ?_, by rw [Ar.blocks_app, Ar.blocks_block ys hf], hbl, by rw [hk]; exact hz.symm⟩
    have hl' := hinv.len
    have m1 := R.mem
    have m2 := Lr.nd.2
    have : (Ar.relEnd S2 (Ar.total xs) (p.hd (Ar.lastT 0 xs)) (Ar.relSize p.takes q bq) r br).mem.length = S2.mem.length := by
      cases br
      · exact Ar.putFree_len _ _ _ _ ok3.1 ok3.2.1 ok3.2.2.1
      · exact Ar.putFree_len _ _ _ _ ok3.1 ok3.2.1 ok3.2.2.1
    rw [this, m2, m1]; rfl
  have HEND := Lib.hid hend
  have HZ : Hid (h = (k : Int) + 1) := Lib.hid (by rw [hz]; omega)
  have HH := Lib.hid hh
  have HTK := Lib.hid htk
  have HA := Lib.hid (Ars.start hA)
  have HQ := Lib.hid hq
  have htab := I.tab
  have HTB := Lib.hid htab
  generalize Ar.lastT 0 xs = a0 at *
  generalize hV : Ar.total xs = V at *
  clear hz hA hq hh htk hrel hend R Lr ok3 hinv hbl hV I hs1 hpo htab
  obtain ⟨fr, ow, sz, da⟩ := p
  simp only [Ar.Pc.hd] at HH HTK HREL HEND
  simp only at hf hk
  subst hf
  subst hk
  generalize (Ar.Pc.mk false (k + 1) sz da).takes = tk at *
  go_enter Tryd.func15, Tryd.ntmps15
  go_wp2_with (go_at_call 37; (with_reducible refine (block_some A L S _ _ V _ HA.out.ar hs HQ.out).mono ?_); rintro e w' ⟨rfl, n, rfl⟩; have HA0 := Lib.hid (HA.out.drew n); refine Hid.out ?_)
  refine Lib.hid ?_
  generalize w.drewN n = W0 at HA0 ⊢
  have HA1 := Lib.hid (HA0.out.drw)
  have y0 := HA0.out.cell1
  have f0 := HA0.out.ar.box.frozen 1
  have hwr : IntKind.i64.wrap ((S.used : Int) - (tk : Int)) = ((S.used - tk : Nat) : Int) := by rw [HS1.out, IntKind.wrap_i64]; omega
  have HWR := Lib.hid hwr
  clear hwr
  go_wp2
  go_region_with (first
    | (go_at_call 38; refine (head_agg A L S _ _ V ⟨false, k + 1, sz, a0⟩ _ rfl HA1.out.ar hlim (by omega) HH.out).mono ?_; rintro e w1 ⟨rfl, hb1⟩; have HA2 := Lib.hid (HA1.out.below hb1); have y2 := HA2.out.cell1; clear hb1)
    | (go_at_call 39; refine (takes_agg ⟨false, k + 1, sz, a0⟩ tk _ HTK.out).mono ?_; rintro e w2 ⟨rfl, hb2⟩; have HA3 := Lib.hid (HA2.out.below hb2); have y3 := HA3.out.cell1; have f3 := HA3.out.ar.box.frozen 1; clear hb2))
  all_goals
    rw [HWR.out]
    clear y0 f0 y2 y3 f3
    have HA4 := Lib.hid (HA3.out.call (Trn.set HA3.out.ar.box (.inl rfl) 1 (encI (S.used - tk))) (HA3.out.ar.tight.setBox (S' := { S with used := S.used - tk }) 1 (encI (S.used - tk)) rfl rfl rfl rfl rfl))
    unfold encI at HA4
    generalize World.setCell w2 _ _ = W5 at HA4 ⊢
    clear HA3 HA2 HA1 HA0
    go_wp2_with (first
      | (go_at_call 40; (refine (hdrop_any A L { S with used := S.used - tk } _ h k _ HZ.out HA4.out.ar.tight hkl hs.pl hs.plus hs.us hs.low).mono ?_); rintro e w6 ⟨rfl, ht6, hA6⟩; have HA6 := Lib.hid (HA4.out.call ht6 hA6); clear ht6 hA6)
      | (go_at_call 41; (refine (HREL.out _ L _ HA6.out.ar.tight).mono ?_); rintro e w7 ⟨rfl, L7, hA7⟩; have HA7 := Lib.hid (HA6.out.callR hA7); clear hA7))
    go_ret
    exact HEND.out _ _ HA7.out
end Go.Proofs.YtkndbldjablhoaaDoor
