/- room, Compact. -/
import Derived.Test.YtkndbldjablhoaaDoorSlidei
set_option maxRecDepth 100000
namespace Go.Proofs.YtkndbldjablhoaaDoor
open Go.RowKit Go.Shelf
namespace Ar
theorem Inv.fit {S : St} {pcs : List Pc} (I : Inv S pcs) {n c : Nat} (hn : n ≤ 4096) (h1 : cls (cost n) ≤ c) (h2 : c < 17) (h3 : (nodeAt S.nd c).n ≠ c) : ∃ xs p ys, pcs = xs ++ p :: ys ∧ total xs = (nodeAt S.nd (nodeAt S.nd c).n).v ∧ p.free = true ∧ cost n ≤ p.takes := by
  obtain ⟨E, sp, hc, hf⟩ := I.fr
  obtain ⟨p, a1, a2, a3, a4⟩ := (hf _ _ _).1 (hc.first h2 h3)
  have a5 := (atG_zero _ _ _ _).1 a1
  rw [List.append_nil] at a5
  obtain ⟨xs, ys, rfl, e⟩ := at_split a5
  have hp := I.ok p (by simp)
  have hl := I.len
  have hlim := I.lim
  rw [total_app] at hl
  simp only [total] at hl
  have hsz := hp.fr a2
  refine ⟨xs, p, ys, rfl, e, a2, ?_⟩
  rw [← hsz]
  exact cls_fits hn (by have := hp.ge; omega) (by omega) (by rw [a4]; exact h1)
theorem Inv.rings {S : St} {pcs : List Pc} (I : Inv S pcs) : 17 ≤ S.nd.length ∧ (∀ c, c < 17 → (nodeAt S.nd c).n < S.nd.length) ∧ S.nd.length ≤ 200000 := by
  obtain ⟨E, sp, hc, _⟩ := I.fr
  exact ⟨hc.len, fun c h => (hc.class h).2, by have := I.nd; omega⟩
end Ar
theorem slide_at (A : Nat) (L : Loc) (S : Ar.St) (pcs : List Ar.Pc) (f : Nat → Prop) (w : World) (hA : ArE A L S f w) (I : Ar.Inv S pcs) :
    ∃ S2 pcs2, Ar.Inv S2 pcs2 ∧ Ar.blocks pcs2 = Ar.blocks pcs ∧ S2.mem.length = S.mem.length ∧ (∀ n, n ≤ 4096 → Ar.cost n ≤ S.mem.length - S.used → ∃ c, Ar.cls (Ar.cost n) ≤ c ∧ c < 17 ∧ (Ar.nodeAt S2.nd c).n ≠ c) ∧
      Calls Tryd.prog 45 #[.pointer (some ⟨A, 0, none⟩)] w fun e w' => e = .returned (.tuple #[]) ∧ ∃ L', Ars A L' S2 f w w' := by
  obtain ⟨R, h1, h2, pcs2, h3, h4, h5, h6⟩ := Ar.slide_inv I
  exact ⟨_, pcs2, h3, h4, h5, h6, slide_any A L S R _ _ f w hA I.lim (by have := I.tab.lim; omega) h1 h2⟩
/-- What room hands back. -/
def RoomRet (A : Nat) (S : Ar.St) (pcs : List Ar.Pc) (n : Nat) (f : Nat → Prop) (w : World) (e : Ending) (w' : World) : Prop :=
  ∃ L' S' xs p ys, e = .returned (.int .i64 (Ar.total xs : Int)) ∧ Ars A L' S' f w w' ∧ Ar.Inv S' (xs ++ p :: ys) ∧ Ar.blocks (xs ++ p :: ys) = Ar.blocks pcs ∧ S'.mem.length = S.mem.length ∧ p.free = true ∧ Ar.cost n ≤ p.takes
set_option maxHeartbeats 4000000 in
theorem room_any (A : Nat) (L : Loc) (S : Ar.St) (pcs : List Ar.Pc) (f : Nat → Prop) (n cn : Nat) (w : World) (hA : ArE A L S f w) (I : Ar.Inv S pcs) (hn : n ≤ 4096) (hcn : Ar.cost n = cn) (hl : Ar.cost n ≤ S.mem.length - S.used) :
    Calls Tryd.prog 33 #[.pointer (some ⟨A, 0, none⟩), .int .i64 (cn : Int)] w (RoomRet A S pcs n f w) := by
  have hg := Ar.cost_ge n hn
  obtain ⟨r1, r2, r3⟩ := I.rings
  have hfit := fitting_any A L S f cn w hA (by omega) (by omega) r1 r2 r3
  unfold FitRet at hfit
  have HF := Lib.hid hfit
  obtain ⟨S2, pcs2, I2, b2, m2, f2, hsl⟩ := slide_at A L S pcs f w hA I
  have HSL := Lib.hid hsl
  obtain ⟨r1', r2', r3'⟩ := I2.rings
  have HF2 : Hid (∀ L' g w2, ArE A L' S2 g w2 → Calls Tryd.prog 54 #[.pointer (some ⟨A, 0, none⟩), .int .i64 (cn : Int)] w2 (FitRet S2 (Ar.cls cn) w2)) := Lib.hid (fun L' g w2 hA2 => fitting_any A L' S2 g cn w2 hA2 (by omega) (by omega) r1' r2' r3')
  have HA := Lib.hid (Ars.start hA)
  have end1 : Hid (∀ v c, Ar.cls cn ≤ c → c < 17 → (Ar.nodeAt S.nd c).n ≠ c → v = (Ar.nodeAt S.nd (Ar.nodeAt S.nd c).n).v → RoomRet A S pcs n f w (.returned (.int .i64 (v : Int))) w) := Lib.hid (fun v c h1 h2 h3 h4 => by
    obtain ⟨xs, p, ys, e1, e2, e3, e4⟩ := I.fit hn (by rw [hcn]; exact h1) h2 h3
    subst e1
    exact ⟨L, S, xs, p, ys, by rw [h4, e2], Ars.start hA, I, rfl, rfl, e3, e4⟩)
  have end2 : Hid (∀ v c L' w', Ars A L' S2 f w w' → Ar.cls cn ≤ c → c < 17 → (Ar.nodeAt S2.nd c).n ≠ c → v = (Ar.nodeAt S2.nd (Ar.nodeAt S2.nd c).n).v → RoomRet A S pcs n f w (.returned (.int .i64 (v : Int))) w') := Lib.hid (fun v c L' w' hA' h1 h2 h3 h4 => by
    obtain ⟨xs, p, ys, e1, e2, e3, e4⟩ := I2.fit hn (by rw [hcn]; exact h1) h2 h3
    subst e1
    exact ⟨L', S2, xs, p, ys, by rw [h4, e2], hA', I2, b2, m2, e3, e4⟩)
  have hex := Lib.hid (f2 n hn hl)
  rw [hcn] at hex
  clear hfit hsl hA I I2 r1 r2 r3 r1' r2' r3' f2 hcn hl hg
  go_enter Tryd.func33, Tryd.ntmps33
  go_wp2_with (go_at_call 54; (refine HF.out.mono ?_); rintro e w' ⟨⟨v, ok, rfl, ht, hf⟩, rfl⟩; have HT := Lib.hid ht; have HFF := Lib.hid hf; clear ht hf; refine Hid.out ?_)
  refine Lib.hid ?_
  cases ok
  · go_wp2_with (first
      | (go_at_call 45; (refine HSL.out.mono ?_); rintro e w2 ⟨rfl, L2, hA2⟩; have HA2 := Lib.hid hA2; clear hA2)
      | (go_at_call 54; (refine (HF2.out L2 _ _ HA2.out.ar).mono ?_); rintro e w' ⟨⟨v2, ok2, rfl, ht2, hf2⟩, rfl⟩; have HT2 := Lib.hid ht2; have HFF2 := Lib.hid hf2; clear ht2 hf2))
    go_ret
    obtain ⟨c, c1, c2, c3⟩ := hex.out
    cases hok : ok2 with
    | false => exact absurd (HFF2.out hok c c1 c2) c3
    | true =>
      obtain ⟨c', d1, d2, d3, d4⟩ := HT2.out hok
      exact end2.out v2 c' L2 _ HA2.out d1 d2 d3 d4
  · go_wp2
    go_ret
    obtain ⟨c', d1, d2, d3, d4⟩ := HT.out (by trivial)
    exact end1.out v c' d1 d2 d3 d4
def CompRet (A : Nat) (S : Ar.St) (pcs : List Ar.Pc) (f : Nat → Prop) (w : World) (e : Ending) (w' : World) : Prop :=
  e = .returned (.int .i64 ((S.mem.length - S.used : Nat) : Int)) ∧ ∃ L' S' pcs', Ars A L' S' f w w' ∧ Ar.Inv S' pcs' ∧ Ar.blocks pcs' = Ar.blocks pcs ∧ S'.mem.length = S.mem.length
set_option maxHeartbeats 4000000 in
theorem compact_any (A : Nat) (L : Loc) (S : Ar.St) (pcs : List Ar.Pc) (f : Nat → Prop) (w : World) (hA : ArE A L S f w) (I : Ar.Inv S pcs) :
    Calls Tryd.prog 21 #[.pointer (some ⟨A, 0, none⟩)] w (CompRet A S pcs f w) := by
  obtain ⟨S2, pcs2, I2, b2, m2, _, hsl⟩ := slide_at A L S pcs f w hA I
  have HSL := Lib.hid hsl
  have hs2 := I2.sane
  have hu : S2.used = S.used := by rw [I2.used, b2, I.used]
  have HU := Lib.hid hu
  have HM := Lib.hid m2
  have hb := hs2.mem
  have hb2 := hs2.used
  clear hsl hu hA hs2 m2
  go_enter Tryd.func21, Tryd.ntmps21
  go_wp2_with (first
    | (go_at_call 45; (refine HSL.out.mono ?_); rintro e w2 ⟨rfl, L2, hA2⟩; have HA2 := Lib.hid hA2; clear hA2)
    | (go_at_call 25; (refine (left_any A L2 S2 _ _ HA2.out.ar hb hb2).mono ?_); rintro e w' ⟨rfl, rfl⟩))
  go_ret
  exact ⟨by rw [HU.out, HM.out]; rfl, L2, S2, pcs2, HA2.out, I2, b2, HM.out⟩
end Go.Proofs.YtkndbldjablhoaaDoor
