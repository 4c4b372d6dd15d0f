/- inside, fitting. -/
import Derived.Test.YtkndbldjablhoaaDoorAtkf
import Derived.Deep.RegionHeld3
import Derived.IntWalk
set_option maxRecDepth 100000
namespace Go.Proofs.YtkndbldjablhoaaDoor
open Go.RowKit Go.Shelf
theorem head_below {w w' : World} (h : Below w.drew.heap.size w.drew w') : Below w.heap.size w w' := (Below.refl _ w).drew.trans h
set_option maxHeartbeats 2000000 in
theorem inside_any (A : Nat) (L : Loc) (S : Ar.St) (f : Nat → Prop) (a n : Nat) (w : World) (h : ArE A L S f w) (hm : S.mem.length ≤ 1048576) (hp : (Ar.headAt S.mem a).size = n) (ha : a + 8 + n ≤ S.mem.length) (ha2 : a + 8 < S.mem.length) :
    Calls Tryd.prog 59 #[.pointer (some ⟨A, 0, none⟩), .int .i64 (a : Int)] w fun e w' => (∃ c, e = .returned (.slice (some ⟨L.M, a + 8, none⟩) n c) ∧ c = S.mem.length - (a + 8)) ∧ Below w.heap.size w w' := by
  have hc := h.cells.1
  have hAl := h.box.lt
  obtain ⟨p, hpp⟩ : ∃ p, Ar.headAt S.mem a = p := ⟨_, rfl⟩
  rw [hpp] at hp
  have HPp := Lib.hid hpp
  clear hpp
  obtain ⟨fr, ow, sz, ah⟩ := p
  simp only at hp
  subst hp
  have hs1 : ((a + 8 : Nat) : Int) = (a : Int) + 8 := by omega
  have HA := Lib.hid h
  clear h
  have hfd : ∀ w : World, (Instr.field 76 (.agg #[.bool fr, .int .i64 (ow : Int), .int .i64 (sz : Int), .int .i64 (ah : Int)]) 2).run Tryd.prog w = .ok (.int .i64 (sz : Int)) w := fun _ => by kernel_rfl
  have hw1 : IntKind.i64.wrap ((a : Int) + 8 + (sz : Int)) = (a : Int) + 8 + (sz : Int) := IntWalk.i64_in _ (by omega)
  have hw2 : (0 : Int) ≤ (a : Int) + 8 + (sz : Int) := by omega
  have hw3 : ((a : Int) + 8 + (sz : Int)).toNat = a + 8 + sz := by omega
  have hw4 : (a : Int) + 8 ≤ (a : Int) + 8 + (sz : Int) := by omega
  have hw5 : (a : Int) + 8 + (sz : Int) ≤ (S.mem.length : Int) := by omega
  have hw7 : ¬ (S.mem.length = a + 8) := by omega
  have hw8 : ¬ (a + 8 = S.mem.length) := by omega
  have hw6 : ((a : Int) + 8).toNat = a + 8 := by omega
  go_enter Tryd.func59, Tryd.ntmps59
  go_wp2
  go_region_with (go_at_call 38; refine (head_agg A L S _ _ a ⟨fr, ow, sz, ah⟩ _ rfl HA.out.drw hm (by omega) HPp.out).mono ?_; rintro e w3 ⟨rfl, hb3⟩; have hc3 := ((head_below hb3).cell (p := ⟨A, 0, none⟩) hAl).trans hc; replace hb3 := Lib.hid (head_below hb3))
  all_goals
    go_wp2
    go_ret
    exact ⟨⟨_, rfl, rfl⟩, hb3.out⟩
def FitRet (S : Ar.St) (c0 : Nat) (w : World) (e : Ending) (w' : World) : Prop :=
  (∃ (at_ : Nat) (ok : Bool), e = .returned (.tuple #[.int .i64 (at_ : Int), .bool ok]) ∧ (ok = true → ∃ c, c0 ≤ c ∧ c < 17 ∧ (Ar.nodeAt S.nd c).n ≠ c ∧ at_ = (Ar.nodeAt S.nd (Ar.nodeAt S.nd c).n).v) ∧ (ok = false → ∀ c, c0 ≤ c → c < 17 → (Ar.nodeAt S.nd c).n = c)) ∧ w = w'
set_option maxHeartbeats 2000000 in
theorem fitting_any (A : Nat) (L : Loc) (S : Ar.St) (f : Nat → Prop) (cost : Nat) (w : World) (h : ArE A L S f w) (h1 : 16 ≤ cost) (h2 : cost ≤ 1048576) (hc1 : 17 ≤ S.nd.length) (hc2 : ∀ c, c < 17 → (Ar.nodeAt S.nd c).n < S.nd.length) (hc4 : S.nd.length ≤ 200000) :
    Calls Tryd.prog 54 #[.pointer (some ⟨A, 0, none⟩), .int .i64 (cost : Int)] w (FitRet S (Ar.cls cost) w) := by
  have hcl := (Ar.cls_spec h1 h2).2.2
  have HA := Lib.hid (h.che hc4)
  have HC := Lib.hid hc2
  clear h hc2
  generalize hcc : Ar.cls cost = c0 at *
  have HCC := Lib.hid hcc
  clear hcc
  go_enter Tryd.func54, Tryd.ntmps54
  go_wp2_with (go_at_call 53; (refine (classOf_any cost _ h1 (by omega)).mono ?_); rintro e w' ⟨rfl, rfl⟩; rw [HCC.out])
  go_loop [4, 5, 6] (fun x b i => ∃ (k x0 : Nat) (ok : Bool), c0 ≤ k ∧ k ≤ 17 ∧ i = .int .i64 (k : Int) ∧ x = .int .i64 (x0 : Int) ∧ b = .bool ok ∧ (ok = true → ∃ c, c0 ≤ c ∧ c < 17 ∧ (Ar.nodeAt S.nd c).n ≠ c ∧ x0 = (Ar.nodeAt S.nd (Ar.nodeAt S.nd c).n).v) ∧ (ok = false → ∀ c, c0 ≤ c → c < k → (Ar.nodeAt S.nd c).n = c)) (fun _ _ i => 17 - (intOf i).toNat)
  case atStart => exact ⟨c0, 0, false, by omega, by omega, rfl, rfl, rfl, by simp, fun _ c h1 h2 => by omega⟩
  case round =>
    obtain ⟨k, x0, ok, hk1, hk2, rfl, rfl, rfl, ht, hf⟩ := hrel
    by_cases hlt : k < 17
    · have hck := HC.out k hlt
      cases ok
      · go_wp2_with (go_at_call 65; (refine (first_any A 5 73 (arBox L S) L.N L.cap L.rest S.nd S.spare k _ HA.out (by omega) hck).mono ?_); rintro e w' ⟨rfl, rfl⟩; unfold encI)
        go_round
        case rel => exact ⟨k + 1, _, _, by omega, by omega, by go_num, rfl, rfl, fun e => ⟨k, hk1, hlt, by simpa using e, rfl⟩, fun e c h1 h2 => by
          by_cases h3 : c < k
          · exact hf (by trivial) c h1 h3
          · obtain rfl : c = k := by omega
            simpa using e⟩
        case measure => simp [intOf]; omega
      · have HT := Lib.hid ht
        clear ht hf
        go_wp2
        go_ret2
        exact ⟨⟨x0, true, rfl, fun _ => HT.out (by trivial), fun e => by cases e⟩, rfl⟩
    · obtain rfl : k = 17 := by omega
      have HT := Lib.hid (And.intro ht hf)
      clear ht hf
      go_wp2
      go_ret2
      exact ⟨⟨x0, ok, rfl, HT.out.1, HT.out.2⟩, rfl⟩
end Go.Proofs.YtkndbldjablhoaaDoor
